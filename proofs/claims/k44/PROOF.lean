import PyProof.Rows.All
import Wide.All
import OpenK.AllK
import Wide.FinOn
import Lean
import PyProof.EqAt
import PyProof.EqKinds
import PyProof.TupleCall
import PyProof.NeKinds
import PySem.Challenge.RW_helmsum_k44_whole_where_puts_lead
set_option Elab.async false
set_option linter.all false
set_option maxRecDepth 100000
abbrev ae:=@List.getD_eq_getElem?_getD
abbrev ag:=@List.getElem?_eq_getElem
abbrev aj:=@Nat.le_trans
abbrev ao:=@Nat.le_refl
abbrev ar:=@List.length_map
abbrev au:=@Nat.pow_le_pow_right
abbrev av:=@List.length_append
abbrev ay:=@List.mem_of_getElem?
abbrev az:=@List.mem_append
abbrev aA:=@Nat.mul_le_mul_right
abbrev aD:=@List.mem_map
abbrev aE:=@List.length_replicate
abbrev aF:=@Nat.mul_le_mul
abbrev aG:=@List.mem_cons
abbrev aH:=@List.take_of_length_le
abbrev aI:=@List.getElem?_eq_some_iff
abbrev aJ:=@List.getElem_mem
abbrev aK:=@List.getElem?_map
abbrev aN:=@Nat.mul_le_mul_left
abbrev aP:=@List.size_toArray
abbrev aQ:=@Rat.intCast_natCast
abbrev aR:=@List.getElem?_eq_none
abbrev aT:=@Rat.intCast_mul
abbrev aV:=@PySem.boot_len
abbrev aY:=@Nat.le_of_lt
abbrev aZ:=@List.getElem?_append_right
abbrev ba:=@List.not_mem_nil
abbrev bf:=@Nat.pow_add
abbrev bA:=@Bool.false_ne_true
abbrev bC:=@List.mem_append_right
abbrev bD:=@Nat.zero_le
abbrev bE:=@List.getElem?_append_left
abbrev bF:=@Nat.lt_of_lt_of_le
abbrev bG:=@Nat.lt_of_le_of_lt
abbrev bP:=@List.length_cons
abbrev bS:=@List.getElem_of_mem
abbrev bT:=@List.mem_singleton
abbrev bU:=@List.length_singleton
abbrev bW:=@Nat.mul_pos
abbrev bY:=@List.getElem?_zipWith
abbrev b7:=@Nat.mul_comm
abbrev b9:=@List.length_zipWith
abbrev cb:=@List.mem_cons_of_mem
abbrev cg:=@Nat.ne_of_lt
abbrev ck:=@Int.natAbs_natCast
abbrev cm:=@Option.some.inj
abbrev cn:=@Int.eq_ofNat_of_zero_le
abbrev cv:=@List.mem_or_eq_of_mem_set
abbrev cz:=@List.mem_of_mem_take
abbrev cA:=@Int.fdiv_eq_ediv_of_nonneg
abbrev cD:=@List.append_assoc
abbrev cE:=@Nat.mul_assoc
abbrev cH:=@Nat.le_mul_of_pos_left
abbrev cK:=@List.length_range
abbrev cO:=@List.length_take
abbrev cR:=@Nat.lt_or_ge
abbrev cU:=@List.nil_append
abbrev cV:=@List.map_append
abbrev cX:=@Nat.dvd_mul_left
abbrev cY:=@Int.natAbs_mul
abbrev dn:=@Nat.le_mul_of_pos_right
abbrev dq:=@List.mem_replicate
abbrev du:=@List.mem_cons_self
abbrev dy:=@PySem.W.kia_one
abbrev dA:=@Nat.succ_mul
abbrev dC:=@List.getElem?_range
abbrev dG:=@List.nodup_append
abbrev dI:=@Int.mul_assoc
abbrev dM:=@Rat.intCast_neg
abbrev dN:=@Rat.intCast_inj
abbrev dO:=@Nat.pow_succ
abbrev dP:=@List.length_set
abbrev dQ:=@PySem.F.plainAttrs_list
abbrev dR:=@Nat.succ_le_succ
abbrev dS:=@Nat.pow_pos
abbrev dX:=@Nat.pow_lt_pow_right
abbrev dY:=@List.mem_append_left
abbrev dZ:=@Bool.and_eq_true
abbrev eF:=@List.zipWith_cons_cons
abbrev eJ:=@Rat.natCast_mul
abbrev eK:=@List.nodup_cons
abbrev eN:=@List.drop_eq_getElem_cons
abbrev eX:=@List.mem_flatten
abbrev eY:=@List.ext_getElem
abbrev e8:=@List.cons_append
abbrev fb:=@Int.gcd_dvd_left
abbrev fj:=@Rat.mul_comm
abbrev fk:=@PySem.F.type_list_append
abbrev fo:=@PySem.F.slot_list_append
abbrev fq:=@Nat.lt_irrefl
abbrev ft:=@Nat.mul_add
abbrev fu:=@List.getElem_zipWith
abbrev fH:=@List.getElem?_replicate
abbrev fI:=@Int.gcd_dvd_right
abbrev fJ:=@Nat.not_lt_zero
abbrev fQ:=@Nat.sub_self
abbrev fR:=@Int.mul_comm
abbrev gh:=@Nat.dvd_trans
abbrev gA:=@Nat.eq_zero_or_pos
abbrev gJ:=@Int.natAbs_dvd_natAbs
abbrev ik:=@List.flatten_cons
abbrev il:=@List.ext_getElem?
abbrev iu:=@List.map_cons
abbrev iw:=@List.eq_of_mem_replicate
abbrev jg:=@Nat.pow_le_pow_left
abbrev jh:=@List.replicate_succ
abbrev ji:=@List.flatten_append
abbrev jl:=@Nat.lt_succ_self
abbrev jE:=@Nat.one_le_two_pow
abbrev jF:=@Int.emod_lt_of_pos
abbrev jG:=@Bool.false_eq_true
abbrev kg:=@Nat.le_of_dvd
abbrev mY:=@Rat.zero_mul
abbrev mZ:=@Rat.mul_zero
abbrev nh:=@Rat.add_zero
abbrev nk:=@PySem.IsL.update
abbrev nA:=@List.lookup_cons
abbrev nB:=@Int.gcd_comm
abbrev nP:=@PySem.F.plain_extend_loop
abbrev nQ:=@PySem.mem_of_lookup
abbrev nR:=@List.length_reverse
abbrev oY:=@List.append_nil
abbrev oZ:=@Int.emod_nonneg
abbrev o5:=@Bool.eq_iff_iff
abbrev pU:=@Int.mul_pos
abbrev pV:=@Int.dvd_mul_of_dvd_left
abbrev rB:=@List.nodup_nil
abbrev sQ:=@PySem.F.slot_zip_next
abbrev sR:=@List.all_eq_true
abbrev uD:=@Nat.one_mul
abbrev uE:=@Nat.le_succ
abbrev uF:=@List.map_id
abbrev uH:=@Nat.min_eq_left
abbrev uI:=@List.map_const'
abbrev wD:=@List.map_map
abbrev xi:=@Int.natAbs_neg
abbrev xj:=@Int.eq_of_mul_eq_mul_right
abbrev yz:=@Nat.pow_mul
abbrev yA:=@Nat.lt_trichotomy
abbrev yB:=@List.reverse_cons
abbrev yC:=@List.getElem?_take_of_lt
abbrev zO:=@Rat.intCast_eq_zero_iff
abbrev zP:=@Nat.min_le_right
abbrev zQ:=@Nat.le_add_right
abbrev zR:=@List.mem_reverse
abbrev zS:=@List.getElem_map
abbrev zT:=@Int.natCast_dvd_natCast
abbrev Ap:=@PySem.W.cellsFrom_some
abbrev Aq:=@Nat.mul_zero
abbrev Ar:=@Nat.dvd_refl
abbrev As:=@Nat.add_comm
abbrev BE:=@Rat.mul_eq_zero
abbrev BF:=@Rat.intCast_add
abbrev BG:=@List.length_zip
abbrev BI:=@Bool.beq_eq_decide_eq
abbrev CM:=@List.replicate_succ'
abbrev CN:=@List.mem_range
abbrev CO:=@List.forIn_nil
abbrev D6:=@PySem.W.plainGet_of
abbrev D7:=@List.zipWith_append
abbrev D8:=@List.map_congr_left
abbrev D9:=@List.filterMap_cons
abbrev Fe:=@PySem.W.callWith_K
abbrev Ff:=@List.append_of_mem
abbrev Ih:=@Nat.ne_of_gt
abbrev Ii:=@Nat.dvd_mul_right
abbrev Ij:=@Int.zero_add
abbrev JL:=@List.length_drop
abbrev LP:=@Rat.mul_one
abbrev LQ:=@Nat.mul_one
abbrev LR:=@Nat.add_mul
abbrev LS:=@Int.dvd_gcd
abbrev LW:=@List.range_succ
abbrev LX:=@List.of_mem_zip
abbrev LY:=@List.forIn_cons
abbrev LZ:=@Int.gcd_pos_of_ne_zero_right
abbrev PJ:=@PySem.F.entry_extend_loop
abbrev PK:=@List.getElem?_zip_eq_some
abbrev PL:=@Int.natAbs_ediv_of_nonneg
abbrev P6:=@Option.isSome_iff_exists
abbrev P7:=@List.sum_cons
abbrev P8:=@Int.natAbs_eq
abbrev Q5:=@PySem.F.args_zip_next_1
abbrev Q6:=@Nat.eq_zero_of_zero_dvd
abbrev Q7:=@Nat.add_sub_cancel_left
namespace L2
open PySem PySem.Spec PyProof.Rows
abbrev Key:=Sum Int Str
def NS:Key->Value->Bool
 | .inl k,v=>Value.isInt k v
 | .inr x,v=>Value.isStrOf x v
def RI (w:World):Key->Int
 | .inl k=>hashInt k
 | .inr x=>hashStr w x
theorem fE:∀{k:Key} {v:Value},NS k v=true->(∃i t,k=Sum.inl i/\v=Value.int i t)\/(∃x t,k=Sum.inr x/\v=Value.str x t)
 | .inl i,v,h=>by
  obtain ⟨t,e⟩:=Value.isInt_shape (k:=i) (v:=v) h;exact .inl ⟨i,t,rfl,e⟩
 | .inr x,v,h=>by
  obtain ⟨t,e⟩:=Value.isStrOf_shape (x:=x) (v:=v) h;exact .inr ⟨x,t,rfl,e⟩
theorem Pg (a b:Int):decide ((Sum.inl a:Key)=Sum.inl b)=(a == b):=by
 by_cases e:a=b
 ·subst e;simp
 ·have h:¬(Sum.inl a:Key)=Sum.inl b:=fun q=>e (Sum.inl.inj q)
  rw[decide_eq_false h];exact (beq_eq_false_iff_ne.mpr e).symm
theorem Pd (a b:Str):decide ((Sum.inr a:Key)=Sum.inr b)=decide (a=b):=by
 by_cases e:a=b
 ·subst e;simp
 ·have h:¬(Sum.inr a:Key)=Sum.inr b:=fun q=>e (Sum.inr.inj q)
  rw[decide_eq_false h,decide_eq_false e]
theorem Pf (a:Int) (b:Str):decide ((Sum.inl a:Key)=Sum.inr b)=false:=decide_eq_false (fun q=>nomatch q)
theorem Pe (a:Str) (b:Int):decide ((Sum.inr a:Key)=Sum.inl b)=false:=decide_eq_false (fun q=>nomatch q)
def Hs (prog:Program) (w:World):PySem.KeyKind prog w Key where
 is:=NS
 hash:=RI w
 inj:=fun v a b ha hb=>by
  rcases fE ha with ⟨i,t,rfl,rfl⟩ | ⟨x,t,rfl,rfl⟩
  ·rcases fE hb with ⟨j,u,rfl,e⟩ | ⟨y,u,rfl,e⟩
   ·injection e with e1 _;rw[e1]
   ·exact nomatch e
  ·rcases fE hb with ⟨j,u,rfl,e⟩ | ⟨y,u,rfl,e⟩
   ·exact nomatch e
   ·injection e with e1 _;rw[e1]
 byValue:=fun k v h=>by
  rcases fE h with ⟨i,t,rfl,rfl⟩ | ⟨x,t,rfl,rfl⟩ <;> rfl
 pyHash:=fun hv h=>by
  rcases fE hv with ⟨i,t,rfl,rfl⟩ | ⟨x,t,rfl,rfl⟩
  ·exact wpAny_pyHash_int h
  ·exact wpAny_pyHash_str h
 eqBool:=fun hu hv h=>by
  rcases fE hu with ⟨i,t,rfl,rfl⟩ | ⟨x,t,rfl,rfl⟩
  ·rcases fE hv with ⟨j,u,rfl,rfl⟩ | ⟨y,u,rfl,rfl⟩
   ·rw[Pg] at h;exact wpAny_eqBool_int h
   ·rw[Pf] at h;exact SeqAt.EqAt.int_str i t y u _ _ _ _ h
  ·rcases fE hv with ⟨j,u,rfl,rfl⟩ | ⟨y,u,rfl,rfl⟩
   ·rw[Pe] at h;exact SeqAt.EqAt.str_int x t j u _ _ _ _ h
   ·rw[Pd] at h;exact wpAny_eqBool_str h
 «strs»:=fun k x t v h=>by
  rcases fE h with ⟨i,u,rfl,e⟩ | ⟨y,u,rfl,e⟩
  ·exact nomatch e
  ·injection e with e1 _
   subst e1;cases v <;> rfl
inductive V where
  | non | bl (b : Bool) | int (i : Int) | str (x : Str) | byt (b : Array UInt8) | flt (b : UInt64) | ref (a : Addr) | ty (n : String)
  deriving DecidableEq

def RelV:V->Value->Prop
 | .non,u=>u=Value.none
 | .bl b,u=>u=Value.bool b
 | .int i,u=>∃t,u=Value.int i t
 | .str x,u=>∃t,u=Value.str x t
 | .byt b,u=>∃t,u=Value.bytes b t
 | .flt b,u=>∃t,u=Value.float b t
 | .ref a,u=>u=Value.ref a
 | .ty n,u=>u=Value.type n
abbrev cP:List V->List Value->Prop:=Paired RelV
theorem cP.length {xs:List V} {us:List Value} (r:cP xs us):xs.length=us.length:=Paired.length r
theorem cP.get:∀{xs:List V} {us:List Value} {i:Nat} {x:V},cP xs us->xs[i]?=some x->∃u,us[i]?=some u/\RelV x u
 | _,_,_,_,.nil,e=>by simp at e
 | _,_,0,_,.cons r _,e=>by simp at e;subst e;exact ⟨_,rfl,r⟩
 | _,_,i+1,x,.cons _ t,e=>by
  obtain ⟨u,h1,h2⟩:=cP.get (i:=i) (x:=x) t (by simpa using e);exact ⟨u,by simpa using h1,h2⟩
theorem cP.set {x:V} {u:Value} (r:RelV x u):∀{xs:List V} {us:List Value} (i:Nat),cP xs us->cP (xs.set i x) (us.set i u)
 | _,_,_,.nil=>.nil
 | _,_,0,.cons _ t=>.cons r t
 | _,_,i+1,.cons q t=>.cons q (cP.set r i t)
theorem cP.append:∀{xs ys:List V} {us ws:List Value},cP xs us->cP ys ws->cP (xs++ys) (us++ws)
 | _,_,_,_,.nil,s=>s
 | _,_,_,_,.cons r t,s=>.cons r (cP.append t s)
theorem cP.take:∀{xs:List V} {us:List Value} (n:Nat),cP xs us->cP (xs.take n) (us.take n)
 | _,_,0,_=>.nil
 | _,_,_+1,.nil=>.nil
 | _,_,n+1,.cons r t=>.cons r (cP.take n t)
theorem cP.drop:∀{xs:List V} {us:List Value} (n:Nat),cP xs us->cP (xs.drop n) (us.drop n)
 | _,_,0,r=>r
 | _,_,_+1,.nil=>.nil
 | _,_,n+1,.cons _ t=>cP.drop n t
def BY:Option V->Option Value->Prop
 | some v,some u=>RelV v u
 | none,none=>True
 | _,_=>False
def KV {κ:Type}:List (κ×V)->List (κ×Value)->Prop:=Paired fun (p:κ×V) (q:κ×Value)=>p.1=q.1/\RelV p.2 q.2
def kV:Key->V
 | .inl i=>.int i
 | .inr x=>.str x
inductive HO where
 | lst (xs:List V)
 | tup (xs:List V)
 | dK (kvs:List (Key×V)) | dT (kvs:List (List Key×V))
 | set (S:Int->Bool) (n:Nat)
 | ins (C dx:Addr) (fs:List (Str×V))
 | own (x:Addr)
 | xd (fs:List (Str×V))
 | met (f x:Addr)
 | rng (lo hi:Int)
 | frz (o:Obj) (u:HO)
 | tbl (ps:Array Value)
 | ext (φ:Heap->Prop)
abbrev Hp:=Addr->Option HO
def upd (H:Hp) (a:Addr) (o:HO):Hp:=fun b=>if b=a then some o else H b
theorem aM {H:Hp} {a:Addr} {o:HO}:upd H a o a=some o:=by unfold upd;rw[if_pos rfl]
theorem bI {H:Hp} {a b:Addr} {o:HO} (h:b≠a):upd H a o b=H b:=by unfold upd;rw[if_neg h]
theorem fK {H:Hp} {a b:Addr} {o:HO} (h:H a=some o) (h':H b=none):a≠b:=by
 intro e;subst e;rw[h] at h';cases h'
section
variable (P:Program) (w:World)
def kb (H:Hp) (h:Heap) (a:Addr):HO->Prop
 | .lst xs=>xs.length<=sizeLine/\∃(its:List Value) (n:Nat),cP xs its/\h.get? a=some { cls:=.type "list",data:=.seq its.toArray n }
 | .tup xs=>xs.length<=sizeLine/\∃its:List Value,cP xs its/\IsTup h a its.toArray
 | .dK kvs=>kvs.length<=sizeLine/\(a == sysModules)=false/\∃vs,KV kvs vs/\h.DictOf (Hs P w) a vs
 | .dT kvs=>kvs.length<=sizeLine/\(a == sysModules)=false/\∃xs:List (List Key×Addr×Value),
   Paired (fun (p:List Key×V) (q:List Key×Addr×Value)=>p.1=q.1/\H q.2.1=some (.tup (p.1.map kV))/\RelV p.2 q.2.2) kvs xs /\
   ∃o es ep,h.get? a=some o/\o.ExactDict/\o.data=.dict es ep/\es.toList=xs.map (entryOfKey (tupleKind (Hs P w)))/\(xs.map (·.1)).Nodup
 | .set S n=>h.SetOf (intKind P w) a S n
 | .ins C dx fs=>H dx=some (.own a)/\fs.length<=1000/\dx≠a/\h.get? a=some (PySem.W.instObj C dx) /\
   ∃mA,h.Ns1 dx mA/\(∀f,BY (fs.lookup f) (mA f))/\PySem.Within mA (fs.map (·.1))
 | .own _=>∃o,h.get? a=some o
 | .xd fs=>∃mA,h.Ns1 a mA/\∀f,BY (fs.lookup f) (mA f)
 | .rng lo hi=>∃t u v,h.get? a=some { cls:=.type "range",data:=.fields #[.int lo t,.int hi u,.int 1 v] }
 | .frz o u=>h.get? a=some o/\kb H h a u
 | .tbl ps=>h.get? a=some { cls:=.none,data:=.fields ps }
 | .met f x=>h.get? a=some (PySem.W.methodObj (.ref f) (.ref x))
 | .ext φ=>φ h/\(∃o,h.get? a=some o)/\∀h1 h2:Heap,φ h1->(∀o,h1.get? a=some o->h2.get? a=some o)->φ h2
def Am (H:Hp) (h:Heap):Prop:=∀a o,H a=some o->kb P w H h a o
end
section
variable {P:Program} {w:World} {H H':Hp} {h h':Heap} {a:Addr} {o:HO}
theorem kb.lt (x:kb P w H h a o):a < h.objs.size:=by
 cases o with
 | lst xs=>obtain ⟨_,_,_,_,e⟩:=x;exact Heap.lt_size e
 | tup xs=>obtain ⟨_,_,_,p⟩:=x;exact p.lt
 | dK kvs=>obtain ⟨_,_,_,_,o,_,_,e,_⟩:=x;exact Heap.lt_size e
 | dT kvs=>obtain ⟨_,_,_,_,o,_,_,e,_⟩:=x;exact Heap.lt_size e
 | set S n=>obtain ⟨o,_,_,_,e,_⟩:=x;exact Heap.lt_size e
 | ins C dx fs=>obtain ⟨_,_,_,e,_⟩:=x;exact Heap.lt_size e
 | own y=>obtain ⟨_,e⟩:=x;exact Heap.lt_size e
 | xd fs=>obtain ⟨_,⟨_,_,_,e,_⟩,_⟩:=x;exact Heap.lt_size e
 | rng lo hi=>obtain ⟨_,_,_,e⟩:=x;exact Heap.lt_size e
 | frz ob u=>obtain ⟨e,_⟩:=x;exact Heap.lt_size e
 | tbl ps=>exact Heap.lt_size (show h.get? a=some _ from x)
 | met f y=>exact Heap.lt_size (show h.get? a=some _ from x)
 | ext φ=>obtain ⟨_,⟨_,e⟩,_⟩:=x;exact Heap.lt_size e
theorem Paired.mapP {α β:Type} {F G:α->β->Prop}:∀{l₁:List α} {l₂:List β},Paired F l₁ l₂->(∀a b,F a b->G a b)->Paired G l₁ l₂
 | _,_,.nil,_=>.nil
 | _,_,.cons r t,f=>.cons (f _ _ r) (Paired.mapP t f)
theorem Paired.imp' {α β:Type} {F G:α->β->Prop} (f:∀a b,F a b->G a b) {l₁:List α} {l₂:List β} (r:Paired F l₁ l₂):Paired G l₁ l₂:=Paired.mapP r f
theorem kb.stay (x:kb P w H h a o) (k:∀b u,(b=a\/H b=some (.own a))->h.get? b=some u->h'.get? b=some u)
  (ho:∀b,H b=some (.own a)->H' b=some (.own a)) (ht:∀b xs,H b=some (.tup xs)->H' b=some (.tup xs)):kb P w H' h' a o:=by
 induction o with
 | lst xs=>obtain ⟨z,its,n,r,e⟩:=x;exact ⟨z,its,n,r,k _ _ (.inl rfl) e⟩
 | tup xs=>obtain ⟨z,its,r,ob,e,c⟩:=x;exact ⟨z,its,r,ob,k _ _ (.inl rfl) e,c⟩
 | dK kvs=>obtain ⟨z,y,vs,r,ob,es,ep,e,c⟩:=x;exact ⟨z,y,vs,r,ob,es,ep,k _ _ (.inl rfl) e,c⟩
 | dT kvs =>
  obtain ⟨z,y,xs,r,ob,es,ep,e,c⟩:=x;exact ⟨z,y,xs,Paired.mapP r fun p q z=>⟨z.1,ht _ _ z.2.1,z.2.2⟩,ob,es,ep,k _ _ (.inl rfl) e,c⟩
 | set S n=>obtain ⟨ob,es,ep,t,e,c⟩:=x;exact ⟨ob,es,ep,t,k _ _ (.inl rfl) e,c⟩
 | ins C dx fs =>
  obtain ⟨d,z,ne,e,mA,⟨od,es,ep,e2,c⟩,r⟩:=x;exact ⟨ho _ d,z,ne,k _ _ (.inl rfl) e,mA,⟨od,es,ep,k _ _ (.inr d) e2,c⟩,r⟩
 | own y=>obtain ⟨ob,e⟩:=x;exact ⟨ob,k _ _ (.inl rfl) e⟩
 | xd fs=>obtain ⟨mA,⟨od,es,ep,e,c⟩,r⟩:=x;exact ⟨mA,⟨od,es,ep,k _ _ (.inl rfl) e,c⟩,r⟩
 | rng lo hi=>obtain ⟨t,u,v,e⟩:=x;exact ⟨t,u,v,k _ _ (.inl rfl) e⟩
 | frz ob u ih=>obtain ⟨e,q⟩:=x;exact ⟨k _ _ (.inl rfl) e,ih q⟩
 | tbl ps =>
  have e:h.get? a=some { cls:=.none,data:=.fields ps }:=x;show h'.get? a=some { cls:=.none,data:=.fields ps }
  exact k a _ (.inl rfl) e
 | met f y =>
  have e:h.get? a=some (PySem.W.methodObj (.ref f) (.ref y)):=x;show h'.get? a=some (PySem.W.methodObj (.ref f) (.ref y))
  exact k a _ (.inl rfl) e
 | ext φ=>obtain ⟨p,⟨o,e⟩,st⟩:=x;exact ⟨st _ _ p fun o q=>k _ _ (.inl rfl) q,⟨o,k _ _ (.inl rfl) e⟩,st⟩
theorem Am.lt (x:Am P w H h) (e:H a=some o):a < h.objs.size:=(x a o e).lt
theorem Am.fresh (x:Am P w H h) (e:h.objs.size<=a):H a=none:=by
 cases q:H a with
 | none=>rfl
 | some u=>exact absurd (bF (x.lt q) e) (fq _)
theorem Am.kept (x:Am P w H h) (k:∀b u,h.get? b=some u->h'.get? b=some u):Am P w H h':=fun a o e =>
 (x a o e).stay (fun b u _ q=>k b u q) (fun _ q=>q) fun _ _ q=>q
theorem Am.laid (x:Am P w H h) (k:∀b u,h.get? b=some u->h'.get? b=some u) (hp:h.objs.size<=a) (new:kb P w (upd H a o) h' a o):Am P w (upd H a o) h':=fun b u e=>by
 have hn:=x.fresh hp;by_cases hb:b=a
 ·subst hb;rw[aM] at e;cases e;exact new
 ·rw[bI hb] at e;exact (x b u e).stay (fun c v _ q=>k c v q) (fun c q=>by rw[bI (fK q hn)];exact q) fun c xs q=>by rw[bI (fK q hn)];exact q
end
def Rd (H:Hp) (a:Addr) (u:HO):Prop:=H a=some u\/∃o,H a=some (.frz o u)
theorem Rd.ok {P:Program} {w:World} {H:Hp} {h:Heap} {a:Addr} {u:HO} (r:Rd H a u) (x:Am P w H h):kb P w H h a u:=by
 rcases r with r | ⟨o,r⟩
 ·exact x a u r
 ·obtain ⟨_,q⟩:=x a _ r;exact q
def Rn:Option HO->Prop
 | some (.lst _)=>True
 | some (.dK _)=>True
 | some (.dT _)=>True
 | some (.set _ _)=>True
 | some (.ins _ _ _)=>True
 | some (.ext _)=>True
 | _=>False
section
variable {P:Program} {w:World} {H:Hp} {h h':Heap} {x e:Addr} {o':HO}
theorem Am.write (ok:Am P w H h) (mu:Rn (H x)) (he:e=x\/H e=some (.own x)) (k:∀b u,b≠e->h.get? b=some u->h'.get? b=some u) (heo:∃u,h'.get? e=some u)
  (new:kb P w (upd H x o') h' x o'):Am P w (upd H x o') h':=fun b u q=>by
 have nown:∀c y,H c=some (.own y)->c≠x:=fun c y r z=>by subst z;rw[r] at mu;exact mu
 have ntup:∀c xs,H c=some (.tup xs)->c≠x:=fun c xs r z=>by subst z;rw[r] at mu;exact mu
 by_cases hb:b=x
 ·subst hb;rw[aM] at q;cases q;exact new
 ·rw[bI hb] at q;by_cases hbe:b=e
  ·have q':H b=some (.own x):=by
    rcases he with z | z
    ·exact absurd (hbe.trans z) hb
    ·rw[hbe];exact z
   rw[q] at q';cases q';obtain ⟨v,hv⟩:=heo;exact ⟨v,by rw[hbe];exact hv⟩
  ·refine (ok b u q).stay (fun c v hc r=>k c v ?_ r) (fun c r=>by rw[bI (nown c b r)];exact r) fun c xs r=>by rw[bI (ntup c xs r)];exact r
   rcases hc with rfl | hc
   ·exact hbe
   ·rintro rfl;rcases he with z | z
    ·exact nown c b hc z
    ·rw[hc] at z;cases z;exact hb rfl
end
structure Un (fs ex:List Addr) (H H':Hp) (h h':Heap):Prop where
 keep:∀b o,h.get? b=some o->H b=none->b∉fs->b∉ex->h'.get? b=some o
 slot:∀b o,h.get? b=some o->H b=none->b∈fs->b∉ex->∃sl,h'.get? b=some { o with slots:=sl }
 free:∀b o,h.get? b=some o->H b=none->b∉ex->H' b=none
 there:∀b o,h.get? b=some o->b∉ex->∃o',h'.get? b=some o'
 tups:∀b xs,H b=some (.tup xs)->H' b=some (.tup xs)
 frzs:∀b o u,H b=some (.frz o u)->H' b=some (.frz o u)
 tbls:∀b ps,H b=some (.tbl ps)->∃more,H' b=some (.tbl (ps++more))
section
variable {fs fs' ex ex':List Addr} {H H1 H2:Hp} {h h1 h2 h':Heap} {a x e:Addr} {o:HO}
theorem Un.any (u:Un fs ex H H1 h h1) {b:Addr} {ob:Obj} (q:h.get? b=some ob) (n:H b=none) (hx:b∉ex):∃sl,h1.get? b=some { ob with slots:=sl }:=by
 by_cases hb:b∈fs
 ·exact u.slot b ob q n hb hx
 ·exact ⟨ob.slots,u.keep b ob q n hb hx⟩
theorem Un.kept (k:∀b u,h.get? b=some u->h'.get? b=some u):Un fs ex H H h h' :=
 ⟨fun b ob q _ _ _=>k b ob q,fun b ob q _ _ _=>⟨ob.slots,k b ob q⟩,fun _ _ _ n _=>n,fun b ob q _=>⟨ob,k b ob q⟩,fun _ _ q=>q,fun _ _ _ q=>q,fun _ ps q=>⟨#[],by rw[q];simp⟩⟩
theorem Un.refl:Un fs ex H H h h:=Un.kept fun _ _ q=>q
theorem Un.laid (k:∀b u,h.get? b=some u->h'.get? b=some u) (hp:h.objs.size<=a) (hn:H a=none):Un fs ex H (upd H a o) h h' where
 keep:=fun b u q _ _ _=>k b u q
 slot:=fun b u q _ _ _=>⟨u.slots,k b u q⟩
 free:=fun b u q n _=>by rw[bI (cg (bF (Heap.lt_size q) hp))];exact n
 there:=fun b u q _=>⟨u,k b u q⟩
 tups:=fun b xs q=>by rw[bI (fK q hn)];exact q
 frzs:=fun b u xs q=>by rw[bI (fK q hn)];exact q
 tbls:=fun b ps q=>⟨#[],by rw[bI (fK q hn),q];simp⟩
theorem Un.write (mu:Rn (H x)) (he:e=x\/H e=some (.own x)) (k:∀b u,b≠e->h.get? b=some u->h'.get? b=some u) (heo:∃u,h'.get? e=some u):Un fs ex H (upd H x o) h h':=by
 have hx:∀b,H b=none->b≠x:=fun b n z=>by subst z;rw[n] at mu;exact mu
 have hb:∀b,H b=none->b≠e:=fun b n z=>by
  subst z;rcases he with r | r
  ·exact hx b n r
  ·rw[n] at r;cases r
 have hm:∀b u,H b=some u->¬Rn (some u)->b≠x:=fun b u q nm z=>by subst z;rw[q] at mu;exact nm mu
 refine ⟨fun b u q n _ _=>k b u (hb b n) q,fun b u q n _ _=>⟨u.slots,k b u (hb b n) q⟩,fun b u q n _=>by rw[bI (hx b n)];exact n,fun b u q _=>?_,
  fun b xs q=>by rw[bI (hm b _ q fun z=>z)];exact q,fun b u xs q=>by rw[bI (hm b _ q fun z=>z)];exact q,fun b ps q=>⟨#[],by rw[bI (hm b _ q fun z=>z),q];simp⟩⟩
 by_cases hbe:b=e
 ·subst hbe;exact heo
 ·exact ⟨u,k b u hbe q⟩
end
def Q9 (h:Heap) (H:Hp):List Addr:=(List.range h.objs.size).filter fun a=>(H a).isSome
def Dz (h:Heap) (H:Hp):Heap:=PySem.W.hideAll h (Q9 h H)
theorem Ju (h:Heap) (H:Hp):(Dz h H).objs.size=h.objs.size:=PySem.W.hideAll_size _ _
theorem Lf {h:Heap} {H:Hp} {b:Addr} {o:Obj} (e:h.get? b=some o) (n:H b=none):(Dz h H).get? b=some o :=
 PySem.W.hideAll_get _ e fun hm=>by
  have q:(H b).isSome=true:=(List.mem_filter.mp hm).2;rw[n] at q;simp at q
theorem M8 {h:Heap} {H:Hp} {b:Addr} {o:Obj} (e:(Dz h H).get? b=some o):h.get? b=some o/\H b=none:=by
 have e':h.get? b=some o:=PySem.W.of_hideAll (Q9 h H) e;refine ⟨e',?_⟩;cases q:H b with
 | none=>rfl
 | some x =>
  have hm:b∈Q9 h H:=List.mem_filter.mpr ⟨CN.mpr (Heap.lt_size e'),by simp [q]⟩;have z:(Dz h H).get? b=none:=PySem.W.hideAll_none (Q9 h H) hm;rw[z] at e;cases e
structure Mod (K:PySem.W.Frag) (mg:Str->Option Value) (base:Heap):Prop where
 kin:K.In base
 glob:base.Ns mainGlobals mg
 blt:∃mb,base.Ns builtinsNs mb/\∀x:Str,x≠"__name__"->mb x=bootBuiltins x
 nolimit:base.NoLimit
structure Cx where
 prog:Program
 w:World
 K:PySem.W.Frag
 mg:Str->Option Value
 base:Heap
 A:Around
 N:List Str
 s₀:Shared
 H₀:Hp
 env:Env
 outer:List Env
 stack:List Env
 ex:List Addr
 fn:Str->Bool
 calm:Bool
 pn:List (Addr×Obj)
 xe:Value->Shared->Prop
def JG (l:List Env):List Addr:=l.filterMap (·.frame)
abbrev Cx.fs (X:Cx):List Addr:=JG X.outer
def RO (sc:Scope) (x:Str):Prop:=sc.names.lookup x=some .local\/sc.names.lookup x=some .cell\/sc.names.lookup x=some .free
def Loc (sc:Scope) (x:Str):Prop:=sc.names.lookup x=some .local\/sc.names.lookup x=some .cell
def Look (env:Env) (h:Heap) (m:Str->Option Value) (x:Str) (u:Value):Prop :=
 (env.kindOf x=some .local/\m x=some u)\/((env.kindOf x=some .cell\/env.kindOf x=some .free)/\∃c,env.cells.lookup x=some c/\h.IsCell c (some u))
structure Cx.Ok (X:Cx):Prop where
 mod:Mod X.K X.mg X.base
 kind:X.env.scope.kind=.function
 glob:X.env.globals=mainGlobals
 blt:X.env.builtins=builtinsNs
 above:X.s₀.heap.objs.size<=X.env.locals
 inj:∀x y c,X.env.cells.lookup x=some c->X.env.cells.lookup y=some c->x=y
 has:∀x,(X.env.kindOf x=some .cell\/X.env.kindOf x=some .free)->∃c,X.env.cells.lookup x=some c
 cab:∀x c,X.fn x=true->X.env.cells.lookup x=some c->X.s₀.heap.objs.size<=c
 hd:X.calm=true->X.A.handled=none
 frames:X.A.frames=some X.stack
 stk:X.stack=X.outer\/(X.stack=X.env :: X.outer/\X.env.frame=some X.env.locals)
 exf:∀b∈X.ex,b≠X.env.locals/\∀x c,X.env.cells.lookup x=some c->c≠b
 bs:∀b o,X.base.get? b=some o->X.s₀.heap.get? b=some o/\X.H₀ b=none
 bsz:X.base.objs.size<=X.s₀.heap.objs.size
 noex:∀b o,X.base.get? b=some o->b∉X.ex
 exfs:∀b∈X.ex,b∉X.fs
 funs:X.s₀.heap.FunFrames X.base X.outer
 frf:∀b∈X.fs,X.H₀ b=none
structure Inv (X:Cx) (pins:List (Addr×Obj)) (σ:List (Option V)) (H:Hp) (s:Shared):Prop where
 ok:X.Ok
 os:s.os=X.s₀.os
 bare:AllBare s.gens
 base:Un X.fs X.ex X.H₀ H X.s₀.heap s.heap
 loc:∃m,s.heap.Ns X.env.locals m/\∀(i:Nat) (x:Str) (v:V),X.N[i]?=some x->σ[i]?=some (some v)->RO X.env.scope x->∃u,RelV v u/\Look X.env s.heap m x u
 cell:∀x c,X.env.cells.lookup x=some c->∃v,s.heap.IsCell c v
 free:H X.env.locals=none
 freeC:∀x c,X.env.cells.lookup x=some c->H c=none
 pin:∀p∈X.pn++pins,s.heap.get? p.1=some p.2/\H p.1=none/\p.1≠X.env.locals/\p.1∉X.fs/\∀v,p.2.data≠.cell v
 hok:Am X.prog X.w H s.heap
 len:σ.length=X.N.length
section
variable {X:Cx} {pins:List (Addr×Obj)} {σ:List (Option V)} {H H':Hp} {s:Shared} {h':Heap}
theorem Cx.Ok.nofr (ok:X.Ok) {b:Addr} {o:Obj} (e:X.base.get? b=some o):b∉X.fs:=fun hb=>by
 have:=(ok.funs.mem hb).1;rw[e] at this;cases this
theorem Inv.bs (I:Inv X pins σ H s):∀b o,X.base.get? b=some o->s.heap.get? b=some o/\H b=none:=fun b o e =>
 ⟨I.base.keep b o (I.ok.bs b o e).1 (I.ok.bs b o e).2 (I.ok.nofr e) (I.ok.noex b o e),I.base.free b o (I.ok.bs b o e).1 (I.ok.bs b o e).2 (I.ok.noex b o e)⟩
theorem Inv.bk (I:Inv X pins σ H s):∀b o,X.base.get? b=some o->s.heap.get? b=some o:=fun b o e=>(I.bs b o e).1
theorem Inv.mod (I:Inv X pins σ H s):Mod X.K X.mg X.base:=I.ok.mod
theorem Inv.kIn (I:Inv X pins σ H s):X.K.In s.heap:=I.ok.mod.kin.keeps I.bk
theorem Inv.lt (I:Inv X pins σ H s):X.env.locals < s.heap.objs.size:=let ⟨_,hn,_⟩:=I.loc;hn.lt
theorem Inv.sz (I:Inv X pins σ H s):X.s₀.heap.objs.size<=s.heap.objs.size:=aj I.ok.above (aY I.lt)
theorem Inv.nofs (I:Inv X pins σ H s) {a:Addr} (h:s.heap.objs.size<=a):a∉X.fs:=fun hb=>by
 obtain ⟨_,o,ho,_⟩:=I.ok.funs.mem hb;exact absurd (bF (Heap.lt_size ho) (aj I.sz h)) (fq _)
theorem Inv.cne (I:Inv X pins σ H s):∀x c,X.env.cells.lookup x=some c->c≠X.env.locals:=fun x c e z=>by
 obtain ⟨v,o,ho,hd⟩:=I.cell x c e;obtain ⟨m,⟨o',es,ep,ho',hd',_⟩,_⟩:=I.loc;rw[z,ho'] at ho;cases ho;rw[hd'] at hd;cases hd
theorem Inv.funs (I:Inv X pins σ H s):s.heap.FunFrames X.base X.outer:=by
 have all:∀(l:List Env),(∀b∈JG l,b∈X.fs)->X.s₀.heap.FunFrames X.base l->s.heap.FunFrames X.base l:=by
  intro l
  induction l with
  | nil=>intro _ _;trivial
  | cons env r ih =>
   intro hs hl;obtain ⟨hk,⟨L,o,hf,hn,ho,hd⟩,hr⟩:=hl;have hL:L∈X.fs:=hs L (by unfold JG;rw[D9,hf];exact du);obtain ⟨sl,e⟩:=I.base.slot L o ho (I.ok.frf L hL) hL fun z=>I.ok.exfs L z hL
   exact ⟨hk,⟨L,_,hf,hn,e,hd⟩,ih (fun b hb=>hs b (by unfold JG;rw[D9,hf];exact cb _ hb)) hr⟩
 exact all X.outer (fun _ hb=>hb) I.ok.funs
theorem Inv.stack (I:Inv X pins σ H s):s.heap.FunFrames X.base X.stack:=by
 rcases I.ok.stk with e | ⟨e,hf⟩
 ·rw[e];exact I.funs
 ·rw[e];obtain ⟨m,hn,_⟩:=I.loc;refine .cons (by rw[I.ok.kind];decide) hf hn ?_ I.funs;exact Heap.get?_none_of_le (aj I.ok.bsz I.ok.above)
theorem Inv.stkSub (I:Inv X pins σ H s):∀b∈JG X.stack,b∈X.env.locals :: X.fs:=fun b hb=>by
 rcases I.ok.stk with e | ⟨e,hf⟩
 ·rw[e] at hb;exact cb _ hb
 ·rw[e] at hb;unfold JG at hb;rw[D9,hf] at hb;exact hb
theorem Inv.stkFree (I:Inv X pins σ H s):∀b∈JG X.stack,H b=none:=fun b hb=>by
 rcases aG.mp (I.stkSub b hb) with e | hb
 ·rw[e];exact I.free
 ·obtain ⟨_,o,ho,_⟩:=I.ok.funs.mem hb;exact I.base.free b o ho (I.ok.frf b hb) fun z=>I.ok.exfs b z hb
theorem Inv.step {g':Array GenState} {t':Nat} {d':Drawn} {ch:List Addr} (I:Inv X pins σ H s)
  (hch:∀b∈ch,(b∈X.ex\/X.s₀.heap.objs.size<=b)/\b≠X.env.locals/\(∀x c,X.env.cells.lookup x=some c->c≠b)/\∀p∈X.pn++pins,p.1≠b)
  (keep:∀b o,b≠X.env.locals->b∉X.fs->b∉ch->s.heap.get? b=some o->H b=none->h'.get? b=some o)
  (slot:∀b o,b≠X.env.locals->b∈X.fs->b∉ch->s.heap.get? b=some o->H b=none->∃sl,h'.get? b=some { o with slots:=sl }) (free:∀b o,b∉ch->s.heap.get? b=some o->H b=none->H' b=none)
  (there:∀b o,b∉ch->s.heap.get? b=some o->∃o',h'.get? b=some o')
  (tups:∀b xs,H b=some (.tup xs)->H' b=some (.tup xs)) (frzs:∀b o u,H b=some (.frz o u)->H' b=some (.frz o u)) (tbls:∀b ps,H b=some (.tbl ps)->∃more,H' b=some (.tbl (ps++more)))
  (ns:∀m,s.heap.Ns X.env.locals m->h'.Ns X.env.locals m) (hok:Am X.prog X.w H' h') (hg:AllBare g') :
  Inv X pins σ H' { s with heap:=h',gens:=g',drawn:=d',toks:=t' }:=by
 have neL:∀b o,X.s₀.heap.get? b=some o->b≠X.env.locals:=fun b o e=>cg (bF (Heap.lt_size e) I.ok.above)
 have neC:∀b o,X.s₀.heap.get? b=some o->b∉X.ex->b∉ch:=fun b o e hx hb=>by
  rcases (hch b hb).1 with z | z
  ·exact hx z
  ·exact absurd (bF (Heap.lt_size e) z) (fq _)
 have cellK:∀x c,X.env.cells.lookup x=some c->∀v,s.heap.IsCell c v->h'.IsCell c v:=fun x c e v ⟨o,ho,hd⟩=>by
  have nch:c∉ch:=fun z=>(hch c z).2.2.1 x c e rfl
  by_cases hc:c∈X.fs
  ·obtain ⟨sl,q⟩:=slot c o (I.cne x c e) hc nch ho (I.freeC x c e);exact ⟨_,q,hd⟩
  ·exact ⟨o,keep c o (I.cne x c e) hc nch ho (I.freeC x c e),hd⟩
 refine ⟨I.ok,I.os,hg,⟨fun b o e n hb hx=>?_,fun b o e n hb hx=>?_,fun b o e n hx=>?_,fun b o e hx=>?_,fun b xs e=>tups b xs (I.base.tups b xs e),fun b o xs e=>frzs b o xs (I.base.frzs b o xs e),fun b ps e=>?_⟩,?_,fun x c e=>?_,?_,fun x c e=>?_,fun p hp=>?_,hok,I.len⟩
 ·exact keep b o (neL b o e) hb (neC b o e hx) (I.base.keep b o e n hb hx) (I.base.free b o e n hx)
 ·obtain ⟨sl,e1⟩:=I.base.slot b o e n hb hx;obtain ⟨sl',e2⟩:=slot b _ (neL b o e) hb (neC b o e hx) e1 (I.base.free b o e n hx);exact ⟨sl',e2⟩
 ·obtain ⟨o',e1⟩:=I.base.there b o e hx;exact free b o' (neC b o e hx) e1 (I.base.free b o e n hx)
 ·obtain ⟨o',e1⟩:=I.base.there b o e hx;exact there b o' (neC b o e hx) e1
 ·obtain ⟨m1,e1⟩:=I.base.tbls b ps e;obtain ⟨m2,e2⟩:=tbls b _ e1;exact ⟨m1++m2,by rw[e2,Array.append_assoc]⟩
 ·obtain ⟨m,hn,hl⟩:=I.loc;refine ⟨m,ns m hn,fun i x v e1 e2 e3=>?_⟩;obtain ⟨u,r,l⟩:=hl i x v e1 e2 e3;refine ⟨u,r,?_⟩;rcases l with l | ⟨k,c,e,z⟩
  ·exact .inl l
  ·exact .inr ⟨k,c,e,cellK x c e _ z⟩
 ·obtain ⟨v,z⟩:=I.cell x c e;exact ⟨v,cellK x c e v z⟩
 ·obtain ⟨m,⟨o,_,_,ho,_⟩,_⟩:=I.loc;exact free _ o (fun z=>(hch _ z).2.1 rfl) ho I.free
 ·obtain ⟨v,o,ho,hd⟩:=I.cell x c e;exact free c o (fun z=>(hch c z).2.2.1 x c e rfl) ho (I.freeC x c e)
 ·obtain ⟨e,n,ne,nf,d⟩:=I.pin p hp;have nch:p.1∉ch:=fun z=>(hch p.1 z).2.2.2 p hp rfl
  exact ⟨keep p.1 p.2 ne nf nch e n,free p.1 p.2 nch e n,ne,nf,d⟩
theorem Inv.un {t':Nat} (I:Inv X pins σ H s) (u:Un X.fs [] H H' s.heap h') (hok:Am X.prog X.w H' h'):Inv X pins σ H' { s with heap:=h',toks:=t' }:=by
 obtain ⟨m,⟨o,es,ep,ho,r⟩,_⟩:=id I.loc;obtain ⟨sl,hL⟩:=u.any ho I.free (by simp)
 exact I.step (g':=s.gens) (d':=s.drawn) (ch:=[]) (fun _ z=>nomatch z) (fun b o _ hb _ e n=>u.keep b o e n hb (by simp)) (fun b o _ hb _ e n=>u.slot b o e n hb (by simp)) (fun b o _ e n=>u.free b o e n (by simp)) (fun b o _ e=>u.there b o e (by simp)) u.tups u.frzs u.tbls (fun m' hm=>by
  obtain ⟨o',es',ep',ho',r'⟩:=hm;rw[ho] at ho';cases ho';exact ⟨_,es',ep',hL,r'⟩) hok I.bare
theorem Inv.call {g':Array GenState} {t':Nat} {d':Drawn} {ch:List Addr} (I:Inv X pins σ H s) (u:Un (JG X.stack) ch H H' s.heap h') (hok:Am X.prog X.w H' h') (hg:AllBare g')
  (hch:∀b∈ch,(b∈X.ex\/X.s₀.heap.objs.size<=b)/\b≠X.env.locals/\(∀x c,X.env.cells.lookup x=some c->c≠b)/\∀p∈X.pn++pins,p.1≠b) :
  Inv X pins σ H' { s with heap:=h',gens:=g',drawn:=d',toks:=t' }:=by
 obtain ⟨m,⟨o,es,ep,ho,r⟩,_⟩:=id I.loc;obtain ⟨sl,hL⟩:=u.any ho I.free fun z=>(hch _ z).2.1 rfl
 exact I.step (ch:=ch) hch (fun b o hL hb hc e n=>u.keep b o e n (fun z=>(aG.mp (I.stkSub b z)).elim hL hb) hc) (fun b o _ _ hc e n=>u.any e n hc) (fun b o hc e n=>u.free b o e n hc) (fun b o hc e=>u.there b o e hc) u.tups u.frzs u.tbls (fun m' hm=>by
  obtain ⟨o',es',ep',ho',r'⟩:=hm;rw[ho] at ho';cases ho';exact ⟨_,es',ep',hL,r'⟩) hok hg
theorem Inv.turned {t':Nat} {it:Addr} (I:Inv X pins σ H s) (k:∀b o,b≠it->s.heap.get? b=some o->h'.get? b=some o) (hn:H it=none) (hL:it≠X.env.locals)
  (h1:it∈X.ex\/X.s₀.heap.objs.size<=it) (h2:∀x c,X.env.cells.lookup x=some c->c≠it) (h3:∀p∈X.pn++pins,p.1≠it):Inv X pins σ H { s with heap:=h',toks:=t' }:=by
 have nit:∀b u,H b=some u->b≠it:=fun b u e z=>by rw[z,hn] at e;cases e
 refine I.step (g':=s.gens) (d':=s.drawn) (ch:=[it]) (fun b hb=>?_) (fun b o _ _ hc e _=>k b o (fun z=>hc (by simp [z])) e) (fun b o _ _ hc e _=>⟨o.slots,k b o (fun z=>hc (by simp [z])) e⟩) (fun _ _ _ _ n=>n)
  (fun b o hc e=>⟨o,k b o (fun z=>hc (by simp [z])) e⟩) (fun _ _ e=>e) (fun _ _ _ e=>e) (fun b ps e=>⟨#[],by rw[e];simp⟩) (fun m hm=>?_) (fun b u e=>?_) I.bare
 ·have e:b=it:=by simpa using hb
  subst e;exact ⟨h1,hL,h2,h3⟩
 ·obtain ⟨o,es,ep,ho,r⟩:=hm;exact ⟨o,es,ep,k _ o (Ne.symm hL) ho,r⟩
 ·refine (I.hok b u e).stay (fun c v hc q=>k c v ?_ q) (fun _ q=>q) fun _ _ q=>q
  rcases hc with z | z
  ·rw[z];exact nit b u e
  ·exact nit c _ z
theorem Inv.tok (I:Inv X pins σ H s) (t:Nat):Inv X pins σ H { s with toks:=t }:=I.un (h':=s.heap) (t':=t) Un.refl I.hok
theorem Inv.kept {t':Nat} (I:Inv X pins σ H s) (k:∀b u,s.heap.get? b=some u->h'.get? b=some u):Inv X pins σ H { s with heap:=h',toks:=t' }:=I.un (Un.kept k) (I.hok.kept k)
theorem Inv.laid {a:Addr} {o:HO} {t':Nat} (I:Inv X pins σ H s) (k:∀b u,s.heap.get? b=some u->h'.get? b=some u) (hp:s.heap.objs.size<=a) (new:kb X.prog X.w (upd H a o) h' a o) :
  Inv X pins σ (upd H a o) { s with heap:=h',toks:=t' }:=I.un (Un.laid k hp (I.hok.fresh hp)) (I.hok.laid k hp new)
theorem Inv.write {x e:Addr} {o:HO} {t':Nat} (I:Inv X pins σ H s) (mu:Rn (H x)) (he:e=x\/H e=some (.own x)) (k:∀b u,b≠e->s.heap.get? b=some u->h'.get? b=some u) (heo:∃u,h'.get? e=some u)
  (new:kb X.prog X.w (upd H x o) h' x o):Inv X pins σ (upd H x o) { s with heap:=h',toks:=t' }:=I.un (Un.write mu he k heo) (I.hok.write mu he k heo new)
theorem Inv.pins_of {pins':List (Addr×Obj)} (I:Inv X pins σ H s) (h:∀p∈pins',s.heap.get? p.1=some p.2/\H p.1=none/\p.1≠X.env.locals/\p.1∉X.fs/\∀v,p.2.data≠.cell v):Inv X pins' σ H s :=
 ⟨I.ok,I.os,I.bare,I.base,I.loc,I.cell,I.free,I.freeC,fun p hp=>(az.mp hp).elim (fun z=>I.pin p (dY _ z)) (h p),I.hok,I.len⟩
theorem ED {N:List Str} (hN:N.Nodup) {i j:Nat} {x:Str} (a:N[i]?=some x) (b:N[j]?=some x):i=j:=by
 obtain ⟨h1,e1⟩:=aI.mp a;obtain ⟨h2,e2⟩:=aI.mp b;exact (List.getElem_inj hN).mp (e1.trans e2.symm)
theorem Cd {M:Model} {A:Around} {E:Value->Shared->Prop} {i:Nat} {x:Str} {v:V} {u:Value} {Q:Unit->Shared->Prop} (I:Inv X pins σ H s) (hN:X.N.Nodup) (hi:X.N[i]?=some x) (hx:Loc X.env.scope x) (r:RelV v u)
  (h:∀s',Inv X pins (σ.set i (some v)) H s'->(∃a,Heap.SameBut a s.heap s'.heap/\(a=X.env.locals\/X.env.cells.lookup x=some a))->Q () s') (hf:X.fn x=true\/X.env.scope.names.lookup x=some .local:=by first | exact .inl rfl | exact .inr rfl | assumption):wpAny M A (storeName X.env x u) Q E s:=by
 obtain ⟨m,hn,hl⟩:=id I.loc;have hcls:(X.env.scope.kind == .class || (X.env.scope.kind == .module && X.env.locals != X.env.globals))=false:=by rw[I.ok.kind];rfl
 have hiσ:i < σ.length:=by rw[I.len];exact (aI.mp hi).1
 have cne:=I.cne
 have tracked:∀{a:Addr} {h':Heap},(∃o,s.heap.get? a=some o/\H a=none)->Heap.SameBut a s.heap h'->Am X.prog X.w H h':=fun {a h'} ha hs b ob e=>by
  obtain ⟨_,_,hfree⟩:=ha;refine (I.hok b ob e).stay (fun c w' hc q=>(hs.2 c ?_).trans q) (fun _ q=>q) fun _ _ q=>q
  rintro rfl;rcases hc with rfl | hc
  ·rw[hfree] at e;cases e
  ·rw[hfree] at hc;cases hc
 rcases hx with hk | hk
 ·refine wpAny_storeName_local hk hn (fun h' hn' hs=>?_) hcls;obtain ⟨oL,_,_,hoL,_⟩:=id hn;refine h _ ⟨I.ok,I.os,I.bare,⟨fun b o e n hb hx=>?_,fun b o e n hb hx=>?_,I.base.free,fun b o e hx=>?_,I.base.tups,I.base.frzs,I.base.tbls⟩,⟨_,hn',fun j y v' e1 e2 e3=>?_⟩,fun y c e=>?_,I.free,I.freeC,fun p hp=>?_,tracked ⟨oL,hoL,I.free⟩ hs,by simpa using I.len⟩ ⟨_,hs,.inl rfl⟩
  ·exact (hs.2 b (cg (bF (Heap.lt_size e) I.ok.above))).trans (I.base.keep b o e n hb hx)
  ·obtain ⟨sl,e1⟩:=I.base.slot b o e n hb hx;exact ⟨sl,(hs.2 b (cg (bF (Heap.lt_size e) I.ok.above))).trans e1⟩
  ·obtain ⟨o',e1⟩:=I.base.there b o e hx;exact ⟨o',(hs.2 b (cg (bF (Heap.lt_size e) I.ok.above))).trans e1⟩
  ·by_cases hj:j=i
   ·subst hj;rw[hi] at e1;cases e1;rw[List.getElem?_set_self hiσ] at e2;cases e2;exact ⟨u,r,.inl ⟨hk,by simp⟩⟩
   ·rw[List.getElem?_set_ne (Ne.symm hj)] at e2;obtain ⟨u',r',q⟩:=hl j y v' e1 e2 e3;refine ⟨u',r',?_⟩;rcases q with ⟨k,e⟩ | ⟨k,c,e,z⟩
    ·refine .inl ⟨k,?_⟩;have:y≠x:=fun e=>hj (ED hN e1 (e ▸ hi))
     simp [this,e]
    ·exact .inr ⟨k,c,e,z.sameBut hs (cne y c e)⟩
  ·obtain ⟨w',z⟩:=I.cell y c e;exact ⟨w',z.sameBut hs (cne y c e)⟩
  ·obtain ⟨e,n,ne,nf,d⟩:=I.pin p hp;exact ⟨(hs.2 p.1 ne).trans e,n,ne,nf,d⟩
 ·have hfn:X.fn x=true:=by
   rcases hf with z | z
   ·exact z
   ·rw[z] at hk;cases hk
  obtain ⟨c,hc⟩:=I.ok.has x (.inl hk);obtain ⟨w',z⟩:=I.cell x c hc;refine wpAny_storeName_cell I.ok.kind hk hc z (fun h' hc' hs=>?_);obtain ⟨oc,hoc,hocd⟩:=id z;refine h { s with heap:=h' } ⟨I.ok,I.os,I.bare,⟨fun b o e n hb hx=>?_,fun b o e n hb hx=>?_,I.base.free,fun b o e hx=>?_,I.base.tups,I.base.frzs,I.base.tbls⟩,⟨m,hn.sameBut hs (Ne.symm (cne x c hc)),fun j y v' e1 e2 e3=>?_⟩,fun y c' e=>?_,I.free,I.freeC,fun p hp=>?_,tracked ⟨oc,hoc,I.freeC x c hc⟩ hs,by simpa using I.len⟩ ⟨c,hs,.inr hc⟩
  ·exact (hs.2 b (cg (bF (Heap.lt_size e) (I.ok.cab x c hfn hc)))).trans (I.base.keep b o e n hb hx)
  ·obtain ⟨sl,e1⟩:=I.base.slot b o e n hb hx;exact ⟨sl,(hs.2 b (cg (bF (Heap.lt_size e) (I.ok.cab x c hfn hc)))).trans e1⟩
  ·obtain ⟨o',e1⟩:=I.base.there b o e hx;exact ⟨o',(hs.2 b (cg (bF (Heap.lt_size e) (I.ok.cab x c hfn hc)))).trans e1⟩
  ·by_cases hj:j=i
   ·subst hj;rw[hi] at e1;cases e1;rw[List.getElem?_set_self hiσ] at e2;cases e2;exact ⟨u,r,.inr ⟨.inl hk,c,hc,hc'⟩⟩
   ·rw[List.getElem?_set_ne (Ne.symm hj)] at e2;obtain ⟨u',r',q⟩:=hl j y v' e1 e2 e3;refine ⟨u',r',?_⟩;rcases q with q | ⟨k,c',e,z'⟩
    ·exact .inl q
    ·refine .inr ⟨k,c',e,z'.sameBut hs ?_⟩;rintro rfl;exact hj (ED hN e1 (I.ok.inj _ _ _ e hc ▸ hi))
  ·by_cases hcc:c'=c
   ·subst hcc;exact ⟨_,hc'⟩
   ·obtain ⟨w2,z2⟩:=I.cell y c' e;exact ⟨w2,z2.sameBut hs hcc⟩
  ·obtain ⟨e,n,ne,nf,d⟩:=I.pin p hp;refine ⟨(hs.2 p.1 ?_).trans e,n,ne,nf,d⟩;intro q;rw[q,hoc] at e;have q':oc=p.2:=cm e;exact d w' (by rw[<- q'];exact hocd)
theorem xF {M:Model} {A:Around} {E:Value->Shared->Prop} {i:Nat} {x:Str} {v:V} {u:Value} {Q:Unit->Shared->Prop} (I:Inv X pins σ H s) (hN:X.N.Nodup) (hi:X.N[i]?=some x) (hx:Loc X.env.scope x) (r:RelV v u)
  (h:∀s',Inv X pins (σ.set i (some v)) H s'->Q () s') (hf:X.fn x=true\/X.env.scope.names.lookup x=some .local:=by first | exact .inl rfl | exact .inr rfl | assumption):wpAny M A (storeName X.env x u) Q E s :=
 Cd I hN hi hx r (fun s' I' _=>h s' I') hf
theorem Inv.call' {s':Shared} {ch:List Addr} (I:Inv X pins σ H s) (ho:s'.os=s.os) (u:Un (JG X.stack) ch H H' s.heap s'.heap) (hok:Am X.prog X.w H' s'.heap) (hg:AllBare s'.gens)
  (hch:∀b∈ch,(b∈X.ex\/X.s₀.heap.objs.size<=b)/\b≠X.env.locals/\(∀x c,X.env.cells.lookup x=some c->c≠b)/\∀p∈X.pn++pins,p.1≠b):Inv X pins σ H' s':=by
 obtain ⟨h',g',d',t',o'⟩:=s';have e:o'=s.os:=ho;subst e;exact I.call (g':=g') (t':=t') (d':=d') u hok hg hch
end
abbrev XK:=Value->Option Addr->Hp->Prop
abbrev St:=List (Option V)
abbrev VK:=V->Hp->Prop
abbrev TE:=St->Hp->VK->Prop
abbrev TT:=St->Hp->(Bool->Hp->Prop)->Prop
abbrev TA:=St->Hp->(List V->Hp->Prop)->Prop
structure Ends where
 nx:St->Hp->Prop
 rt:VK
 bk:St->Hp->Prop:=fun _ _=>False
 ct:St->Hp->Prop:=fun _ _=>False
abbrev TS:=Ends->St->Hp->Prop
def EP (X:Cx) (pins:List (Addr×Obj)) (σ:St) (Q:VK) (u:Value) (s':Shared):Prop:=∃v H',Inv X pins σ H' s'/\RelV v u/\Q v H'
def TP (X:Cx) (pins:List (Addr×Obj)) (σ:St) (Q:Bool->Hp->Prop) (b:Bool) (s':Shared):Prop:=∃H',Inv X pins σ H' s'/\Q b H'
def AP (X:Cx) (pins:List (Addr×Obj)) (σ:St) (Q:List V->Hp->Prop) (us:List Value) (s':Shared):Prop:=∃vs H',Inv X pins σ H' s'/\cP vs us/\Q vs H'
def SP (X:Cx) (pins:List (Addr×Obj)) (D:Ends) (f:Flow) (s':Shared):Prop :=
 match f with
 | .next=>∃σ' H',Inv X pins σ' H' s'/\D.nx σ' H'
 | .brk=>∃σ' H',Inv X pins σ' H' s'/\D.bk σ' H'
 | .cont=>∃σ' H',Inv X pins σ' H' s'/\D.ct σ' H'
 | .ret u=>∃v σ' H',Inv X pins σ' H' s'/\RelV v u/\D.rt v H'
def PE (X:Cx) (e:Expr) (t:TE):Prop :=
 ∀(pins:List (Addr×Obj)) (s:Shared) (σ:St) (H:Hp) (Q:VK),Inv X pins σ H s->t σ H Q->wpAny (model X.prog X.w) X.A (eval e X.env) (EP X pins σ Q) X.xe s
def PT (X:Cx) (e:Expr) (t:TT):Prop :=
 ∀(pins:List (Addr×Obj)) (s:Shared) (σ:St) (H:Hp) (Q:Bool->Hp->Prop),Inv X pins σ H s->t σ H Q->wpAny (model X.prog X.w) X.A (isTrue e X.env (eval e X.env)) (TP X pins σ Q) X.xe s
def PW (X:Cx) (e:Expr) (t:TT):Prop :=
 ∀(whole:Sem Value) (pins:List (Addr×Obj)) (s:Shared) (σ:St) (H:Hp) (Q:Bool->Hp->Prop),Inv X pins σ H s->t σ H Q->wpAny (model X.prog X.w) X.A (isTrue e X.env whole) (TP X pins σ Q) X.xe s
theorem PW.pt {X:Cx} {e:Expr} {t:TT} (h:PW X e t):PT X e t:=h _
def PA (X:Cx) (es:List Expr) (t:TA):Prop :=
 ∀(pos:Pos) (pins:List (Addr×Obj)) (s:Shared) (σ:St) (H:Hp) (Q:List V->Hp->Prop),Inv X pins σ H s->t σ H Q->wpAny (model X.prog X.w) X.A (spliced (backTo pos (starEach es X.env))) (AP X pins σ Q) X.xe s
def PS (X:Cx) (st:Stmt) (t:TS):Prop :=
 ∀(pins:List (Addr×Obj)) (s:Shared) (σ:St) (H:Hp) (D:Ends),Inv X pins σ H s->t D σ H->wpAny (model X.prog X.w) X.A (exec st X.env) (SP X pins D) X.xe s
def Gy (X:Cx) (st:List Stmt) (t:TS):Prop :=
 ∀(pins:List (Addr×Obj)) (s:Shared) (σ:St) (H:Hp) (D:Ends),Inv X pins σ H s->t D σ H->wpAny (model X.prog X.w) X.A (execs st X.env) (SP X pins D) X.xe s
theorem gL {α:Type} {t:Sem α} {Q Q':α->Shared->Prop} {M:Model} {A:Around} {E:Value->Shared->Prop} {s:Shared} (h:wpAny M A t Q E s) (hQ:∀a s,Q a s->Q' a s):wpAny M A t Q' E s:=wpAny_mono h hQ fun _ _ x=>x
section
variable {X:Cx}
def Oj (i:Nat):TE:=fun σ H Q=>∃v,σ[i]?=some (some v)/\Q v H
def tC (v:V):TE:=fun _ H Q=>Q v H
theorem O4 {i:Nat} {x:Str} {pos:Pos} (hN:X.N[i]?=some x) (hv:RO X.env.scope x) (hd:(x == ("__debug__":Str))=false:=by decide) (hcd:(x == ("__classdict__":Str))=false:=by decide):PE X (.Name x pos) (Oj i):=by
 intro pins s σ H Q I h;obtain ⟨v,e,h⟩:=h;obtain ⟨m,hn,hl⟩:=I.loc;obtain ⟨u,r,l⟩:=hl i x v hN e hv;have fin:EP X pins σ Q u s:=⟨v,H,I,r,h⟩;rcases l with ⟨hk,hm⟩ | ⟨hk,c,hc,hcell⟩
 ·exact wpAny_Name (wpAny_loadName_local I.ok.kind hk hn hm fin) hd
 ·rcases hk with hk | hk
  ·exact wpAny_Name (wpAny_loadName_cell I.ok.kind hk hc hcell fin) hd
  ·exact wpAny_Name (wpAny_loadName_free I.ok.kind hk hc hcell fin hcd) hd
theorem ak {i j pos}:PE X (.Constant (.int i) j pos) (tC (.int i)):=fun _ _ _ H _ I h=>wpAny_Constant_int ⟨.int i,H,I.tok _,⟨_,rfl⟩,h⟩
theorem sA {b j pos}:PE X (.Constant (.bool b) j pos) (tC (.bl b)):=fun _ _ _ H _ I h=>Constant_bool ⟨.bl b,H,I,rfl,h⟩
theorem Dh {j pos}:PE X (.Constant .none j pos) (tC .non):=fun _ _ _ H _ I h=>Constant_none ⟨.non,H,I,rfl,h⟩
theorem rC {x j pos}:PE X (.Constant (.str x) j pos) (tC (.str x)):=fun _ _ _ H _ I h=>Calls.Constant_str ⟨.str x,H,I.tok _,⟨_,rfl⟩,h⟩
def Gl (X:Cx) (x:Str):Prop:=X.env.kindOf x=some .globalImplicit
theorem Dx {E:Value->Shared->Prop} {pins:List (Addr×Obj)} {s:Shared} {σ:St} {H:Hp} {x:Str} {u:Value} {pos:Pos} {Q:Value->Shared->Prop} (I:Inv X pins σ H s) (hg:Gl X x) (hm:X.mg x=some u) (h:Q u s)
  (hd:(x == ("__debug__":Str))=false:=by decide):wpAny (model X.prog X.w) X.A (eval (.Name x pos) X.env) Q E s :=
 Calls.Name_function_global I.ok.kind hg (Calls.loadGlobal_global (by rw[I.ok.glob];exact I.mod.glob.keeps I.bk) hm h) hd
theorem lM {E:Value->Shared->Prop} {pins:List (Addr×Obj)} {s:Shared} {σ:St} {H:Hp} {x:Str} {u:Value} {pos:Pos} {Q:Value->Shared->Prop} (I:Inv X pins σ H s) (hg:Gl X x) (hm:X.mg x=none) (hv:bootBuiltins x=some u) (h:Q u s)
  (hn:x≠"__name__":=by decide) (hd:(x == ("__debug__":Str))=false:=by decide):wpAny (model X.prog X.w) X.A (eval (.Name x pos) X.env) Q E s:=by
 obtain ⟨mb,h1,h2⟩:=I.mod.blt;exact Calls.Name_function_global I.ok.kind hg (Calls.loadGlobal_builtin (by rw[I.ok.glob];exact I.mod.glob.keeps I.bk) hm (by rw[I.ok.blt];exact h1.keeps I.bk) ((h2 x hn).trans hv) h) hd
theorem xM {x:Str} {v:V} {u:Value} {pos:Pos} (hg:Gl X x) (hm:X.mg x=some u) (r:RelV v u) (hd:(x == ("__debug__":Str))=false:=by decide):PE X (.Name x pos) (tC v) :=
 fun _ _ _ H _ I h=>Dx I hg hm ⟨v,H,I,r,h⟩ hd
theorem GY {x:Str} {v:V} {u:Value} {pos:Pos} (hg:Gl X x) (hm:X.mg x=none) (hv:bootBuiltins x=some u) (r:RelV v u) (hn:x≠"__name__":=by decide) (hd:(x == ("__debug__":Str))=false:=by decide):PE X (.Name x pos) (tC v) :=
 fun _ _ _ H _ I h=>lM I hg hm hv ⟨v,H,I,r,h⟩ hn hd
variable {a b:Expr} {ta tb:TE} {pos:Pos}
def tB (t:TE):TT:=fun σ H Q=>t σ H fun x H1=>∃c,x=.bl c/\Q c H1
theorem jo {e : Expr} {t : TE} (h : PE X e t) (he : ∀ whole, isTrue e X.env whole = (do let v <- whole; standAt e.pos; holding [v] (truthy v)) := by intro _; rfl) : PT X e (tB t) := by
  intro pins s σ H Q I hw;refine isTrue_plain (gL (h pins s σ H _ I hw) fun v s1 ⟨x, H1, I1, r1, q1⟩ => ?_) (he _);obtain ⟨d, rfl, q⟩ := q1;cases r1;exact wpAny_truthy_bool ⟨H1, I1, q⟩

variable {tA tB':TT} {rest:List Expr}
def Qm (t u:TT):TT:=fun σ H Q=>t σ H fun c H1=>if c=true then u σ H1 Q else Q false H1
def tOr (t u:TT):TT:=fun σ H Q=>t σ H fun c H1=>if c=true then Q true H1 else u σ H1 Q
def Qi (t:TT):TT:=fun σ H Q=>t σ H fun c H1=>Q (!c) H1
theorem ma (ha:PT X a tA):PW X (.BoolOp .And [a] pos) tA:=by
 intro wh pins s σ H Q I h;refine isTrue_and (gL (ha pins s σ H Q I h) fun c s1 e=>?_);cases c with
 | true=>exact isTrue_and_nil e
 | false=>exact e
theorem pH (ha:PT X a tA):PW X (.BoolOp .Or [a] pos) tA:=by
 intro wh pins s σ H Q I h;refine isTrue_or (gL (ha pins s σ H Q I h) fun c s1 e=>?_);cases c with
 | false=>exact isTrue_or_nil e
 | true=>exact e
theorem kv (ha:PT X a tA) (hb:PW X (.BoolOp .And (b :: rest) pos) tB'):PW X (.BoolOp .And (a :: b :: rest) pos) (Qm tA tB'):=by
 intro wh pins s σ H Q I h;refine isTrue_and (gL (ha pins s σ H _ I h) fun c s1 ⟨H1,I1,q1⟩=>?_);cases c with
 | true=>exact hb wh pins s1 σ H1 Q I1 q1
 | false=>exact ⟨H1,I1,q1⟩
theorem uR (ha:PT X a tA) (hb:PW X (.BoolOp .Or (b :: rest) pos) tB'):PW X (.BoolOp .Or (a :: b :: rest) pos) (tOr tA tB'):=by
 intro wh pins s σ H Q I h;refine isTrue_or (gL (ha pins s σ H _ I h) fun c s1 ⟨H1,I1,q1⟩=>?_);cases c with
 | true=>exact ⟨H1,I1,q1⟩
 | false=>exact hb wh pins s1 σ H1 Q I1 q1
theorem jH (ha:PT X a tA):PT X (.UnaryOp .Not a pos) (Qi tA):=by
 intro pins s σ H Q I h;exact isTrue_not (ha pins s σ H (fun c H1=>Q (!c) H1) I h)
def NL (ta tb:TE):TE:=fun σ H Q=>ta σ H fun x H1=>∃c,x=.bl c/\if c=true then tb σ H1 Q else Q (.bl false) H1
def NF (ta:TE):TE:=fun σ H Q=>ta σ H fun x H1=>∃c,x=.bl c/\Q (.bl (!c)) H1
theorem AQ {op} {t:TE} (h:PE X a t):PE X (.BoolOp op [a] pos) t:=fun pins s σ H Q I hw=>BoolOp_one (h pins s σ H Q I hw)
theorem AS (ha:PE X a ta) (hb:PE X (.BoolOp .And (b :: rest) pos) tb):PE X (.BoolOp .And (a :: b :: rest) pos) (NL ta tb):=by
 intro pins s σ H Q I h;refine BoolOp_and (gL (ha pins s σ H _ I h) fun v s1 ⟨x,H1,I1,r1,q1⟩=>?_);obtain ⟨c,rfl,q1⟩:=q1;cases r1;refine wpAny_truthy_bool ?_;cases c with
 | true=>exact hb pins s1 σ H1 Q I1 q1
 | false=>exact ⟨.bl false,H1,I1,rfl,q1⟩
theorem O5 (ha:PE X a ta):PE X (.UnaryOp .Not a pos) (NF ta):=by
 intro pins s σ H Q I h;refine UnaryOp_ (gL (ha pins s σ H _ I h) fun v s1 ⟨x,H1,I1,r1,q1⟩=>?_);obtain ⟨c,rfl,q1⟩:=q1;cases r1;exact not_of (wpAny_truthy_bool ⟨.bl (!c),H1,I1,rfl,q1⟩)
def tIf (t:TT) (ta tb:TE):TE:=fun σ H Q=>t σ H fun c H1=>if c=true then ta σ H1 Q else tb σ H1 Q
theorem KJ {c:Expr} (hc:PT X c tA) (ha:PE X a ta) (hb:PE X b tb):PE X (.IfExp c a b pos) (tIf tA ta tb):=by
 intro pins s σ H Q I h;refine wpAny_IfExp (gL (hc pins s σ H _ I h) fun d s1 ⟨H1,I1,q1⟩=>?_);cases d with
 | true=>exact ha pins s1 σ H1 Q I1 q1
 | false=>exact hb pins s1 σ H1 Q I1 q1
end
def bV (K:PySem.W.Frag) (H:Hp) (a:Addr) (xs:List V):Prop :=
 Rd H a (.lst xs) \/
  ∃(o:Obj) (its:Array Value) (n:Nat),K.lookup a=some o/\o.cls=.type "list"/\o.dict=none/\o.data=.seq its n/\its.size<=sizeLine/\cP xs its.toList
def uc (K:PySem.W.Frag) (H:Hp) (a:Addr) (xs:List V):Prop :=
 Rd H a (.tup xs) \/
  ∃(o:Obj) (its:Array Value) (n:Nat),K.lookup a=some o/\o.cls=.type "tuple"/\o.data=.seq its n/\its.size<=sizeLine/\cP xs its.toList
def RN:Value->Option V
 | .none=>some .non
 | .bool b=>some (.bl b)
 | .int i _=>some (.int i)
 | .str x _=>some (.str x)
 | .bytes b _=>some (.byt b)
 | .float b _=>some (.flt b)
 | .ref a=>some (.ref a)
 | .type n=>some (.ty n)
 | _=>none
theorem RelV.abs {x:V} {u:Value} (r:RelV x u):RN u=some x:=by
 cases x with
 | non=>cases r;rfl
 | bl _=>cases r;rfl
 | int _=>obtain ⟨t,rfl⟩:=r;rfl
 | str _=>obtain ⟨t,rfl⟩:=r;rfl
 | byt _=>obtain ⟨t,rfl⟩:=r;rfl
 | flt _=>obtain ⟨t,rfl⟩:=r;rfl
 | ref _=>cases r;rfl
 | ty _=>cases r;rfl
theorem RelV.inj {x y:V} {u:Value} (r:RelV x u) (q:RelV y u):x=y:=cm (r.abs.symm.trans q.abs)
theorem cP.inj:∀{xs ys:List V} {us:List Value},cP xs us->cP ys us->xs=ys
 | _,_,_,.nil,.nil=>rfl
 | _,_,_,.cons r t,.cons r' t'=>by rw[r.inj r',cP.inj t t']
section
variable {X:Cx} {pins:List (Addr×Obj)} {σ:St} {H:Hp} {s:Shared} {a:Addr} {xs ys:List V}
theorem bV.of {K:PySem.W.Frag} (h:H a=some (.lst xs)):bV K H a xs:=.inl (.inl h)
theorem uc.of {K:PySem.W.Frag} (h:H a=some (.tup xs)):uc K H a xs:=.inl (.inl h)
theorem Inv.list (I:Inv X pins σ H s) (h:bV X.K H a xs):∃its:List Value,cP xs its/\PlainL s.heap a its.toArray/\xs.length<=sizeLine:=by
 rcases h with h | ⟨o,its,n,hk,hc,hd,hs,hz,r⟩
 ·obtain ⟨z,its,n,r,e⟩:=h.ok I.hok;exact ⟨its,r,⟨_,n,e,rfl,rfl,rfl⟩,z⟩
 ·refine ⟨its.toList,r,⟨o,n,I.kIn a o hk,hc,hd,by simpa using hs⟩,?_⟩;have e:=r.length;simp only[Array.length_toList] at e
  lia
theorem Inv.tuple (I:Inv X pins σ H s) (h:uc X.K H a xs):∃its:List Value,cP xs its/\IsTup s.heap a its.toArray/\xs.length<=sizeLine:=by
 rcases h with h | ⟨o,its,n,hk,hc,hs,hz,r⟩
 ·obtain ⟨z,its,r,p⟩:=h.ok I.hok;exact ⟨its,r,p,z⟩
 ·refine ⟨its.toList,r,⟨o,I.kIn a o hk,hc,n,by simpa using hs⟩,?_⟩;have e:=r.length;simp only[Array.length_toList] at e
  lia
theorem Inv.list_inj (I:Inv X pins σ H s) (h:bV X.K H a xs) (h':bV X.K H a ys):xs=ys:=by
 obtain ⟨its,r,⟨o,n,e,_,_,d⟩,_⟩:=I.list h;obtain ⟨its',r',⟨o',n',e',_,_,d'⟩,_⟩:=I.list h';rw[e] at e';cases e';rw[d] at d';injection d' with d1 _
 have:its=its':=by simpa using congrArg Array.toList d1
 subst this;exact r.inj r'
theorem Inv.tuple_inj (I:Inv X pins σ H s) (h:uc X.K H a xs) (h':uc X.K H a ys):xs=ys:=by
 obtain ⟨its,r,⟨o,e,_,n,d⟩,_⟩:=I.tuple h;obtain ⟨its',r',⟨o',e',_,n',d'⟩,_⟩:=I.tuple h';rw[e] at e';cases e';rw[d] at d';injection d' with d1 _
 have:its=its':=by simpa using congrArg Array.toList d1
 subst this;exact r.inj r'
end
abbrev Cx.wish (X:Cx) (E:Value->Shared->Prop):Cx:={ X with xe:=E }
abbrev Cx.nox (X:Cx):Cx:=X.wish fun _ _=>False
theorem Cx.Ok.wish {X:Cx} (ok:X.Ok) (E:Value->Shared->Prop):(X.wish E).Ok :=
 ⟨ok.mod,ok.kind,ok.glob,ok.blt,ok.above,ok.inj,ok.has,ok.cab,ok.hd,ok.frames,ok.stk,ok.exf,ok.bs,ok.bsz,ok.noex,ok.exfs,ok.funs,ok.frf⟩
theorem Cx.Ok.unwish {X:Cx} {E:Value->Shared->Prop} (ok:(X.wish E).Ok):X.Ok :=
 ⟨ok.mod,ok.kind,ok.glob,ok.blt,ok.above,ok.inj,ok.has,ok.cab,ok.hd,ok.frames,ok.stk,ok.exf,ok.bs,ok.bsz,ok.noex,ok.exfs,ok.funs,ok.frf⟩
section
variable {X:Cx} {pins:List (Addr×Obj)} {σ:St} {H:Hp} {s:Shared} {E:Value->Shared->Prop}
theorem Inv.wish (I:Inv X pins σ H s) (E:Value->Shared->Prop):Inv (X.wish E) pins σ H s:=⟨I.ok.wish E,I.os,I.bare,I.base,I.loc,I.cell,I.free,I.freeC,I.pin,I.hok,I.len⟩
theorem Inv.unwish (I:Inv (X.wish E) pins σ H s):Inv X pins σ H s:=⟨I.ok.unwish,I.os,I.bare,I.base,I.loc,I.cell,I.free,I.freeC,I.pin,I.hok,I.len⟩
theorem SP.unwish {D:Ends} {f:Flow} {s':Shared} (h:SP (X.wish E) pins D f s'):SP X pins D f s':=by
 cases f with
 | next=>obtain ⟨σ',H',I,q⟩:=h;exact ⟨σ',H',I.unwish,q⟩
 | brk=>obtain ⟨σ',H',I,q⟩:=h;exact ⟨σ',H',I.unwish,q⟩
 | cont=>obtain ⟨σ',H',I,q⟩:=h;exact ⟨σ',H',I.unwish,q⟩
 | ret u=>obtain ⟨v,σ',H',I,r,q⟩:=h;exact ⟨v,σ',H',I.unwish,r,q⟩
theorem Gy.nox {st:List Stmt} {t:TS} (h:Gy X.nox st t):Gy X st t:=fun pins s σ H D I hw =>
 wpAny_mono (h pins s σ H D (I.wish _) hw) (fun _ _ q=>q.unwish) fun _ _ z=>False.elim z
end
section
variable {X:Cx} {st:Stmt} {rest:List Stmt} {t u:TS} {e:Expr} {te:TE} {pos:Pos}
def NG:TS:=fun D σ H=>D.nx σ H
def Qd (t u:TS):TS:=fun D σ H=>t { D with nx:=u D } σ H
theorem bZ:Gy X [] NG:=fun _ _ σ H _ I h=>wpAny_execs_nil ⟨σ,H,I,h⟩
theorem aw (h1:PS X st t) (h2:Gy X rest u):Gy X (st :: rest) (Qd t u):=by
 intro pins s σ H D I h;refine wpAny_execs_cons (gL (h1 pins s σ H { D with nx:=u D } I h) fun f s1 q=>?_);cases f with
 | next =>
  obtain ⟨σ',H',I',q⟩:=q;exact h2 pins s1 σ' H' D I' q
 | ret v=>exact q
 | brk=>exact q
 | cont=>exact q
theorem aB (h1:PS X st t):Gy X [st] t:=by
 intro pins s σ H D I h;refine wpAny_execs_cons (gL (h1 pins s σ H D I h) fun f s1 q=>?_);cases f with
 | next=>exact wpAny_execs_nil q
 | ret v=>exact q
 | brk=>exact q
 | cont=>exact q
theorem Inv.quiet {pins:List (Addr×Obj)} {σ:St} {H:Hp} {s:Shared} (I:Inv X pins σ H s):interactive X.env=false:=by simp [interactive,I.ok.kind]
def NJ (te:TE):TS:=fun D σ H=>te σ H fun _ H1=>D.nx σ H1
theorem md (he:PE X e te) (hs:swapsWith e none pos.line X.env=pure false:=by rfl):PS X (.Expr e pos) (NJ te):=by
 intro pins s σ H D I h;exact wpAny_Expr_any (gL (he pins s σ H _ I h) fun v s1 ⟨x,H1,I1,r1,q1⟩=>⟨σ,H1,I1,q1⟩) I.quiet hs
def Qf (te:TE):TS:=fun D σ H=>te σ H D.rt
theorem aX (he:PE X e te):PS X (.Return (some e) pos) (Qf te):=by
 intro pins s σ H D I h;exact wpAny_Return_some (gL (he pins s σ H _ I h) fun v s1 ⟨x,H1,I1,r1,q1⟩=>⟨x,σ,H1,I1,r1,q1⟩)
def Qk (c:TT) (t u:TS):TS:=fun D σ H=>c σ H fun b H1=>if b=true then t D σ H1 else u D σ H1
theorem dc {c:Expr} {a b:List Stmt} {tc:TT} (hc:PT X c tc) (ha:Gy X a t) (hb:Gy X b u):PS X (.If c a b pos) (Qk tc t u):=by
 intro pins s σ H D I h;refine wpAny_If (gL (hc pins s σ H _ I h) fun d s1 ⟨H1,I1,q1⟩=>?_);cases d with
 | true=>exact ha pins s1 σ H1 D I1 q1
 | false=>exact hb pins s1 σ H1 D I1 q1
end
abbrev TG:=V->St->Hp->(St->Hp->Prop)->Prop
abbrev LU:=List V->St->Hp->(St->Hp->Prop)->Prop
def PG (X:Cx) (target:Expr) (t:TG):Prop :=
 ∀(pins:List (Addr×Obj)) (s:Shared) (σ:St) (H:Hp) (v:V) (u:Value) (Q:St->Hp->Prop),Inv X pins σ H s->RelV v u->t v σ H Q →
  wpAny (model X.prog X.w) X.A (assign target X.env u) (fun _ s'=>∃σ' H',Inv X pins σ' H' s'/\Q σ' H') X.xe s
def QZ (X:Cx) (ts:List Expr) (t:LU):Prop :=
 ∀(pins:List (Addr×Obj)) (s:Shared) (σ:St) (H:Hp) (vs:List V) (us:List Value) (Q:St->Hp->Prop),Inv X pins σ H s->cP vs us->t vs σ H Q →
  wpAny (model X.prog X.w) X.A (assignInOrder ((assignEach ts X.env).map (·.2)) us) (fun _ s'=>∃σ' H',Inv X pins σ' H' s'/\Q σ' H') X.xe s
abbrev Gu:=V->V->V->Hp->(Hp->Prop)->Prop
def Py (X:Cx) (t:Gu):Prop :=
 ∀(pins:List (Addr×Obj)) (s:Shared) (σ:St) (H:Hp) (o i v:V) (ov iv u:Value) (Q:Hp->Prop),Inv X pins σ H s->RelV o ov->RelV i iv->RelV v u->t o i v H Q →
  wpAny (model X.prog X.w) X.A (setItem ov iv u) (fun _ s'=>∃H',Inv X pins σ H' s'/\Q H') X.xe s
abbrev QY:=V->V->Hp->VK->Prop
def PIp (X:Cx) (op:Operator) (t:QY):Prop :=
 ∀(pins:List (Addr×Obj)) (s:Shared) (σ:St) (H:Hp) (x y:V) (v u:Value) (Q:VK),Inv X pins σ H s->RelV x v->RelV y u->t x y H Q →
  wpAny (model X.prog X.w) X.A (inplaceOp op v u) (EP X pins σ Q) X.xe s
section
variable {X:Cx} {pos:Pos}
def HH (i:Nat):TG:=fun v σ H Q=>Q (σ.set i (some v)) H
theorem aO {i:Nat} {x:Str} (hN:X.N.Nodup) (hi:X.N[i]?=some x:=by exact rfl) (hx:Loc X.env.scope x:=by exact Or.inl rfl) (hf:X.fn x=true\/X.env.scope.names.lookup x=some .local:=by first | exact .inl rfl | exact .inr rfl | assumption):PG X (.Name x pos) (HH i):=by
 intro pins s σ H v u Q I r h;exact wpAny_assign_Name (xF I hN hi hx r (fun s' I'=>⟨_,H,I',h⟩) hf)
def QU:LU:=fun vs σ H Q=>vs=[]/\Q σ H
def N3 (t:TG) (u:LU):LU:=fun vs σ H Q=>∃v r,vs=v :: r/\t v σ H fun σ' H'=>u r σ' H' Q
theorem iX:QZ X [] QU:=by
 intro pins s σ H vs us Q I r h;obtain ⟨e,h⟩:=h;subst e;cases r;exact assignInOrder_nil ⟨σ,H,I,h⟩
theorem cI {e:Expr} {es:List Expr} {t:TG} {u:LU} (h1:PG X e t) (h2:QZ X es u)
  (hs:(assignEach (e :: es) X.env).map (·.2)=assign e X.env :: (assignEach es X.env).map (·.2):=by rfl):QZ X (e :: es) (N3 t u):=by
 intro pins s σ H vs us Q I r h;obtain ⟨v,vr,e1,h⟩:=h;subst e1;cases r with
 | cons r rr =>
  rw[hs];refine assignInOrder_cons (gL (h1 pins s σ H _ _ _ I r h) fun _ s1 ⟨σ1,H1,I1,q1⟩=>?_);exact h2 pins s1 σ1 H1 _ _ Q I1 rr q1
def Pn (K:PySem.W.Frag) (n:Nat) (t:LU):TG:=fun v σ H Q=>∃a xs,v=.ref a/\uc K H a xs/\xs.length=n/\t xs σ H Q
theorem uS {es:List Expr} {k:Nat} {t:LU} {n:Nat} (hc:X.calm=true) (h:QZ X es t)
  (hn:(assignEach es X.env).length=n:=by rfl) (hst:(assignEach es X.env).findIdx? (·.1)=none:=by rfl):PG X (.Tuple es k pos) (Pn X.K n t):=by
 intro pins s σ H v u Q I r hw;obtain ⟨a,xs,e1,hq,hl,hw⟩:=hw;subst e1;cases r;obtain ⟨its,rv,ht,hz⟩:=I.tuple hq;refine assign_Tuple_tuple (I.ok.hd hc) ht (by simp [hn,<- hl,rv.length]) hst fun h' hx=>?_
 have I1:Inv X pins σ H { s with heap:=h' }:=I.kept (t':=s.toks) fun b o e=>hx b o (cg (Heap.lt_size e)) e
 exact h pins _ σ H xs _ Q I1 (by simpa using rv) hw
def QT (to ti:TE) (t:Gu):TG:=fun v σ H Q=>to σ H fun o H1=>ti σ H1 fun i H2=>t o i v H2 fun H3=>Q σ H3
theorem h9 {o i : Expr} {to ti : TE} {t : Gu} (ho : PE X o to) (hi : PE X i ti) (hs : Py X t)
    (ha : ∀ v, assign (.Subscript o i pos) X.env v = (do
      let ov <- holding [v] (eval o X.env)
      let iv <- holding [v, ov] (eval i X.env)
      standAt pos
      holding [v, ov, iv] (setItem ov iv v)
      release [v, ov, iv] []) := by intro _; rfl) : PG X (.Subscript o i pos) (QT to ti t) := by
  intro pins s σ H v u Q I r h;rw [ha];refine wpAny_bind (wpAny_holding (gL (ho pins s σ H _ I h) fun ov s1 ⟨x, H1, I1, r1, q1⟩ => ?_));refine wpAny_bind (wpAny_holding (gL (hi pins s1 σ H1 _ I1 q1) fun iv s2 ⟨y, H2, I2, r2, q2⟩ => ?_));refine wpAny_bind (wpAny_standAt (wpAny_bind (wpAny_holding (gL (hs pins s2 σ H2 x y v ov iv u _ I2 r1 r2 r q2) fun _ s3 ⟨H3, I3, q3⟩ => ?_))));exact wpAny_release ⟨σ, H3, I3, q3⟩
def L7 (te:TE) (g:TG):TS:=fun D σ H=>te σ H fun x H1=>g x σ H1 D.nx
theorem ff {tg e:Expr} {te:TE} {g:TG} (he:PE X e te) (hg:PG X tg g) (hs:swapsWithSole [tg] e pos.line X.env=pure false:=by rfl) (hw:swappedStores [tg] e X.env=pure none:=by rfl)
  (h1:(assignEach [tg] X.env).map (·.2)=[assign tg X.env]:=by rfl):PS X (.Assign [tg] e pos) (L7 te g):=by
 intro pins s σ H D I h;refine wpAny_Assign_stores (gL (he pins s σ H _ I h) fun v s1 ⟨x,H1,I1,r1,q1⟩=>?_) hs hw;rw[h1];exact gL (hg pins s1 σ H1 x v _ I1 r1 q1) fun _ s2 q=>q
theorem bo {i:Nat} {x:Str} {e:Expr} {te:TE} {pos':Pos} (hN:X.N.Nodup) (hi:X.N[i]?=some x) (hx:Loc X.env.scope x) (he:PE X e te) (hs:swapsWith e (some (.Name x pos')) pos.line X.env=pure false:=by rfl) (hf:X.fn x=true\/X.env.scope.names.lookup x=some .local:=by first | exact .inl rfl | exact .inr rfl | assumption) :
  PS X (.Assign [.Name x pos'] e pos) (L7 te (HH i)):=by
 intro pins s σ H D I h;refine wpAny_Assign_Name (gL (he pins s σ H _ I h) fun v s1 ⟨y,H1,I1,r1,q1⟩=>?_) hs;exact xF I1 hN hi hx r1 (fun s2 I2=>⟨_,H1,I2,q1⟩) hf
def Qg (i j:Nat) (ta:TA):TS:=fun D σ H=>ta σ H fun vs H1=>∃v w,vs=[v,w]/\D.nx ((σ.set i (some v)).set j (some w)) H1
theorem KD {i j : Nat} {x y : Str} {a b : Expr} {ta : TA} {px py pt : Pos} {kt k2 pt2} (hc : X.calm = true) (hN : X.N.Nodup) (hi : X.N[i]? = some x) (hj : X.N[j]? = some y) (hij : i ≠ j)
    (hx : X.env.scope.names.lookup x = some .local) (hy : X.env.scope.names.lookup y = some .local) (ha : PA X [a, b] ta)
    (hw : swappedStores [.Tuple [.Name x px, .Name y py] kt pt] (.Tuple [a, b] k2 pt2) X.env = pure (some [x, y]))
    (hs : swapsWithSole [.Tuple [.Name x px, .Name y py] kt pt] (.Tuple [a, b] k2 pt2) pos.line X.env = pure false := by rfl) :
    PS X (.Assign [.Tuple [.Name x px, .Name y py] kt pt] (.Tuple [a, b] k2 pt2) pos) (Qg i j ta) := by
  intro pins s σ H D I h;rw [exec_Assign_arm];refine wpAny_bind (wpAny_standAt ?_);rw [hs];refine wpAny_bind (wpAny_pure ?_);rw [if_neg (by decide)];refine wpAny_bind (Tuple_ (gL (ha _ pins s σ H _ I h) fun us s1 ⟨vs, H1, I1, r1, q1⟩ => ?_));obtain ⟨v, w, e1, q1⟩ := q1;subst e1
  obtain ⟨u1, u2, rfl, rv, rw'⟩ : ∃ u1 u2, us = [u1, u2] /\ RelV v u1 /\ RelV w u2 := by
    cases r1 with
    | cons p q =>
      cases q with
      | cons p' q' =>
        cases q';exact ⟨_, _, rfl, p, p'⟩
  refine wpAny_newObj_type ?_ (by show 2 ≤ sizeLine; decide);have I2 : Inv X pins σ H1 { s1 with heap := s1.heap.push { cls := .type "tuple", data := .seq [u1, u2].toArray } } := I1.kept (t' := s1.toks) fun b o e => Heap.get?_push_of_some _ e
  rw [hw];refine wpAny_bind (wpAny_pure ?_);show wpAny (model X.prog X.w) X.A (do rule "assign.swapped-stores"; let items <- unpackItems (.ref s1.heap.objs.size) 2 none; assignInOrder [fun v => bindName X.env y v, fun v => bindName X.env x v] items.reverse; pure Flow.next) _ _ _
  refine wpAny_bind (wpAny_rule (wpAny_bind (unpackItems_tuple (items := #[u1, u2]) (I.ok.hd hc) (IsTup.new s1.heap _) fun h' hx' => ?_)));have I3 := I2.kept (h' := h') (t' := s1.toks) fun b o e => hx' b o (cg (Heap.lt_size e)) e
  show wpAny _ _ (assignInOrder [fun v => bindName X.env y v, fun v => bindName X.env x v] [u2, u1] >>= fun _ => pure Flow.next) _ _ _
  refine wpAny_bind (assignInOrder_cons (wpAny_bindName (xF I3 hN hj (.inl hy) rw' (fun s2 I4 => ?_) (.inr hy))));refine assignInOrder_cons (wpAny_bindName (xF I4 hN hi (.inl hx) rv (fun s3 I5 => assignInOrder_nil (wpAny_pure ?_)) (.inr hx)));rw [List.set_comm _ _ (Ne.symm hij)] at I5;exact ⟨_, H1, I5, q1⟩
def NK (to ti te:TE) (tget:V->V->Hp->VK->Prop) (tip:QY) (tset:Gu):TS:=fun D σ H=>to σ H fun o H1=>ti σ H1 fun i H2=>tget o i H2 fun x H3=>te σ H3 fun y H4=>tip x y H4 fun z H5=>tset o i z H5 fun H6=>D.nx σ H6
def Q0 (X:Cx) (t:V->V->Hp->VK->Prop):Prop :=
 ∀(pins:List (Addr×Obj)) (s:Shared) (σ:St) (H:Hp) (o i:V) (ov iv:Value) (Q:VK),Inv X pins σ H s->RelV o ov->RelV i iv->t o i H Q →
  wpAny (model X.prog X.w) X.A (getItem ov iv) (EP X pins σ Q) X.xe s
theorem MT {o i e : Expr} {to ti te : TE} {tget : V → V → Hp → VK → Prop} {tip : QY} {tset : Gu} {op : Operator} {tpos : Pos} (ho : PE X o to) (hi : PE X i ti) (hg : Q0 X tget) (he : PE X e te) (hp : PIp X op tip) (hs : Py X tset)
    (ha : ∀ ov iv new, augStore i ov iv new = (do holding [new, ov, iv] (setItem ov iv new); release [new, ov, iv] []; pure .next) := by intros; rfl) : PS X (.AugAssign (.Subscript o i tpos) op e pos) (NK to ti te tget tip tset) := by
  intro pins s σ H D I h;refine wpAny_AugAssign_SubscriptAny (gL (ho pins s σ H _ I h) fun ov s1 ⟨x1, H1, I1, r1, q1⟩ => ?_) ha;refine gL (hi pins s1 σ H1 _ I1 q1) fun iv s2 ⟨x2, H2, I2, r2, q2⟩ => ?_
  refine gL (hg pins s2 σ H2 x1 x2 ov iv _ I2 r1 r2 q2) fun old s3 ⟨x3, H3, I3, r3, q3⟩ => ?_
  refine gL (he pins s3 σ H3 _ I3 q3) fun v s4 ⟨x4, H4, I4, r4, q4⟩ => ?_
  refine gL (hp pins s4 σ H4 x3 x4 old v _ I4 r3 r4 q4) fun new s5 ⟨x5, H5, I5, r5, q5⟩ => ?_
  exact gL (hs pins s5 σ H5 x1 x2 x5 ov iv new _ I5 r1 r2 r5 q5) fun _ s6 ⟨H6, I6, q6⟩ => ⟨σ, H6, I6, q6⟩
def ipI (f:Int->Int->Int):QY:=fun x y H Q=>∃i j,x=.int i/\y=.int j/\Q (.int (f i j)) H
theorem Ph:PIp X .Add (ipI fun i j=>i+j):=by
 intro pins s σ H x y v u Q I r1 r2 h;obtain ⟨i,j,e1,e2,q⟩:=h;subst e1;subst e2;obtain ⟨t,rfl⟩:=r1;obtain ⟨t',rfl⟩:=r2;exact iadd_int ⟨.int _,H,I.tok _,⟨_,rfl⟩,q⟩
end
section
variable {X:Cx} {pos:Pos}
def JV (c:TT) (tb:TS):TS:=fun D σ H=>∃W:Nat->St->Hp->Prop,(∃m,W m σ H)/\∀m σ H,W m σ H →
 c σ H fun b H1=>if b=true then ∃N:St->Hp->Prop,(∀σ' H',N σ' H'->∃m',m' < m/\W m' σ' H')/\tb { D with nx:=N,ct:=N,bk:=D.nx } σ H1 else D.nx σ H1
theorem AJ {c:Expr} {body:List Stmt} {tc:TT} {tb:TS} (hp:PassesOwn (model X.prog X.w) X.A X.env X.xe) (hc:PT X c tc) (hb:Gy X body tb):PS X (.While c body [] pos) (JV tc tb):=by
 intro pins s σ H D I h;obtain ⟨W,⟨m0,w0⟩,turn⟩:=h;refine wpAny_While (codeAny_whileLoop (fun n s'=>∃σ' H',Inv X pins σ' H' s'/\W n σ' H') ?_ m0 ⟨σ,H,I,w0⟩);rintro n s1 ⟨σ1,H1,I1,w1⟩;refine wpAny_passesOwn hp (gL (hc pins s1 σ1 H1 _ I1 (turn n σ1 H1 w1)) fun b s2 ⟨H2,I2,q2⟩=>?_);cases b with
 | true =>
  obtain ⟨N,hN,q2⟩:=q2;rw[if_pos rfl];refine wpAny_passesOwn hp (gL (hb pins s2 σ1 H2 _ I2 q2) fun f s3 q3=>?_);cases f with
  | next =>
   obtain ⟨σ3,H3,I3,n3⟩:=q3;obtain ⟨m',hm,w3⟩:=hN σ3 H3 n3;exact ⟨m',hm,σ3,H3,I3,w3⟩
  | cont =>
   obtain ⟨σ3,H3,I3,n3⟩:=q3;obtain ⟨m',hm,w3⟩:=hN σ3 H3 n3;exact ⟨m',hm,σ3,H3,I3,w3⟩
  | brk=>exact q3
  | ret v=>exact q3
 | false =>
  rw[if_neg bA];exact wpAny_execs_nil ⟨σ1,H2,I2,q2⟩
end
structure It where
 go:Nat->Hp->Prop
 yld:Nat->Hp->V->Hp->Prop
 stop:Nat->Hp->Prop
def lQ (X:Cx) (pins:List (Addr×Obj)) (H:Hp) (b:Addr):Prop :=
 H b=none/\b≠X.env.locals/\b∉X.fs/\(b∈X.ex\/X.s₀.heap.objs.size<=b)/\(∀x c,X.env.cells.lookup x=some c->c≠b)/\∀p∈X.pn++pins,p.1≠b
theorem Inv.fpOk {X:Cx} {pins:List (Addr×Obj)} {σ:St} {H H':Hp} {s:Shared} {b:Addr} (I:Inv X pins σ H s) (hb:s.heap.objs.size<=b) (hn:H' b=none):lQ X pins H' b:=by
 refine ⟨hn,Ih (bF I.lt hb),I.nofs hb,.inr (aj I.sz hb),fun x c e z=>?_,fun p hp z=>?_⟩
 ·obtain ⟨v,q⟩:=I.cell x c e;exact absurd (bF q.lt (by rw[z];exact hb)) (fq _)
 ·exact absurd (bF (Heap.lt_size (I.pin p hp).1) (by rw[z];exact hb)) (fq _)
structure Turn (P:Program) (w:World) (K:PySem.W.Frag) (tg:Expr) (J:It) (fp:List Addr) (it:Addr) (tn:Nat->Heap->Prop):Prop where
 mem:it∈fp
 obj:∀i h,tn i h->∀b∈fp,∃o,h.get? b=some o/\∀v,o.data≠.cell v
 keep:∀i h h',tn i h->(∀b∈fp,∀o,h.get? b=some o->h'.get? b=some o)->tn i h'
 item:∀(X:Cx),X.prog=P->X.w=w->X.K=K->X.calm=true->∀(i:Nat) (pins:List (Addr×Obj)) (s:Shared) (σ:St) (H:Hp) (E:Value->Shared->Prop),Inv X pins σ H s->(∀b∈fp,lQ X pins H b)->tn i s.heap->J.go i H →
  wpAny (model P w) X.A (pyNext (.ref it)) (fun r s1=>∃u,r=some u /\
   wpAny (model P w) X.A (letOwnedTupleGo tg (.ref it) u) (fun _ s2=>∃x H',Inv X pins σ H' s2/\RelV x u/\J.yld i H x H'/\tn (i+1) s2.heap/\∀b∈fp,H' b=none) E s1) E s
 done:∀(X:Cx),X.prog=P->X.w=w->X.K=K->X.calm=true->∀(i:Nat) (pins:List (Addr×Obj)) (s:Shared) (σ:St) (H:Hp) (E:Value->Shared->Prop),Inv X pins σ H s->(∀b∈fp,lQ X pins H b)->tn i s.heap->J.stop i H →
  wpAny (model P w) X.A (pyNext (.ref it)) (fun r s1=>r=none/\Inv X pins σ H s1) E s
 self:∀(A:Around) (i:Nat) (s:Shared) (Q:Value->Shared->Prop) (E:Value->Shared->Prop),tn i s.heap->Q (.ref it) s->wpAny (model P w) A (pyIter (.ref it)) Q E s
abbrev TI:=St->Hp->(It->Hp->Prop)->Prop
def PIE (X:Cx) (pins:List (Addr×Obj)) (σ:St) (tg:Expr) (R:It->Hp->Prop) (itv:Value) (s2:Shared):Prop :=
 ∃(it:Addr) (fp:List Addr) (tn:Nat->Heap->Prop) (J:It) (H':Hp),itv=.ref it/\Inv X pins σ H' s2/\Turn X.prog X.w X.K tg J fp it tn/\tn 0 s2.heap/\(∀b∈fp,lQ X pins H' b)/\R J H'
def PI (X:Cx) (tg iter:Expr) (wi:TI):Prop :=
 ∀(pins:List (Addr×Obj)) (s:Shared) (σ:St) (H:Hp) (R:It->Hp->Prop),Inv X pins σ H s->wi σ H R →
  wpAny (model X.prog X.w) X.A (eval iter X.env) (fun v s1=>wpAny (model X.prog X.w) X.A (pyIter v) (PIE X pins σ tg R) X.xe s1) X.xe s
theorem Lg {M : Model} {A : Around} {E : Value → Shared → Prop} {s : Shared} {tg : Expr} {it : Addr} {u : Value} {o : Obj} {n : String} {vs : Array Value} {Q : Unit → Shared → Prop} (ho : s.heap.get? it = some o) (hc : o.cls = .type n) (hd : o.data = .fields vs)
    (hn : ["enumerate", "zip", "dict_itemiterator", "dict_reverseitemiterator", "odict_iterator", "itertools.zip_longest", "itertools.pairwise"].contains n = false) (hQ : Q () s) : wpAny M A (letOwnedTupleGo tg (.ref it) u) Q E s := by
  unfold letOwnedTupleGo
  cases tg <;> first
    | exact wpAny_pure hQ
    | (cases u <;> first
        | exact wpAny_pure hQ
        | (refine wpAny_bind (wpAny_load ho ?_)
           rw [hc, hd];show wpAny M A (if (["enumerate", "zip", "dict_itemiterator", "dict_reverseitemiterator", "odict_iterator", "itertools.zip_longest", "itertools.pairwise"].contains n && vs[0]? == some (rawInt _)) = true then _ else _) Q E s
           rw [if_neg (by intro h; rw [hn, Bool.false_and] at h; cases h)];exact wpAny_pure hQ))

def NA (K:PySem.W.Frag) (a:Addr):It :=
 ⟨fun i H=>∃xs x,bV K H a xs/\xs[i]?=some x,fun i H x H'=>H'=H/\∀xs,bV K H a xs->xs[i]?=some x,fun i H=>∃xs,bV K H a xs/\xs.length<=i⟩
def PV (K:PySem.W.Frag) (a:Addr):It :=
 ⟨fun i H=>∃xs x,uc K H a xs/\xs[i]?=some x,fun i H x H'=>H'=H/\∀xs,uc K H a xs->xs[i]?=some x,fun i H=>∃xs,uc K H a xs/\xs.length<=i⟩
def Fd (lo:Int) (n:Nat):It:=⟨fun i _=>i < n,fun i H x H'=>H'=H/\x=.int (lo+i),fun i _=>n<=i⟩
theorem Im {P:Program} {w:World} {K:PySem.W.Frag} {tg:Expr} (a it:Addr):Turn P w K tg (NA K a) [it] it (fun i h=>h.IsListIter it a i) where
 mem:=by simp
 obj:=fun i h st b hb=>by
  have e:b=it:=by simpa using hb
  subst e;obtain ⟨o,e,c,d⟩:=st;exact ⟨o,e,fun v z=>by rw[d] at z;cases z⟩
 keep:=fun i h h' st k=>st.at fun o e=>k it (by simp) o e
 item:=by
  intro X hP hw hK hc i pins s σ H E I hf st hg;subst hP hw hK;obtain ⟨xs,x,hq,hx⟩:=hg;obtain ⟨its,rv,p,hz⟩:=I.list hq;obtain ⟨u,hu,ru⟩:=rv.get hx;obtain ⟨f0,f1,f2,f3,f4,f5⟩:=hf it (by simp);refine wpAny_pyNext_list_item st p.isList (x:=u) (by simpa using hu) fun h' st' sb=>?_
  have I1:Inv X pins σ H { s with heap:=h' }:=I.turned (t':=s.toks) (fun b o hb e=>(sb.2 b hb).trans e) f0 f1 f3 f4 f5;obtain ⟨o,e,c,d⟩:=id st';exact ⟨u,rfl,Lg (s:={ s with heap:=h' }) e c d (by decide) ⟨x,H,I1,ru,⟨rfl,fun ys hy=>by rw[I.list_inj hy hq];exact hx⟩,st',fun b hb=>(hf b hb).1⟩⟩
 done:=by
  intro X hP hw hK hc i pins s σ H E I hf st hg;subst hP hw hK;obtain ⟨xs,hq,hx⟩:=hg;obtain ⟨its,rv,p,hz⟩:=I.list hq;obtain ⟨f0,f1,f2,f3,f4,f5⟩:=hf it (by simp);have hl:=rv.length;exact wpAny_pyNext_list_end (I.ok.hd hc) st p.isList (by simp;lia) fun h' eb=>⟨rfl,I.turned (t':=s.toks) (fun b o hb e=>eb b o hb e) f0 f1 f3 f4 f5⟩
 self:=fun _ _ _ _ _ st h=>wpAny_pyIter_listiter st h
theorem Fj {P:Program} {w:World} {K:PySem.W.Frag} {tg:Expr} (a it:Addr):Turn P w K tg (PV K a) [it] it (fun i h=>h.IsTupleIter it a i) where
 mem:=by simp
 obj:=fun i h st b hb=>by
  have e:b=it:=by simpa using hb
  subst e;obtain ⟨o,e,c,d⟩:=st;exact ⟨o,e,fun v z=>by rw[d] at z;cases z⟩
 keep:=fun i h h' st k=>st.at fun o e=>k it (by simp) o e
 item:=by
  intro X hP hw hK hc i pins s σ H E I hf st hg;subst hP hw hK;obtain ⟨xs,x,hq,hx⟩:=hg;obtain ⟨its,rv,p,hz⟩:=I.tuple hq;obtain ⟨u,hu,ru⟩:=rv.get hx;obtain ⟨f0,f1,f2,f3,f4,f5⟩:=hf it (by simp);refine wpAny_pyNext_tuple_item st (show s.heap.IsTuple a its.toArray from p) (x:=u) (by simpa using hu) fun h' st' sb=>?_
  have I1:Inv X pins σ H { s with heap:=h' }:=I.turned (t':=s.toks) (fun b o hb e=>(sb.2 b hb).trans e) f0 f1 f3 f4 f5;obtain ⟨o,e,c,d⟩:=id st';exact ⟨u,rfl,Lg (s:={ s with heap:=h' }) e c d (by decide) ⟨x,H,I1,ru,⟨rfl,fun ys hy=>by rw[I.tuple_inj hy hq];exact hx⟩,st',fun b hb=>(hf b hb).1⟩⟩
 done:=by
  intro X hP hw hK hc i pins s σ H E I hf st hg;subst hP hw hK;obtain ⟨xs,hq,hx⟩:=hg;obtain ⟨its,rv,p,hz⟩:=I.tuple hq;obtain ⟨f0,f1,f2,f3,f4,f5⟩:=hf it (by simp);have hl:=rv.length;exact wpAny_pyNext_tuple_end (I.ok.hd hc) st (show s.heap.IsTuple a its.toArray from p) (by simp;lia) fun h' eb=>⟨rfl,I.turned (t':=s.toks) (fun b o hb e=>eb b o hb e) f0 f1 f3 f4 f5⟩
 self:=fun _ _ _ _ _ st h=>wpAny_pyIter_tupleiter st h
theorem Fl {P:Program} {w:World} {K:PySem.W.Frag} {tg:Expr} (it:Addr) (lo:Int) (n:Nat):Turn P w K tg (Fd lo n) [it] it (fun i h=>IsRangeIter h it (lo+(i:Nat)*1) ((n:Int) - (i:Nat)) 1) where
 mem:=by simp
 obj:=fun i h st b hb=>by
  have e:b=it:=by simpa using hb
  subst e
  exact ⟨_,st,fun v z=>by
   have z':Data.fields _=Data.cell v:=z;cases z'⟩
 keep:=fun i h h' st k=>k it (by simp) _ st
 item:=by
  intro X hP hw hK hc i pins s σ H E I hf st hg;subst hP hw hK;obtain ⟨f0,f1,f2,f3,f4,f5⟩:=hf it (by simp);have W:=Walks.range (prog:=X.prog) (w:=X.w) (I.ok.hd hc) it lo 1 n;refine W.item i s _ _ hg st fun v h' tk hv st' kk=>?_
  obtain ⟨t,rfl⟩:=hv;have I1:Inv X pins σ H { s with heap:=h',toks:=tk }:=I.turned (fun b o hb e=>kk b o (by simpa using hb) e) f0 f1 f3 f4 f5;refine ⟨_,rfl,Lg (s:={ s with heap:=h',toks:=tk }) (n:="range_iterator") st' rfl rfl (by decide) ⟨.int (lo+i),H,I1,⟨t,?_⟩,⟨rfl,rfl⟩,st',fun b hb=>(hf b hb).1⟩⟩;rw[Int.mul_one]
 done:=by
  intro X hP hw hK hc i pins s σ H E I hf st hg;subst hP hw hK;obtain ⟨f0,f1,f2,f3,f4,f5⟩:=hf it (by simp);exact wpAny_pyNext_range_end (I.ok.hd hc) st (by have:n<=i:=hg;lia) fun h' eb=>⟨rfl,I.turned (t':=s.toks) (fun b o hb e=>eb b o hb e) f0 f1 f3 f4 f5⟩
 self:=fun _ _ _ _ _ st h=>wpAny_pyIter_rangeiter st h
section
variable {X:Cx} {tg:Expr}
def Ld (K:PySem.W.Frag) (tl:TE):TI:=fun σ H R=>tl σ H fun x H1=>∃a,x=.ref a/\(∃xs,bV K H1 a xs)/\R (NA K a) H1
def QR (K:PySem.W.Frag) (tl:TE):TI:=fun σ H R=>tl σ H fun x H1=>∃a,x=.ref a/\(∃xs,uc K H1 a xs)/\R (PV K a) H1
theorem cQ {l:Expr} {tl:TE} (hl:PE X l tl):PI X tg l (Ld X.K tl):=by
 intro pins s σ H R I h;refine gL (hl pins s σ H _ I h) fun v s1 ⟨x,H1,I1,r1,q1⟩=>?_
 obtain ⟨a,e,⟨xs,hq⟩,q⟩:=q1;subst e;cases r1;obtain ⟨its,rv,p,hz⟩:=I1.list hq;refine wpAny_pyIter_list p.isList ?_;refine ⟨s1.heap.objs.size,[s1.heap.objs.size],_,_,H1,rfl,I1.kept (t':=s1.toks) fun b o e=>Heap.get?_push_of_some _ e,Im a _,⟨_,Heap.get?_push_size _ rfl,rfl,rfl⟩,fun b hb=>?_,q⟩;have e:b=s1.heap.objs.size:=by simpa using hb
 subst e;exact I1.fpOk (ao _) (I1.hok.fresh (ao _))
theorem O3 {l:Expr} {tl:TE} (hl:PE X l tl):PI X tg l (QR X.K tl):=by
 intro pins s σ H R I h;refine gL (hl pins s σ H _ I h) fun v s1 ⟨x,H1,I1,r1,q1⟩=>?_
 obtain ⟨a,e,⟨xs,hq⟩,q⟩:=q1;subst e;cases r1;obtain ⟨its,rv,p,hz⟩:=I1.tuple hq;refine wpAny_pyIter_tuple (show s1.heap.IsTuple a its.toArray from p) ?_;refine ⟨s1.heap.objs.size,[s1.heap.objs.size],_,_,H1,rfl,I1.kept (t':=s1.toks) fun b o e=>Heap.get?_push_of_some _ e,Fj a _,⟨_,Heap.get?_push_size _ rfl,rfl,rfl⟩,fun b hb=>?_,q⟩;have e:b=s1.heap.objs.size:=by simpa using hb
 subst e;exact I1.fpOk (ao _) (I1.hok.fresh (ao _))
theorem Ex {pins:List (Addr×Obj)} {σ:St} {H:Hp} {s:Shared} {R:It->Hp->Prop} {E:Value->Shared->Prop} {lo hi:Int} {t u v:Tok} {tk:Nat} (I:Inv X pins σ H s) (h1:-(2^62)<=lo) (h2:lo < 2^62) (h3:-(2^62)<=hi) (h4:hi < 2^62)
  (q:R (Fd lo (hi - lo).toNat) H):wpAny (model X.prog X.w) X.A (pyIter (.ref s.heap.objs.size)) (PIE X pins σ tg R) E { s with heap:=s.heap.push { cls:=.type "range",data:=.fields #[.int lo t,.int hi u,.int 1 v] },toks:=tk }:=by
 refine wpAny_pyIter_range (IsRange.new ..) (small_one h1 h2 h3 h4) ?_;have I1:Inv X pins σ H { s with heap:=s.heap.push { cls:=.type "range",data:=.fields #[.int lo t,.int hi u,.int 1 v] },toks:=tk }:=I.kept fun b o e=>Heap.get?_push_of_some _ e
 refine ⟨(s.heap.push { cls:=.type "range",data:=.fields #[.int lo t,.int hi u,.int 1 v] }).objs.size,[(s.heap.push { cls:=.type "range",data:=.fields #[.int lo t,.int hi u,.int 1 v] }).objs.size],_,_,H,rfl,
  I1.kept (t':=tk) fun b o e=>Heap.get?_push_of_some _ e,Fl _ lo (hi - lo).toNat,?_,fun b hb=>?_,q⟩
 ·have e1:lo+((0:Nat):Int)*1=lo:=by simp
  have e2:(((hi - lo).toNat:Nat):Int) - ((0:Nat):Int)=Builtin.Range.rangeSize lo hi 1:=by rw[rangeSize_one];split <;> lia
  show IsRangeIter _ _ (lo+((0:Nat):Int)*1) ((((hi - lo).toNat:Nat):Int) - ((0:Nat):Int)) 1
  rw[e1,e2];exact Heap.get?_push_size _ rfl
 ·have e:b=(s.heap.push { cls:=.type "range",data:=.fields #[.int lo t,.int hi u,.int 1 v] }).objs.size:=by simpa using hb
  subst e;exact I1.fpOk (ao _) (I1.hok.fresh (ao _))
def NW (ta:TA):TI:=fun σ H R=>ta σ H fun vs H1=>∃j:Int,vs=[.int j]/\-(2^62)<=j/\j < 2^62/\R (Fd 0 j.toNat) H1
def NV (ta:TA):TI:=fun σ H R=>ta σ H fun vs H1=>∃i j:Int,vs=[.int i,.int j]/\(-(2^62)<=i/\i < 2^62/\-(2^62)<=j/\j < 2^62)/\R (Fd i (j - i).toNat) H1
theorem cx {a:Expr} {ta:TA} {p pos:Pos} (hg:Gl X "range") (hm:X.mg "range"=none) (ha:PA X [a] ta) (hs:starEach [a] X.env=[(false,eval a X.env)]:=by rfl):PI X tg (.Call (.Name "range" p) [a] [] pos) (NW ta):=by
 intro pins s σ H R I h;refine Call_ (lM I hg hm boot_range (PyProof.Rows.callWith_type1 (gL (ha pos pins s σ H _ I h) fun us s1 ⟨vs,H1,I1,r1,q1⟩=>?_) hs rfl));obtain ⟨j,e,q1,q2,q⟩:=q1;subst e;cases r1 with
 | cons r rr =>
  cases rr;obtain ⟨t,rfl⟩:=r;exact call_range_1 (Ex I1 (by lia) (by lia) q1 q2 (by simpa using q))
theorem Jb {a b:Expr} {ta:TA} {p pos:Pos} (hg:Gl X "range") (hm:X.mg "range"=none) (ha:PA X [a,b] ta) (hs:starEach [a,b] X.env=[(false,eval a X.env),(false,eval b X.env)]:=by rfl) (hs2:starEach [b] X.env=[(false,eval b X.env)]:=by rfl) :
  PI X tg (.Call (.Name "range" p) [a,b] [] pos) (NV ta):=by
 intro pins s σ H R I h;refine Call_ (lM I hg hm boot_range (PyProof.Rows.callWith_type1 (gL (ha pos pins s σ H _ I h) fun us s1 ⟨vs,H1,I1,r1,q1⟩=>?_) (by rw[hs,hs2]) (by rw[hs2];rfl)));obtain ⟨i,j,e,⟨q1,q2,q3,q4⟩,q⟩:=q1;subst e;cases r1 with
 | cons r rr =>
  cases rr with
  | cons r' rr =>
   cases rr;obtain ⟨t,rfl⟩:=r;obtain ⟨t',rfl⟩:=r';exact call_range_2 (Ex I1 q1 q2 q3 q4 q)
def Ql (wi:TI) (g:TG) (tb:TS):TS:=fun D σ H=>wi σ H fun J H1=>∃W:Nat->Nat->St->Hp->Prop,(∃m,W 0 m σ H1)/\∀i m σ H,W i m σ H →
 (J.stop i H/\D.nx σ H)\/(J.go i H/\∃N:St->Hp->Prop,(∀σ' H',N σ' H'->∃m',m' < m/\W (i+1) m' σ' H')/\∀x H',J.yld i H x H'->g x σ H' fun σ2 H2=>tb { D with nx:=N,ct:=N,bk:=D.nx } σ2 H2)
def AN (fp:List Addr) (h:Heap):List (Addr×Obj):=fp.filterMap fun b=>(h.get? b).map fun o=>(b,o)
theorem tu {fp:List Addr} {h:Heap} {b:Addr} {o:Obj} (hb:b∈fp) (e:h.get? b=some o):(b,o)∈AN fp h:=List.mem_filterMap.mpr ⟨b,hb,by rw[e];rfl⟩
theorem Jg {fp:List Addr} {h:Heap} {p:Addr×Obj} (hp:p∈AN fp h):p.1∈fp/\h.get? p.1=some p.2:=by
 obtain ⟨b,hb,e⟩:=List.mem_filterMap.mp hp;cases q:h.get? b with
 | none=>rw[q] at e;cases e
 | some o =>
  rw[q] at e;have e':(b,o)=p:=cm e;subst e';exact ⟨hb,q⟩
theorem Inv.pinned {pins:List (Addr×Obj)} {σ:St} {H:Hp} {s:Shared} {fp:List Addr} (I:Inv X pins σ H s) (hf:∀b∈fp,lQ X pins H b) (ho:∀b∈fp,∃o,s.heap.get? b=some o/\∀v,o.data≠.cell v):Inv X (pins++AN fp s.heap) σ H s :=
 I.pins_of fun p hp=>(az.mp hp).elim (fun z=>I.pin p (bC _ z)) fun z=>by
  obtain ⟨hb,e⟩:=Jg z;obtain ⟨f0,f1,f2,_⟩:=hf p.1 hb;obtain ⟨o,e',d⟩:=ho p.1 hb;rw[e] at e';cases e';exact ⟨e,f0,f1,f2,d⟩
theorem Inv.unpinned {pins pl:List (Addr×Obj)} {σ:St} {H:Hp} {s:Shared} (I:Inv X (pins++pl) σ H s):Inv X pins σ H s:=I.pins_of fun p hp=>I.pin p (bC _ (dY _ hp))
theorem d7 {iter : Expr} {body : List Stmt} {wi : TI} {g : TG} {tb : TS} {pos : Pos} (hp : PassesOwn (model X.prog X.w) X.A X.env X.xe) (hc : X.calm = true) (hi : PI X tg iter wi) (hg : PG X tg g) (hb : Gy X body tb)
    (hs : ∀ x, foldedSetIterable iter X.env x = pure x := by intro _; rfl) : PS X (.For tg iter body [] pos) (Ql wi g tb) := by
  intro pins s σ H D I h;refine wpAny_For (gL (hi pins s σ H _ I h) fun v s1 h1 => gL h1 fun itv s2 h2 => ?_) hs;obtain ⟨it, fp, tn, J, H2, e, I2, T, st2, f2, W, ⟨m0, w0⟩, turn⟩ := h2;subst e;have stat : ∀ {H' : Hp}, (∀ b ∈ fp, H' b = none) → ∀ b ∈ fp, lQ X pins H' b := fun hn b hb => ⟨hn b hb, (f2 b hb).2⟩
  refine codeAny_forLoop_any (fun n s' => ∃ i σ' H', Inv X pins σ' H' s' /\ tn i s'.heap /\ (∀ b ∈ fp, H' b = none) /\ W i n σ' H') ?_ m0 ⟨0, σ, H2, I2, st2, fun b hb => (f2 b hb).1, w0⟩;rintro n s3 ⟨i, σ3, H3, I3, st3, fr3, w3⟩;rcases turn i n σ3 H3 w3 with ⟨stop, qn⟩ | ⟨go, N, hN, step⟩
  · refine wpAny_passesOwn hp (gL (T.done X rfl rfl rfl hc i pins s3 σ3 H3 X.xe I3 (stat fr3) st3 stop) fun r s4 ⟨hr, I4⟩ => ?_);subst hr;exact wpAny_execs_nil ⟨σ3, H3, I4, qn⟩
  · refine wpAny_passesOwn hp (gL (T.item X rfl rfl rfl hc i pins s3 σ3 H3 X.xe I3 (stat fr3) st3 go) fun r s4 ⟨u, hr, h4⟩ => ?_);subst hr;refine wpAny_passesOwn hp (gL h4 fun _ s5 ⟨x, H5, I5, r5, y5, st5, fr5⟩ => ?_);have I5' := I5.pinned (stat fr5) (T.obj _ _ st5);refine wpAny_passesOwn hp (gL (hg _ s5 σ3 H5 x u _ I5' r5 (step x H5 y5)) fun _ s6 ⟨σ6, H6, I6, q6⟩ => ?_);refine wpAny_passesOwn hp (gL (hb _ s6 σ6 H6 _ I6 q6) fun f s7 q7 => ?_)
    have again : ∀ {σ7 : St} {H7 : Hp}, Inv X (pins ++ AN fp s5.heap) σ7 H7 s7 → N σ7 H7 → ∃ m, m < n /\ ∃ i σ' H', Inv X pins σ' H' s7 /\ tn i s7.heap /\ (∀ b ∈ fp, H' b = none) /\ W i m σ' H' := fun {σ7 H7} I7 n7 => by
      obtain ⟨m', hm, w7⟩ := hN σ7 H7 n7;refine ⟨m', hm, i + 1, σ7, H7, I7.unpinned, T.keep _ _ _ st5 fun b hb o e => (I7.pin (b, o) (bC _ (bC _ (tu hb e)))).1, fun b hb => ?_, w7⟩;obtain ⟨o, e, d⟩ := T.obj _ _ st5 b hb;exact (I7.pin (b, o) (bC _ (bC _ (tu hb e)))).2.1
    cases f with
    | next => obtain ⟨σ7, H7, I7, n7⟩ := q7; exact again I7 n7
    | cont => obtain ⟨σ7, H7, I7, n7⟩ := q7; exact again I7 n7
    | brk => obtain ⟨σ7, H7, I7, q7⟩ := q7; exact ⟨σ7, H7, I7.unpinned, q7⟩
    | ret v => obtain ⟨x7, σ7, H7, I7, r7, q7⟩ := q7; exact ⟨x7, σ7, H7, I7.unpinned, r7, q7⟩
end
theorem jv {K:PySem.W.Frag} {a:Addr} {xs:List V} {g:TG} {tb:TS} {D:Ends} {σ:St} {H:Hp} (Pv:Nat->St->Hp->Prop) (h0:Pv 0 σ H) (hl:∀i σ H,i<=xs.length->Pv i σ H->bV K H a xs)
  (hs:∀i x σ H,xs[i]?=some x->Pv i σ H->g x σ H fun σ2 H2=>tb { D with nx:=Pv (i+1),ct:=Pv (i+1),bk:=D.nx } σ2 H2) (hd:∀σ H,Pv xs.length σ H->D.nx σ H) :
  ∃W:Nat->Nat->St->Hp->Prop,(∃m,W 0 m σ H)/\∀i m σ H,W i m σ H →
   ((NA K a).stop i H/\D.nx σ H)\/((NA K a).go i H/\∃N:St->Hp->Prop,(∀σ' H',N σ' H'->∃m',m' < m/\W (i+1) m' σ' H')/\∀x H',(NA K a).yld i H x H'->g x σ H' fun σ2 H2=>tb { D with nx:=N,ct:=N,bk:=D.nx } σ2 H2):=by
 refine ⟨fun i m σ H=>m=xs.length - i/\i<=xs.length/\Pv i σ H,⟨xs.length,by simp,bD _,h0⟩,?_⟩;rintro i m σ H ⟨rfl,hi,p⟩;have q:=hl i σ H hi p;by_cases hlt:i < xs.length
 ·refine .inr ⟨⟨xs,xs[i],q,by simp [hlt]⟩,Pv (i+1),fun σ' H' p'=>⟨xs.length - (i+1),by lia,rfl,hlt,p'⟩,fun x H' y=>?_⟩;obtain ⟨e,y⟩:=y;subst e;exact hs i x σ _ (y xs q) p
 ·have e:i=xs.length:=by lia
  subst e;exact .inl ⟨⟨xs,q,ao _⟩,hd σ H p⟩
theorem Ng {K:PySem.W.Frag} {a:Addr} {xs:List V} {g:TG} {tb:TS} {D:Ends} {σ:St} {H:Hp} (Pv:Nat->St->Hp->Prop) (h0:Pv 0 σ H) (hl:∀i σ H,i<=xs.length->Pv i σ H->uc K H a xs)
  (hs:∀i x σ H,xs[i]?=some x->Pv i σ H->g x σ H fun σ2 H2=>tb { D with nx:=Pv (i+1),ct:=Pv (i+1),bk:=D.nx } σ2 H2) (hd:∀σ H,Pv xs.length σ H->D.nx σ H) :
  ∃W:Nat->Nat->St->Hp->Prop,(∃m,W 0 m σ H)/\∀i m σ H,W i m σ H →
   ((PV K a).stop i H/\D.nx σ H)\/((PV K a).go i H/\∃N:St->Hp->Prop,(∀σ' H',N σ' H'->∃m',m' < m/\W (i+1) m' σ' H')/\∀x H',(PV K a).yld i H x H'->g x σ H' fun σ2 H2=>tb { D with nx:=N,ct:=N,bk:=D.nx } σ2 H2):=by
 refine ⟨fun i m σ H=>m=xs.length - i/\i<=xs.length/\Pv i σ H,⟨xs.length,by simp,bD _,h0⟩,?_⟩;rintro i m σ H ⟨rfl,hi,p⟩;have q:=hl i σ H hi p;by_cases hlt:i < xs.length
 ·refine .inr ⟨⟨xs,xs[i],q,by simp [hlt]⟩,Pv (i+1),fun σ' H' p'=>⟨xs.length - (i+1),by lia,rfl,hlt,p'⟩,fun x H' y=>?_⟩;obtain ⟨e,y⟩:=y;subst e;exact hs i x σ _ (y xs q) p
 ·have e:i=xs.length:=by lia
  subst e;exact .inl ⟨⟨xs,q,ao _⟩,hd σ H p⟩
theorem Ct {lo:Int} {n:Nat} {g:TG} {tb:TS} {D:Ends} {σ:St} {H:Hp} (Pv:Nat->St->Hp->Prop) (h0:Pv 0 σ H)
  (hs:∀i σ H,i < n->Pv i σ H->g (.int (lo+i)) σ H fun σ2 H2=>tb { D with nx:=Pv (i+1),ct:=Pv (i+1),bk:=D.nx } σ2 H2) (hd:∀σ H,Pv n σ H->D.nx σ H) :
  ∃W:Nat->Nat->St->Hp->Prop,(∃m,W 0 m σ H)/\∀i m σ H,W i m σ H →
   ((Fd lo n).stop i H/\D.nx σ H)\/((Fd lo n).go i H/\∃N:St->Hp->Prop,(∀σ' H',N σ' H'->∃m',m' < m/\W (i+1) m' σ' H')/\∀x H',(Fd lo n).yld i H x H'->g x σ H' fun σ2 H2=>tb { D with nx:=N,ct:=N,bk:=D.nx } σ2 H2):=by
 refine ⟨fun i m σ H=>m=n - i/\i<=n/\Pv i σ H,⟨n,by simp,bD _,h0⟩,?_⟩;rintro i m σ H ⟨rfl,hi,p⟩;by_cases hlt:i < n
 ·refine .inr ⟨hlt,Pv (i+1),fun σ' H' p'=>⟨n - (i+1),by lia,rfl,hlt,p'⟩,fun x H' y=>?_⟩;obtain ⟨e,y⟩:=y;subst e y;exact hs i σ _ hlt p
 ·have e:i=n:=by lia
  subst e;exact .inl ⟨ao _,hd σ H p⟩
abbrev R2:=V->V->Hp->VK->Prop
def Al (X:Cx) (f:Value->Value->Sem Value) (r:R2):Prop :=
 ∀(pins:List (Addr×Obj)) (s:Shared) (σ:St) (H:Hp) (x y:V) (v u:Value) (Q:VK),Inv X pins σ H s->RelV x v->RelV y u->r x y H Q →
  wpAny (model X.prog X.w) X.A (f v u) (EP X pins σ Q) X.xe s
def RP (X:Cx) (f:Value->Sem Value) (r:V->Hp->VK->Prop):Prop :=
 ∀(pins:List (Addr×Obj)) (s:Shared) (σ:St) (H:Hp) (x:V) (v:Value) (Q:VK),Inv X pins σ H s->RelV x v->r x H Q →
  wpAny (model X.prog X.w) X.A (f v) (EP X pins σ Q) X.xe s
def uC (X:Cx) (f:Value) (r:List V->Hp->VK->Prop):Prop :=
 ∀(pins:List (Addr×Obj)) (s:Shared) (σ:St) (H:Hp) (xs:List V) (us:List Value) (Q:VK),Inv X pins σ H s->cP xs us->r xs H Q →
  wpAny (model X.prog X.w) X.A (call f us) (EP X pins σ Q) X.xe s
def Qh (r:R2) (ta tb:TE):TE:=fun σ H Q=>ta σ H fun x H1=>tb σ H1 fun y H2=>r x y H2 Q
def Rf (r:V->Hp->VK->Prop) (ta:TE):TE:=fun σ H Q=>ta σ H fun x H1=>r x H1 Q
def rI (C:Int->Int->Prop) (g:Int->Int->V):R2:=fun x y H Q=>∃i j,x=.int i/\y=.int j/\C i j/\Q (g i j) H
def MQ (g:Int->Int->V):R2:=fun x y H Q=>∃i j,x=.int i/\y=.int j/\Q (g i j) H
def rU (g:Int->V):V->Hp->VK->Prop:=fun x H Q=>∃i,x=.int i/\Q (g i) H
section
variable {X:Cx} {a b c:Expr} {ta tb tc:TE} {pos:Pos}
theorem Pw (ha:PE X a ta) (hb:PE X b tb) {pins:List (Addr×Obj)} {s:Shared} {σ:St} {H:Hp} {R:V->V->Hp->Prop} (I:Inv X pins σ H s)
  (h:ta σ H fun x H1=>tb σ H1 fun y H2=>R x y H2) {Q:Value->Shared->Prop} {f:Value->Value->Sem Value}
  (hf:∀v u s2 x y H2,Inv X pins σ H2 s2->RelV x v->RelV y u->R x y H2->wpAny (model X.prog X.w) X.A (f v u) Q X.xe s2) :
  wpAny (model X.prog X.w) X.A (eval a X.env) (fun v s₁=>wpAny (model X.prog X.w) X.A (eval b X.env) (fun u s₂=>wpAny (model X.prog X.w) X.A (f v u) Q X.xe s₂) X.xe s₁) X.xe s:=by
 refine gL (ha pins s σ H _ I h) fun v s1 ⟨x,H1,I1,r1,q1⟩=>?_
 refine gL (hb pins s1 σ H1 _ I1 q1) fun u s2 ⟨y,H2,I2,r2,q2⟩=>?_
 exact hf v u s2 x y H2 I2 r1 r2 q2
theorem bN {op:Operator} {r:R2} (ho:Al X (binaryOp op) r) (ha:PE X a ta) (hb:PE X b tb):PE X (.BinOp a op b pos) (Qh r ta tb):=by
 intro pins s σ H Q I h;exact wpAny_BinOp (Pw ha hb I h fun v u s2 x y H2 I2 rx ry q=>ho pins s2 σ H2 x y v u Q I2 rx ry q)
theorem zm {op:UnaryOp} {r:V->Hp->VK->Prop} (ho:RP X (unaryOp op) r) (ha:PE X a ta):PE X (.UnaryOp op a pos) (Rf r ta):=by
 intro pins s σ H Q I h;exact UnaryOp_ (gL (ha pins s σ H _ I h) fun v s1 ⟨x,H1,I1,r1,q1⟩=>ho pins s1 σ H1 x v Q I1 r1 q1)
theorem Rh {f:Value->Value->Sem Value} {C:Int->Int->Prop} {g:Int->Int->Int}
  (rule:∀(i j:Int) (t u:Tok) (s:Shared) (Q:Value->Shared->Prop) (E:Value->Shared->Prop),C i j->Q (.int (g i j) s.toks) { s with toks:=s.toks+1 }->wpAny (model X.prog X.w) X.A (f (.int i t) (.int j u)) Q E s) :
  Al X f (rI C fun i j=>.int (g i j)):=by
 intro pins s σ H x y v u Q I rx ry h;obtain ⟨i,j,rfl,rfl,hc,q⟩:=h;obtain ⟨t,rfl⟩:=rx;obtain ⟨t',rfl⟩:=ry;exact rule i j t t' s _ _ hc ⟨.int (g i j),H,I.tok _,⟨_,rfl⟩,q⟩
theorem QJ {f:Value->Value->Sem Value} {g:Int->Int->Int}
  (rule:∀(i j:Int) (t u:Tok) (s:Shared) (Q:Value->Shared->Prop) (E:Value->Shared->Prop),Q (.int (g i j) s.toks) { s with toks:=s.toks+1 }->wpAny (model X.prog X.w) X.A (f (.int i t) (.int j u)) Q E s) :
  Al X f (MQ fun i j=>.int (g i j)):=by
 intro pins s σ H x y v u Q I rx ry h;obtain ⟨i,j,rfl,rfl,q⟩:=h;obtain ⟨t,rfl⟩:=rx;obtain ⟨t',rfl⟩:=ry;exact rule i j t t' s _ _ ⟨.int (g i j),H,I.tok _,⟨_,rfl⟩,q⟩
theorem M6 {f:Value->Value->Sem Value} {g:Int->Int->Bool}
  (rule:∀(i j:Int) (t u:Tok) (s:Shared) (Q:Value->Shared->Prop) (E:Value->Shared->Prop),Q (.bool (g i j)) s->wpAny (model X.prog X.w) X.A (f (.int i t) (.int j u)) Q E s) :
  Al X f (MQ fun i j=>.bl (g i j)):=by
 intro pins s σ H x y v u Q I rx ry h;obtain ⟨i,j,rfl,rfl,q⟩:=h;obtain ⟨t,rfl⟩:=rx;obtain ⟨t',rfl⟩:=ry;exact rule i j t t' s _ _ ⟨.bl (g i j),H,I,rfl,q⟩
def PH (i j:Int):Prop:=(-(2^64) < i/\i < 2^64)\/(-(2^64) < j/\j < 2^64)
theorem PH.ok {i j:Int} (h:PH i j):IntMulOk i j:=by
 rcases h with ⟨h1,h2⟩ | ⟨h1,h2⟩
 ·exact .of_left (intBits_le_64 h1 h2)
 ·exact .of_right (intBits_le_64 h1 h2)
theorem fv:Al X (binaryOp .Add) (MQ fun i j=>.int (i+j)):=QJ fun _ _ _ _ _ _ _ q=>add_int q
theorem lK:Al X (binaryOp .Sub) (MQ fun i j=>.int (i - j)):=QJ fun _ _ _ _ _ _ _ q=>sub_int q
theorem rD:Al X (binaryOp .Mod) (rI (fun _ j=>0 < j) fun i j=>.int (i % j)):=Rh fun i j _ _ _ _ _ hc q=>by
 have h1:(0:Int) < j:=hc;exact mod_int' (by lia) (by rw[Int.fmod_eq_emod_of_nonneg i (by lia)];exact q)
theorem MZ:Al X (binaryOp .Mod) (rI (fun _ j=>j≠0) fun i j=>.int (i.fmod j)):=Rh fun _ _ _ _ _ _ _ hc q=>mod_int' hc q
theorem unI {f:Value->Sem Value} {g:Int->Int}
  (rule:∀(i:Int) (t:Tok) (s:Shared) (Q:Value->Shared->Prop) (E:Value->Shared->Prop),Q (.int (g i) s.toks) { s with toks:=s.toks+1 }->wpAny (model X.prog X.w) X.A (f (.int i t)) Q E s) :
  RP X f (rU fun i=>.int (g i)):=by
 intro pins s σ H x v Q I rx h;obtain ⟨i,rfl,q⟩:=h;obtain ⟨t,rfl⟩:=rx;exact rule i t s _ _ ⟨.int (g i),H,I.tok _,⟨_,rfl⟩,q⟩
theorem uJ:RP X (unaryOp .USub) (rU fun i=>.int (-i)):=unI fun _ _ _ _ _ q=>neg_int q
end
def Qr:V->V->Bool
 | .non,.non=>true | .non,.int _=>true | .int _,.non=>true | .non,.bl _=>true | .bl _,.non=>true | .non,.str _=>true | .str _,.non=>true
 | .int _,.int _=>true | .bl _,.bl _=>true | .str _,.str _=>true | .byt _,.byt _=>true
 | .int _,.str _=>true | .str _,.int _=>true | .bl _,.str _=>true | .str _,.bl _=>true
 | _,_=>false
def RH:R2:=fun x y H Q=>Qr x y=true/\Q (.bl (decide (x=y))) H
def rNe:R2:=fun x y H Q=>Qr x y=true/\Q (.bl (!decide (x=y))) H
theorem HQ {i j:Int}:decide (V.int i=V.int j)=(i == j):=by
 rw[o5];simp
theorem LA {i j:Bool}:decide (V.bl i=V.bl j)=(i == j):=by
 rw[o5];simp
theorem HP {i j:Str}:decide (V.str i=V.str j)=(i == j):=by
 rw[o5];simp
theorem HR {i j:Array UInt8}:decide (V.byt i=V.byt j)=(i.toList == j.toList):=by
 rw[o5];cases i;cases j;simp
section
variable {X:Cx} {a b c:Expr} {ta tb tc:TE} {pos:Pos}
theorem dw {pins:List (Addr×Obj)} {σ:St} {H:Hp} {s:Shared} {Q:VK} {k k':Bool} (I:Inv X pins σ H s) (q:Q (.bl k) H) (e:k=k'):EP X pins σ Q (.bool k') s:=by
 subst e;exact ⟨.bl k,H,I,rfl,q⟩
theorem eP:Al X (compareOp .Eq) RH:=by
 intro pins s σ H x y v u Q I rx ry h;obtain ⟨hs,q⟩:=h;cases x with
 | non =>
  cases rx;cases y with
  | non=>cases ry;exact PySem.EqNone.eq_none_none (dw I q (by simp))
  | bl j=>cases ry;exact PySem.EqNone.eq_none_bool (dw I q (by simp))
  | int j=>obtain ⟨t',rfl⟩:=ry;exact PySem.EqNone.eq_none_int (dw I q (by simp))
  | str j=>obtain ⟨t',rfl⟩:=ry;exact PySem.EqNone.eq_none_str (dw I q (by simp))
  | _=>exact absurd (show false=true from hs) bA
 | bl i =>
  cases rx;cases y with
  | non=>cases ry;exact PySem.EqNone.eq_bool_none (dw I q (by simp))
  | bl j=>cases ry;exact eq_bool (dw I q LA)
  | str j=>obtain ⟨t',rfl⟩:=ry;exact PySem.EqMixed.eq_bool_str (dw I q (by simp))
  | _=>exact absurd (show false=true from hs) bA
 | int i =>
  obtain ⟨t,rfl⟩:=rx;cases y with
  | non=>cases ry;exact PySem.EqNone.eq_int_none (dw I q (by simp))
  | int j=>obtain ⟨t',rfl⟩:=ry;exact eq_int (dw I q HQ)
  | str j=>obtain ⟨t',rfl⟩:=ry;exact PySem.EqMixed.eq_int_str (dw I q (by simp))
  | _=>exact absurd (show false=true from hs) bA
 | str i =>
  obtain ⟨t,rfl⟩:=rx;cases y with
  | non=>cases ry;exact PySem.EqNone.eq_str_none (dw I q (by simp))
  | bl j=>cases ry;exact PySem.EqMixed.eq_str_bool (dw I q (by simp))
  | int j=>obtain ⟨t',rfl⟩:=ry;exact PySem.EqMixed.eq_str_int (dw I q (by simp))
  | str j=>obtain ⟨t',rfl⟩:=ry;exact eq_str (dw I q HP)
  | _=>exact absurd (show false=true from hs) bA
 | byt i =>
  obtain ⟨t,rfl⟩:=rx;cases y with
  | byt j=>obtain ⟨t',rfl⟩:=ry;exact PySem.W.eq_bytes (dw I q HR)
  | _=>exact absurd (show false=true from hs) bA
 | _=>cases y <;> exact absurd (show false=true from hs) bA
theorem zv:Al X (compareOp .NotEq) rNe:=by
 intro pins s σ H x y v u Q I rx ry h;obtain ⟨hs,q⟩:=h;cases x with
 | non =>
  cases rx;cases y with
  | non=>cases ry;exact PySem.EqNone.ne_none_none (dw I q (by simp))
  | bl j=>cases ry;exact PySem.EqNone.ne_none_bool (dw I q (by simp))
  | int j=>obtain ⟨t',rfl⟩:=ry;exact PySem.EqNone.ne_none_int (dw I q (by simp))
  | str j=>obtain ⟨t',rfl⟩:=ry;exact PySem.EqNone.ne_none_str (dw I q (by simp))
  | _=>exact absurd (show false=true from hs) bA
 | bl i =>
  cases rx;cases y with
  | non=>cases ry;exact PySem.EqNone.ne_bool_none (dw I q (by simp))
  | bl j=>cases ry;exact ne_bool (dw I q (congrArg not LA))
  | str j=>obtain ⟨t',rfl⟩:=ry;exact PySem.EqMixed.ne_bool_str (dw I q (by simp))
  | _=>exact absurd (show false=true from hs) bA
 | int i =>
  obtain ⟨t,rfl⟩:=rx;cases y with
  | non=>cases ry;exact PySem.EqNone.ne_int_none (dw I q (by simp))
  | int j=>obtain ⟨t',rfl⟩:=ry;exact ne_int (dw I q (congrArg not HQ))
  | str j=>obtain ⟨t',rfl⟩:=ry;exact PySem.EqMixed.ne_int_str (dw I q (by simp))
  | _=>exact absurd (show false=true from hs) bA
 | str i =>
  obtain ⟨t,rfl⟩:=rx;cases y with
  | non=>cases ry;exact PySem.EqNone.ne_str_none (dw I q (by simp))
  | bl j=>cases ry;exact PySem.EqMixed.ne_str_bool (dw I q (by simp))
  | int j=>obtain ⟨t',rfl⟩:=ry;exact PySem.EqMixed.ne_str_int (dw I q (by simp))
  | str j=>obtain ⟨t',rfl⟩:=ry;exact ne_str (dw I q (congrArg not HP))
  | _=>exact absurd (show false=true from hs) bA
 | byt i =>
  obtain ⟨t,rfl⟩:=rx;cases y with
  | byt j=>obtain ⟨t',rfl⟩:=ry;exact PySem.W.ne_bytes (dw I q (congrArg not HR))
  | _=>exact absurd (show false=true from hs) bA
 | _=>cases y <;> exact absurd (show false=true from hs) bA
theorem wK:Al X (compareOp .Lt) (MQ fun i j=>.bl (decide (i < j))):=M6 fun _ _ _ _ _ _ _ q=>lt_int q
theorem QI:Al X (compareOp .LtE) (MQ fun i j=>.bl (decide (i<=j))):=M6 fun _ _ _ _ _ _ _ q=>le_int q
theorem wL:Al X (compareOp .Gt) (MQ fun i j=>.bl (decide (j < i))):=M6 fun _ _ _ _ _ _ _ q=>gt_int q
theorem Ck:Al X (compareOp .GtE) (MQ fun i j=>.bl (decide (j<=i))):=M6 fun _ _ _ _ _ _ _ q=>ge_int q
theorem G5:Al X (compareOp .IsNot) (fun x y H Q=>y=.non/\Q (.bl (!decide (x=.non))) H):=by
 intro pins s σ H x y v u Q I rx ry h;obtain ⟨rfl,q⟩:=h;cases ry;refine isnot_none_gen (dw I q ?_)
 cases x <;> first
  | (cases rx;rfl)
  | (obtain ⟨t,rfl⟩:=rx;rfl)
theorem bM (b:Expr) {op:CmpOp} (h:op≠.In:=by decide) (h2:op≠.NotIn:=by decide):behindInMarks op b=false:=by
 have e1:(op == CmpOp.In)=false:=by cases op <;> first | rfl | exact absurd rfl h
 have e2:(op == CmpOp.NotIn)=false:=by cases op <;> first | rfl | exact absurd rfl h2
 cases b <;> simp [behindInMarks,e1,e2]
theorem iY {op:CmpOp} {r:R2} (ho:Al X (compareOp op) r) (ha:PE X a ta) (hb:PE X b tb) (hm:behindInMarks op b=false):PE X (.Compare a [op] [b] pos) (Qh r ta tb):=by
 intro pins s σ H Q I h;exact wpAny_Compare1 (Pw ha hb I h fun v u s2 x y H2 I2 rx ry q=>ho pins s2 σ H2 x y v u Q I2 rx ry q) hm
def NC (t:TE):TT:=fun σ H Q=>t σ H fun x H'=>∃k,x=.bl k/\Q k H'
theorem bH {op:CmpOp} {r:R2} (ho:Al X (compareOp op) r) (ha:PE X a ta) (hb:PE X b tb) (hm:behindInMarks op b=false):PT X (.Compare a [op] [b] pos) (NC (Qh r ta tb)):=by
 intro pins s σ H Q I h
 refine wpAny_isTrue_Compare1 (gL (ha pins s σ H _ I h) fun v s1 ⟨x,H1,I1,r1,q1⟩=>gL (hb pins s1 σ H1 _ I1 q1) fun u s2 ⟨y,H2,I2,r2,q2⟩ =>
  gL (ho pins s2 σ H2 x y v u _ I2 r1 r2 q2) fun c s3 ⟨z,H3,I3,r3,k,e,q3⟩=>?_) hm
 subst e;cases r3;exact wpAny_truthy_bool ⟨H3,I3,q3⟩
theorem Bh:(sizeLine:Nat) < 2^63:=by rw[sizeLine_eq];decide
theorem vals1 {x:V} {us:List Value} (r:cP [x] us):∃u,us=[u]/\RelV x u:=by
 cases r with
 | cons r1 r2=>cases r2;exact ⟨_,rfl,r1⟩
theorem vals2 {x y:V} {us:List Value} (r:cP [x,y] us):∃u w',us=[u,w']/\RelV x u/\RelV y w':=by
 cases r with
 | cons r1 r2 =>
  cases r2 with
  | cons r3 r4=>cases r4;exact ⟨_,_,rfl,r1,r3⟩
theorem yj:uC X (.builtin "abs") (fun xs H Q=>∃i,xs=[.int i]/\Q (.int (if i < 0 then -i else i)) H):=by
 intro pins s σ H xs us Q I r h;obtain ⟨i,rfl,q⟩:=h;obtain ⟨u,rfl,t,rfl⟩:=vals1 r;exact call_abs_int fun u tk=>⟨.int (if i < 0 then -i else i),H,I.tok _,⟨_,rfl⟩,q⟩
theorem v5 (hc:X.calm=true):uC X (.builtin "min") (fun xs H Q=>∃i j,xs=[.int i,.int j]/\Q (.int (if j < i then j else i)) H):=by
 intro pins s σ H xs us Q I r h;obtain ⟨i,j,rfl,q⟩:=h;obtain ⟨u,w',rfl,⟨t,rfl⟩,⟨t',rfl⟩⟩:=vals2 r;refine min_two_ints (I.ok.hd hc) fun h' tk k=>⟨_,H,I.kept k,?_,q⟩
 by_cases hj:j < i
 ·rw[if_pos hj,if_pos hj];exact ⟨_,rfl⟩
 ·rw[if_neg hj,if_neg hj];exact ⟨_,rfl⟩
end
structure Gz (h:Heap) (x dx C:Addr) (mA:Str->Option Value):Prop where
 obj:h.get? x=some (PySem.W.instObj C dx)
 ns:h.Ns1 dx mA
 ne:dx≠x
theorem Jo {h:Heap} {dx:Addr} {mA:Str->Option Value} (n:h.Ns1 dx mA):∃od,h.get? dx=some od/\∀name,PySem.W.lookIn name od=some (mA name):=by
 obtain ⟨o,es,ep,ho,hd,hk,_,hm⟩:=n;refine ⟨o,ho,fun name=>?_⟩;have e:=hm name;unfold nsFind findBy at e;rw[<- Array.find?_toList] at e;unfold PySem.W.lookIn;rw[hd]
 dsimp only
 split
 ·rename_i y q
  rw[q] at e;exact congrArg some e
 ·rename_i q
  rw[q] at e
  have a:es.toList.any (·.refKey)=false:=by
   rw[List.any_eq_false];intro y hy;obtain ⟨z,t,hkey⟩:=hk y (Array.mem_toList_iff.mp hy);simp [DictEntry.refKey,hkey]
  have a':¬es.toList.any (·.refKey)=true:=by rw[a];exact bA
  rw[if_neg a'];exact congrArg some e
theorem Gz.look {h:Heap} {x dx C:Addr} {mA:Str->Option Value} (I:Gz h x dx C mA):∃od,PySem.W.InstAt h x (PySem.W.instObj C dx) C (some od)/\∀name,PySem.W.lookIn name od=some (mA name) :=
 let ⟨od,ho,hl⟩:=Jo I.ns
 ⟨od,⟨I.obj,rfl,rfl,ho⟩,hl⟩
section
variable {prog:Program} {w:World} {A:Around} {E:Value->Shared->Prop} {s:Shared} {K:PySem.W.Frag} {x dx C f:Addr} {mA:Str->Option Value} {name:Str} {v:Value}
theorem get_map {expr:Bool} {Q:Value->Shared->Prop} (X:K.In s.heap) (I:Gz s.heap x dx C mA) (hg:PySem.W.plainGet K C name=true) (hh:PySem.W.hasDictIn K C=true)
  (ha:PySem.W.findIn K (.ref C) name=some none) (hv:mA name=some v) (hv':PySem.W.handedIn v=true) (h:Q v { s with toks:=s.toks+1 }) :
  wpAny (model prog w) A (getAttr (.ref x) name expr) Q E s:=by
 obtain ⟨od,J,hl⟩:=I.look;exact PySem.W.get_value X J (D6 hg).1 (PySem.W.findObj_own hh ha rfl (by rw[hl,hv])) hv' h
theorem Lh {pl:Sem Bool} {Q:Value×List Value->Shared->Prop} (X:K.In s.heap) (I:Gz s.heap x dx C mA) (hg:PySem.W.plainGet K C name=true)
  (hf:PySem.W.findIn K (.ref C) name=some (some (.ref f))) (ht:PySem.W.isFn K (.ref f)=true) (hv:mA name=none) (h:Q (.ref f,[.ref x]) s) :
  wpAny (model prog w) A (getMethod (.ref x) name pl) Q E s:=by
 obtain ⟨od,J,hl⟩:=I.look;exact PySem.W.method_fn X J (D6 hg).1 (D6 hg).2 hf (beq_iff_eq.mp ht) (by show (PySem.W.lookIn name od).map (·.isSome)=some false;rw[hl,hv];rfl) h
theorem Ml {ns:List Str} {Q:Unit->Shared->Prop} (X:K.In s.heap) (I:Gz s.heap x dx C mA)
  (hs:PySem.W.findIn K (.ref C) "__setattr__"=some (some (.builtin "object.__setattr__"))) (hp:PySem.W.plainOver K C=true) (ht:PySem.W.takerIn K C name=some none) (hh:PySem.W.hasDictIn K C=true)
  (hw:PySem.Within mA ns) (hsz:ns.length<=sizeLine)
  (h:∀h',Gz h' x dx C (fun y=>if y=name then some v else mA y)->Heap.SameBut dx s.heap h'->Q () { s with heap:=h',toks:=s.toks+2 }) :
  wpAny (model prog w) A (setAttr (.ref x) name v) Q E s:=by
 obtain ⟨od,J,hl⟩:=I.look;refine PySem.W.set_plain X J hs (PySem.W.osa_open (s:={ s with toks:=s.toks+1 }) (r:=none) X J hp ht fun b=>?_);obtain ⟨cd,hc,hd'⟩:=PySem.W.any_some hh;have hx:s.heap.get? x=some ⟨.ref C,some dx,.plain,#[]⟩:=I.obj;refine wpAny_bind (wpAny_pure (wpAny_bind (wpAny_bind (wpAny_loadPart hx (wpAny_bind (PySem.W.Looks.here (s:={ s with toks:=s.toks+1 }) (PySem.W.looks_clsIn X hc) ?_))))));rw[hd'];refine wpAny_pure (a:=some dx) (wpAny_bind (wpAny_pure (wpAny_bind ?_)));refine wpAny_nsSet1 (s:={ s with toks:=s.toks+1 }) I.ns fun h' hn2 hs2=>?_
 obtain ⟨oD,esD,epD,hoD,hdD,hcD⟩:=hn2.count (PySem.Within.cons name v hw);refine wpAny_bind (wpAny_lookBehind hoD (by rw[hdD];exact pastItsLine_dict (aj hcD (by rw[bP];lia))) ?_);exact wpAny_pure (h _ ⟨(hs2.2 _ (Ne.symm I.ne)).trans I.obj,hn2,I.ne⟩ hs2)
theorem K4 {R:Result->Shared->Prop} {vs:List Value} {kw:List (Str×Value)} (X:K.In s.heap) (hm:PySem.W.makesIn K C=true)
  (hi:PySem.W.findIn K (.ref C) "__init__"=some (some (.ref f))) (hf:PySem.W.typeIn K (.ref f)=some (.type "function"))
  (h:codeAny (model prog w) (A.under (.builtin "type.__call__" ⟨.ref C :: vs,kw⟩)) (.call (.ref f) ⟨.ref (s.heap.objs.size+1) :: vs,kw⟩) (PySem.W.InitBack (s.heap.objs.size+1) R)
   { s with heap:=(s.heap.push PySem.W.emptyDict).push (PySem.W.instObj C s.heap.objs.size) }) :
  codeAny (model prog w) A (.call (.ref C) ⟨vs,kw⟩) R s:=by
 obtain ⟨hh,g,d,t,os⟩:=s;exact PySem.W.make_core (PySem.W.makes_of X hm) (PySem.W.looks_findIn X hi) (fun self=>PySem.W.bind_fn X self hf) (.inl rfl) h
end
def cy (f:Str) (v:V):List (Str×V)->List (Str×V)
 | []=>[(f,v)]
 | (g,x) :: r=>if g=f then (g,v) :: r else (g,x) :: cy f v r
theorem bK (f g:Str) (v:V):∀fs:List (Str×V),(cy f v fs).lookup g=if g=f then some v else fs.lookup g
 | []=>by
  show List.lookup g [(f,v)]=_
  by_cases h:g=f
  ·have hb:(g == f)=true:=beq_iff_eq.mpr h;simp only[List.lookup,hb,if_pos h]
  ·have hb:(g == f)=false:=beq_eq_false_iff_ne.mpr h;simp only[List.lookup,hb,if_neg h]
 | (k,x) :: r=>by
  have ih:=bK f g v r;rw[show cy f v ((k,x) :: r)=(if k=f then (k,v) :: r else (k,x) :: cy f v r) from rfl];by_cases hk:k=f
  ·rw[if_pos hk];by_cases h:g=k
   ·have hb:(g == k)=true:=beq_iff_eq.mpr h;simp only[List.lookup,hb,if_pos (h.trans hk)]
   ·have hb:(g == k)=false:=beq_eq_false_iff_ne.mpr h;simp only[List.lookup,hb,if_neg (fun e:g=f=>h (e.trans hk.symm))]
  ·rw[if_neg hk];by_cases h:g=k
   ·have hb:(g == k)=true:=beq_iff_eq.mpr h;simp only[List.lookup,hb,if_neg (fun e:g=f=>hk (h.symm.trans e))]
   ·have hb:(g == k)=false:=beq_eq_false_iff_ne.mpr h;simp only[List.lookup,hb];exact ih
theorem yT (f:Str) (v:V):∀fs:List (Str×V),f∈(cy f v fs).map (·.1)/\∀g,g∈fs.map (·.1)->g∈(cy f v fs).map (·.1)
 | []=>⟨by simp [cy],fun g h=>by simp at h⟩
 | (k,x) :: r=>by
  obtain ⟨i1,i2⟩:=yT f v r;rw[show cy f v ((k,x) :: r)=(if k=f then (k,v) :: r else (k,x) :: cy f v r) from rfl];by_cases hk:k=f
  ·rw[if_pos hk];subst hk;exact ⟨by simp,fun g h=>by simpa using h⟩
  ·rw[if_neg hk];refine ⟨?_,fun g h=>?_⟩
   ·rw[iu];exact cb _ i1
   ·rw[iu] at h ⊢;rcases aG.mp h with e | e
    ·exact aG.mpr (.inl e)
    ·exact cb _ (i2 g e)
theorem zA (f:Str) (v:V):∀fs:List (Str×V),(cy f v fs).length<=fs.length+1
 | []=>by simp [cy]
 | (k,x) :: r=>by
  have ih:=zA f v r;rw[show cy f v ((k,x) :: r)=(if k=f then (k,v) :: r else (k,x) :: cy f v r) from rfl];by_cases hk:k=f
  ·rw[if_pos hk,bP,bP];lia
  ·rw[if_neg hk,bP,bP];lia
theorem BY.some_of {v:V} {o:Option Value} (r:BY (some v) o):∃u,o=some u/\RelV v u:=by
 cases o with
 | none=>exact (show False from r).elim
 | some u=>exact ⟨u,rfl,r⟩
theorem BY.none_of {o:Option Value} (r:BY none o):o=none:=by
 cases o with
 | none=>rfl
 | some u=>exact (show False from r).elim
theorem Jv {v:V} {u:Value} (r:RelV v u):PySem.W.handedIn u=true:=by
 cases v with
 | non=>cases (show u=Value.none from r);rfl
 | bl b=>cases (show u=Value.bool b from r);rfl
 | int i=>obtain ⟨t,e⟩:=(show ∃t,u=Value.int i t from r);cases e;rfl
 | str x=>obtain ⟨t,e⟩:=(show ∃t,u=Value.str x t from r);cases e;rfl
 | byt b=>obtain ⟨t,e⟩:=(show ∃t,u=Value.bytes b t from r);cases e;rfl
 | flt b=>obtain ⟨t,e⟩:=(show ∃t,u=Value.float b t from r);cases e;rfl
 | ref a=>cases (show u=Value.ref a from r);rfl
 | ty n=>cases (show u=Value.type n from r);rfl
section
variable {P:Program} {w:World} {H H':Hp} {h h':Heap} {a C dx:Addr} {fs fs':List (Str×V)}
theorem Ad (hok:Am P w H h) (e:H a=some (.ins C dx fs)):∃mA,Gz h a dx C mA/\(∀f,BY (fs.lookup f) (mA f))/\PySem.Within mA (fs.map (·.1))/\fs.length<=1000/\H dx=some (.own a):=by
 obtain ⟨d,z,ne,ob,mA,n,r,q⟩:=(show kb P w H h a (.ins C dx fs) from hok a _ e);exact ⟨mA,⟨ob,n,ne⟩,r,q,z,d⟩
end
structure JK (K:PySem.W.Frag) (C:Addr):Prop where
 pg:PySem.W.plainGet K C Str.empty=true
 hd:PySem.W.hasDictIn K C=true
 po:PySem.W.plainOver K C=true
 sa:PySem.W.findIn K (.ref C) "__setattr__"=some (some (.builtin "object.__setattr__"))
theorem JK.get {K:PySem.W.Frag} {C:Addr} (c:JK K C) (f:Str):PySem.W.plainGet K C f=true:=c.pg
def kO (K:PySem.W.Frag) (C:Addr) (f:Str):Prop:=PySem.W.findIn K (.ref C) f=some none
theorem kO.taker {K:PySem.W.Frag} {C:Addr} {f:Str} (n:kO K C f):PySem.W.takerIn K C f=some none:=by
 unfold PySem.W.takerIn;rw[show PySem.W.findIn K (.ref C) f=some none from n];rfl
structure Con (K:PySem.W.Frag) (C:Addr) (f:Str) (v:V) (u:Value):Prop where
 at_:PySem.W.findIn K (.ref C) f=some (some u)
 rel:RelV v u
 get:PySem.W.specialIn K u "__get__"=some none
 cp:PySem.W.copiedNames.contains f=false
structure PB (K:PySem.W.Frag) (C:Addr) (m:Str) (f:Addr):Prop where
 at_:PySem.W.findIn K (.ref C) m=some (some (.ref f))
 fn:PySem.W.isFn K (.ref f)=true
 kp:PySem.W.keepIn K (.ref f)=true
section
variable {X:Cx} {pins:List (Addr×Obj)} {σ:St} {H:Hp} {s:Shared} {a C dx:Addr} {fs:List (Str×V)} {f:Str} {v:V} {A:Around} {E:Value->Shared->Prop}
theorem Ge {b:Bool} {Q:Value->Shared->Prop} (I:Inv X pins σ H s) (e:H a=some (.ins C dx fs)) (c:JK X.K C) (n:kO X.K C f) (l:fs.lookup f=some v)
  (h:∀u s',Inv X pins σ H s'->RelV v u->Q u s'):wpAny (model X.prog X.w) A (getAttr (.ref a) f b) Q E s:=by
 obtain ⟨mA,O,r,_,_,_⟩:=Ad I.hok e;obtain ⟨u,hu,ru⟩:=BY.some_of (v:=v) (o:=mA f) (by rw[<- l];exact r f);exact get_map I.kIn O (c.get f) c.hd n hu (Jv ru) (h u _ (I.tok _) ru)
theorem Gd {m:Str} {g:Addr} {pl:Sem Bool} {Q:Value×List Value->Shared->Prop} (I:Inv X pins σ H s) (e:H a=some (.ins C dx fs)) (c:JK X.K C) (k:PB X.K C m g) (l:fs.lookup m=none)
  (h:Q (.ref g,[.ref a]) s):wpAny (model X.prog X.w) A (getMethod (.ref a) m pl) Q E s:=by
 obtain ⟨mA,O,r,_,_,_⟩:=Ad I.hok e;have hn:mA m=none:=BY.none_of (by rw[<- l];exact r m);exact Lh I.kIn O (c.get m) k.at_ k.fn hn h
theorem Fx {y:V} {u:Value} {Q:Unit->Shared->Prop} (I:Inv X pins σ H s) (e:H a=some (.ins C dx fs)) (c:JK X.K C) (n:kO X.K C f) (hl:fs.length < 1000) (ry:RelV y u)
  (h:∀s',Inv X pins σ (upd H a (.ins C dx (cy f y fs))) s'->Q () s'):wpAny (model X.prog X.w) A (setAttr (.ref a) f u) Q E s:=by
 obtain ⟨mA,O,r,wi,_,ho⟩:=Ad I.hok e;have hz:(fs.map (·.1)).length<=sizeLine:=by rw[ar,sizeLine_eq];lia
 refine Ml I.kIn O c.sa c.po n.taker c.hd wi hz fun h' O' sb=>h _ ?_
 have hd:∃o,h'.get? dx=some o:=let ⟨o,_,_,e',_⟩:=O'.ns;⟨o,e'⟩
 refine I.write (x:=a) (e:=dx) (by rw[e];exact True.intro) (.inr ho) (fun b q hb z=>(sb.2 b hb).trans z) hd ?_;refine ⟨by rw[bI O.ne];exact ho,?_,O.ne,O'.obj,_,O'.ns,fun g=>?_,fun g hg=>?_⟩
 ·have:=zA f y fs;lia
 ·show BY ((cy f y fs).lookup g) (if g=f then some u else mA g)
  rw[bK];by_cases q:g=f
  ·rw[if_pos q,if_pos q];exact ry
  ·rw[if_neg q,if_neg q];exact r g
 ·by_cases q:g=f
  ·rw[q];exact (yT f y fs).1
  ·refine (yT f y fs).2 g (wi g fun z=>hg ?_);show (if g=f then some u else mA g)=none
   rw[if_neg q];exact z
theorem Inv.made (I:Inv X pins σ H s):Inv X pins σ (upd (upd H s.heap.objs.size (.own (s.heap.objs.size+1))) (s.heap.objs.size+1) (.ins C s.heap.objs.size []))
  { s with heap:=(s.heap.push PySem.W.emptyDict).push (PySem.W.instObj C s.heap.objs.size) }:=by
 have e1:(s.heap.push PySem.W.emptyDict).get? s.heap.objs.size=some PySem.W.emptyDict:=Heap.get?_push_size s.heap rfl
 have e2:((s.heap.push PySem.W.emptyDict).push (PySem.W.instObj C s.heap.objs.size)).get? (s.heap.objs.size+1)=some (PySem.W.instObj C s.heap.objs.size):=by
  have:=Heap.get?_push_size (s.heap.push PySem.W.emptyDict) (o:=PySem.W.instObj C s.heap.objs.size) rfl;rwa [Heap.size_push] at this
 have e3:(s.heap.push PySem.W.emptyDict).Ns s.heap.objs.size (fun _=>none):=⟨PySem.W.emptyDict,#[],_,e1,rfl,(fun e he=>absurd he (by simp)),fun _=>rfl⟩;have I1:=I.laid (a:=s.heap.objs.size) (o:=.own (s.heap.objs.size+1)) (h':=s.heap.push PySem.W.emptyDict) (t':=s.toks) (fun b u q=>Heap.get?_push_of_some _ q) (ao _) ⟨_,e1⟩;refine I1.laid (a:=s.heap.objs.size+1) (o:=.ins C s.heap.objs.size []) (t':=s.toks) (fun b u q=>Heap.get?_push_of_some _ q) (Nat.le_of_eq (Heap.size_push _ _)) ?_;have ne:s.heap.objs.size≠s.heap.objs.size+1:=cg (jl _);refine ⟨by rw[bI ne,aM],bD _,ne,e2,fun _=>none,(Heap.Ns1.of_empty e3).at fun o q=>Heap.get?_push_of_some _ q,fun _=>True.intro,fun y hy=>absurd rfl hy⟩
theorem Nw {prog:Program} {w:World} {env:Env} {e:Expr} {f:Str} {pos:Pos} {s:Shared} {Q:Value->Shared->Prop} (hb:attributeBase e f env (eval e env)=eval e env)
  (h:wpAny (model prog w) A (eval e env) (fun o s₁=>wpAny (model prog w) A (getAttr o f true) Q E s₁) E s):wpAny (model prog w) A (eval (.Attribute e f pos) env) Q E s :=
 Attribute_any_ h (by rw[arm_eval_Attribute,hb])
end
def Ol (K:PySem.W.Frag) (ta:TE) (f:Str):TE:=fun σ H Q=>ta σ H fun x H1=>∃a C dx fs v,x=.ref a/\H1 a=some (.ins C dx fs)/\JK K C/\kO K C f/\fs.lookup f=some v/\Q v H1
def Qs (K:PySem.W.Frag) (ta tv:TE) (f:Str):TS:=fun D σ H=>tv σ H fun y H1=>ta σ H1 fun x H2=>∃a C dx fs,x=.ref a/\H2 a=some (.ins C dx fs)/\JK K C/\kO K C f/\fs.length < 1000 /\
 D.nx σ (upd H2 a (.ins C dx (cy f y fs)))
section
variable {X:Cx} {o e value:Expr} {f:Str} {pos pos' tpos:Pos} {ta tv:TE}
theorem kx (he:PE X e ta) (hb:attributeBase e f X.env (eval e X.env)=eval e X.env):PE X (.Attribute e f pos) (Ol X.K ta f):=by
 intro pins s σ H Q I h;refine Nw hb (gL (he pins s σ H _ I h) fun u s1 ⟨x,H1,I1,rx,a,C,dx,fs,v,ex,ea,c,n,l,q⟩=>?_);subst ex;obtain rfl:u=Value.ref a:=rx;exact Ge I1 ea c n l fun u' s2 I2 ru=>⟨v,H1,I2,ru,q⟩
theorem yN (ha:PE X o ta) (hv:PE X value tv) (hs:swapsWith value (some (.Attribute o f pos')) pos.line X.env=pure false):PS X (.Assign [.Attribute o f pos'] value pos) (Qs X.K ta tv f):=by
 intro pins s σ H D I h;refine plainObj_wpAny_Assign_Attribute (gL (hv pins s σ H _ I h) fun u s1 ⟨y,H1,I1,ry,q⟩=>gL (ha pins s1 σ H1 _ I1 q) fun ov s2 ⟨x,H2,I2,rx,a,C,dx,fs,ex,ea,c,n,l,q2⟩=>?_) hs;subst ex;obtain rfl:ov=Value.ref a:=rx;exact Fx I2 ea c n l ry fun s3 I3=>⟨σ,_,I3,q2⟩
end
section
variable {X:Cx} {pins:List (Addr×Obj)} {σ:St} {H:Hp} {s:Shared} {A:Around} {E:Value->Shared->Prop} {Q:Value->Shared->Prop} {c:Value} {b:Bool}
inductive y9 (K:PySem.W.Frag) (H:Hp):V->Value->Prop where
 | non:y9 K H .non (.type "NoneType")
 | bl (x:Bool):y9 K H (.bl x) (.type "bool")
 | int (i:Int):y9 K H (.int i) (.type "int")
 | str (x:Str):y9 K H (.str x) (.type "str")
 | flt (x:UInt64):y9 K H (.flt x) (.type "float")
 | lst {a:Addr} {xs:List V} (e:H a=some (.lst xs)):y9 K H (.ref a) (.type "list")
 | frz {a:Addr} {o:Obj} {xs:List V} (e:H a=some (.frz o (.lst xs))):y9 K H (.ref a) (.type "list")
 | tup {a:Addr} {xs:List V} (e:H a=some (.tup xs)):y9 K H (.ref a) (.type "tuple")
 | dK {a:Addr} {kvs:List (Key×V)} (e:H a=some (.dK kvs)):y9 K H (.ref a) (.type "dict")
 | dT {a:Addr} {kvs:List (List Key×V)} (e:H a=some (.dT kvs)):y9 K H (.ref a) (.type "dict")
 | ins {a C dx:Addr} {fs:List (Str×V)} (e:H a=some (.ins C dx fs)) (cl:JK K C) (ha:PySem.W.findIn K (.ref C) "__class__"=some (some (.builtin "object.__class__")))
   (hn:PySem.W.specialIn K (.builtin "object.__class__") "__get__"=some (some (.builtin "getset_descriptor.__get__"))) (htk:PySem.W.takesIn K (.builtin "object.__class__")=some true)
   (hm:PySem.W.mroIn K C (.type "object")=some true):y9 K H (.ref a) (.ref C)
theorem Cs {x:V} {u t:Value} (I:Inv X pins σ H s) (rx:RelV x u) (ty:y9 X.K H x t) (e:PySem.W.kitOne X.K t c=some b) (h:∀tk,Q (.bool b) { s with toks:=tk }) :
  wpAny (model X.prog X.w) A (call (.builtin "isinstance") [u,c]) Q E s:=by
 cases ty with
 | non=>cases (show u=Value.none from rx);exact dy PySem.W.kitx_none I.kIn True.intro e (fun z=>nomatch z) h
 | bl y=>cases (show u=Value.bool y from rx);exact dy PySem.W.kitx_bool I.kIn True.intro e (fun z=>nomatch z) h
 | int i=>obtain ⟨t,q⟩:=(show ∃t,u=Value.int i t from rx);cases q;exact dy PySem.W.kitx_int I.kIn True.intro e (fun z=>nomatch z) h
 | str y=>obtain ⟨t,q⟩:=(show ∃t,u=Value.str y t from rx);cases q;exact dy PySem.W.kitx_str I.kIn True.intro e (fun z=>nomatch z) h
 | flt y=>obtain ⟨t,q⟩:=(show ∃t,u=Value.float y t from rx);cases q;exact dy PySem.W.kitx_float I.kIn True.intro e (fun z=>nomatch z) h
 | @lst a xs ea =>
  cases (show u=Value.ref a from rx);obtain ⟨_,_,n,_,h1⟩:=(show kb X.prog X.w H s.heap a (.lst xs) from I.hok a _ ea);exact dy PySem.W.kitx_list I.kIn ⟨_,h1,rfl⟩ e (fun z=>nomatch z) h
 | @frz a ob xs ea =>
  cases (show u=Value.ref a from rx);obtain ⟨_,_,_,n,_,h1⟩:=(show kb X.prog X.w H s.heap a (.frz ob (.lst xs)) from I.hok a _ ea);exact dy PySem.W.kitx_list I.kIn ⟨_,h1,rfl⟩ e (fun z=>nomatch z) h
 | @tup a xs ea =>
  cases (show u=Value.ref a from rx);obtain ⟨_,_,_,p⟩:=(show kb X.prog X.w H s.heap a (.tup xs) from I.hok a _ ea);obtain ⟨o,h1,h2,_⟩:=p;exact dy PySem.W.kitx_tuple I.kIn ⟨o,h1,h2⟩ e (fun z=>nomatch z) h
 | @dK a kvs ea =>
  cases (show u=Value.ref a from rx);obtain ⟨_,_,vs,_,p⟩:=(show kb X.prog X.w H s.heap a (.dK kvs) from I.hok a _ ea);obtain ⟨o,es,ep,h1,h2,_⟩:=p;exact dy PySem.W.kitx_dict I.kIn ⟨o,h1,h2.1⟩ e (fun z=>nomatch z) h
 | @dT a kvs ea =>
  cases (show u=Value.ref a from rx);obtain ⟨_,_,xs,_,o,es,ep,h1,h2,_⟩:=(show kb X.prog X.w H s.heap a (.dT kvs) from I.hok a _ ea);exact dy PySem.W.kitx_dict I.kIn ⟨o,h1,h2.1⟩ e (fun z=>nomatch z) h
 | @ins a C dx fs ea cl ha hn htk hm =>
  cases (show u=Value.ref a from rx);obtain ⟨mA,O,_⟩:=Ad I.hok ea;obtain ⟨od,J,_⟩:=O.look;exact dy (PySem.W.kitx_own (cl.get _) cl.hd ha hn htk hm) I.kIn J e (fun z=>nomatch z) h
end
structure nX (k:Nat) (A:Around):Prop where
 hd:A.handled=none
 dp:A.depth+3*k+5 < recursionLimit
 un:A.units+16*k+200 < cLine
theorem nX.mono {j k:Nat} {A:Around} (r:nX k A) (h:j<=k):nX j A:=⟨r.hd,by have:=r.dp;lia,by have:=r.un;lia⟩
theorem nX.deeper {k:Nat} {A:Around} (r:nX (k+1) A) (env:Env):nX k (A.deeper env) :=
 ⟨r.hd,by have:=r.dp;show A.depth+1+3*k+5 < _;lia,by have:=r.un;show A.units+3+16*k+200 < _;lia⟩
theorem FX {A:Around} {C:Addr} {us:List Value} {kw:List (Str×Value)}:(A.under (.builtin "type.__call__" ⟨.ref C :: us,kw⟩)).depth=A.depth+1:=by
 first | rfl | simp [Around.under,Code.weight,Code.isCreation,Code.isGuard,Code.isCaller,Code.frames,Code.isFrame,guardIds]
theorem FW {A:Around} {C:Addr} {us:List Value} {kw:List (Str×Value)}:(A.under (.builtin "type.__call__" ⟨.ref C :: us,kw⟩)).units=A.units+1:=by
 first | rfl | simp [Around.under,Code.cUnits,Code.frames,Code.isFrame]
theorem nX.make {k:Nat} {A:Around} (r:nX (k+1) A) (C:Addr) (us:List Value) (kw:List (Str×Value)):nX k (A.under (.builtin "type.__call__" ⟨.ref C :: us,kw⟩)) :=
 ⟨r.hd,by have:=r.dp;rw[FX];lia,by have:=r.un;rw[FW];lia⟩
theorem nX.depth {k:Nat} {A:Around} (r:nX k A):A.depth < recursionLimit:=by have:=r.dp;lia
theorem nX.units {k:Nat} {A:Around} (r:nX k A):A.units+64 < cLine:=by have:=r.un;lia
def Ip:TA:=fun _ H Q=>Q [] H
def uL (ta:TE) (tr:TA):TA:=fun σ H Q=>ta σ H fun x H1=>tr σ H1 fun xs H2=>Q (x :: xs) H2
section
variable {X:Cx} {e:Expr} {es:List Expr} {te:TE} {t:TA} {pos:Pos}
theorem ai:PA X [] Ip:=fun _ _ _ _ H Q I h=>Calls.spliced_nil ⟨[],H,I,.nil,h⟩
theorem aa (ha:PE X e te) (hr:PA X es t) (hs:starEach (e :: es) X.env=(false,eval e X.env) :: starEach es X.env:=by rfl):PA X (e :: es) (uL te t):=by
 intro pos pins s σ H Q I h;rw[hs];show wpAny _ _ (spliced ((false,eval e X.env) :: backTo pos (starEach es X.env))) _ _ s
 refine Calls.spliced_cons (gL (ha pins s σ H _ I h) fun u s1 ⟨x,H1,I1,r1,q1⟩=>?_);exact gL (hr pos pins s1 σ H1 _ I1 q1) fun us s2 ⟨xs,H2,I2,r2,q2⟩=>⟨x :: xs,H2,I2,.cons r1 r2,q2⟩
def Qb (t:TA):TE:=fun σ H Q=>t σ H fun xs H1=>xs.length<=sizeLine/\∀p,H1 p=none->Q (.ref p) (upd H1 p (.tup xs))
def Qj (t:TA):TE:=fun σ H Q=>t σ H fun xs H1=>xs.length<=sizeLine/\∀p,H1 p=none->Q (.ref p) (upd H1 p (.lst xs))
theorem cZ {x1} (h:PA X es t):PE X (.Tuple es x1 pos) (Qb t):=by
 intro pins s σ H Q I hq;refine wpAny_Tuple_spliced (gL (h pos pins s σ H _ I hq) fun us s1 ⟨xs,H1,I1,r,z,q⟩=>⟨by rw[<- r.length];exact z,?_⟩);have hf:H1 s1.heap.objs.size=none:=I1.hok.fresh (ao _);refine ⟨.ref s1.heap.objs.size,upd H1 s1.heap.objs.size (.tup xs),I1.laid (t':=s1.toks) (fun b u e=>Heap.get?_push_of_some _ e) (ao _) ?_,rfl,q _ hf⟩;exact ⟨z,us,r,⟨_,Heap.get?_push_size _ rfl,rfl,_,rfl⟩⟩
theorem dJ (h:PA X es t):PE X (.List es pos) (Qj t):=by
 intro pins s σ H Q I hq;refine wpAny_List_spliced (gL (h pos pins s σ H _ I hq) fun us s1 ⟨xs,H1,I1,r,z,q⟩=>⟨by rw[<- r.length];exact z,?_⟩);have hf:H1 s1.heap.objs.size=none:=I1.hok.fresh (ao _);refine ⟨.ref s1.heap.objs.size,upd H1 s1.heap.objs.size (.lst xs),I1.laid (t':=s1.toks) (fun b u e=>Heap.get?_push_of_some _ e) (ao _) ?_,rfl,q _ hf⟩;exact ⟨z,us,0,r,Heap.get?_push_size _ rfl⟩
end
abbrev Sp:=List V->Hp->VK->XK->Prop
abbrev LO:=List Env->Hp->Shared->XK->Value->Shared->Prop
structure GB (P:Program) (w:World) (K:PySem.W.Frag) (mg:Str->Option Value) (base:Heap) (A:Around) (outer:List Env) (s:Shared) (H:Hp):Prop where
 frames:A.frames=some outer
 mod:Mod K mg base
 bs:∀b o,base.get? b=some o->s.heap.get? b=some o/\H b=none
 bsz:base.objs.size<=s.heap.objs.size
 funs:s.heap.FunFrames base outer
 frf:∀b∈JG outer,H b=none
 hok:Am P w H s.heap
 bare:AllBare s.gens
def CE (outer:List Env) (P:Program) (w:World) (H:Hp) (s:Shared) (Q:VK) (u:Value) (s':Shared):Prop :=
 ∃v H',s'.os=s.os/\AllBare s'.gens/\Un (JG outer) [] H H' s.heap s'.heap/\Am P w H' s'.heap/\RelV v u/\Q v H'
def CR (CX:LO) (outer:List Env) (P:Program) (w:World) (H:Hp) (s:Shared) (Q:VK) (E:XK) (r:Result) (s':Shared):Prop :=
 match r with
 | .ok (.ret u)=>CE outer P w H s Q u s'
 | .ok _=>False
 | .error e=>CX outer H s E e s'
structure cN (P:Program) (w:World) (K:PySem.W.Frag) (mg:Str->Option Value) (base:Heap) (CX:LO) (k:Nat) (f:Addr) (fd:FuncData) (ps:List Str) (sp:Sp):Prop where
 len:∀vs H Q E,sp vs H Q E->vs.length=ps.length
 run:∀(A:Around) (outer:List Env) (s:Shared) (H:Hp) (args:Args) (us:List Value) (vs:List V) (Q:VK) (E:XK),nX k A->GB P w K mg base A outer s H->BindsTo s fd args (ps.zip us)->cP vs us->sp vs H Q E →
  codeAny (model P w) A (.call (.ref f) args) (CR CX outer P w H s Q E) s
theorem GB.make {P:Program} {w:World} {K:PySem.W.Frag} {mg:Str->Option Value} {base:Heap} {A:Around} {outer:List Env} {s:Shared} {H:Hp} (e:GB P w K mg base A outer s H) (C:Addr) (us:List Value) (kw:List (Str×Value)) :
  GB P w K mg base (A.under (.builtin "type.__call__" ⟨.ref C :: us,kw⟩)) outer s H:=⟨by first | exact e.frames | (simpa [Around.under,Code.envs,Code.isFrame,pushEnvs] using e.frames),e.mod,e.bs,e.bsz,e.funs,e.frf,e.hok,e.bare⟩
section
variable {X:Cx} {pins:List (Addr×Obj)} {σ:St} {H:Hp} {s s':Shared}
theorem Inv.env0 (I:Inv X pins σ H s):GB X.prog X.w X.K X.mg X.base X.A X.stack s H :=
 ⟨I.ok.frames,I.ok.mod,I.bs,aj I.ok.bsz I.sz,I.stack,I.stkFree,I.hok,I.bare⟩
theorem Inv.after {Q:VK} {u:Value} (I:Inv X pins σ H s) (h:CE X.stack X.prog X.w H s Q u s'):EP X pins σ Q u s':=by
 obtain ⟨v,H',os,bare,un,hok,r,q⟩:=h;obtain ⟨hh,g,d,t,os'⟩:=s';obtain rfl:os'=s.os:=os;exact ⟨v,H',I.call (h':=hh) (g':=g) (d':=d) (t':=t) (ch:=[]) un hok bare (fun b z=>absurd z (by simp)),r,q⟩
end
def JW (sp:Sp) (dvs:List V) (E:XK) (t:TA):TE:=fun σ H Q=>t σ H fun vs H1=>sp (vs++dvs) H1 Q E
def NH (C:Addr) (m:Str) (sp:Sp) (dvs:List V) (E:XK) (ta:TE) (t:TA):TE:=fun σ H Q=>ta σ H fun x H1=>∃a dx fs,x=.ref a/\H1 a=some (.ins C dx fs)/\fs.lookup m=none /\
 t σ H1 fun vs H2=>sp (x :: (vs++dvs)) H2 Q E
def NI (C:Addr) (sp:Sp) (dvs:List V) (E:XK) (t:TA):TE:=fun σ H Q=>t σ H fun vs H1=>∀x dx,H1 x=none->H1 dx=none->dx≠x →
 sp (.ref x :: (vs++dvs)) (upd (upd H1 dx (.own x)) x (.ins C dx [])) (fun v H2=>v=.non/\Q (.ref x) H2) E
def Binds (K:PySem.W.Frag) (fd:FuncData) (ps:List Str) (ds:List Value):Prop :=
 ∀(s:Shared) (us:List Value),K.In s.heap->(us++ds).length=ps.length->BindsTo s fd ⟨us,[]⟩ (ps.zip (us++ds))
theorem Binds.all {K:PySem.W.Frag} {fd:FuncData} {ps:List Str} (h:∀us:List Value,us.length=ps.length->bindArgs fd ⟨us,[]⟩=pure (ps.zip us)):Binds K fd ps []:=fun s us _ hl=>by
 rw[oY] at hl ⊢;exact .of_eq (h us hl)
def zb (CX:LO) (X:Cx) (E:XK):Prop:=∀(pins:List (Addr×Obj)) (σ:St) (H:Hp) (s:Shared) (e:Value) (s':Shared),Inv X pins σ H s->CX X.stack H s E e s'->X.xe e s'
section
variable {X:Cx} {CX:LO} {k:Nat} {f C:Addr} {fd:FuncData} {ps:List Str} {sp:Sp} {dvs:List V} {ds:List Value} {E:XK} {x m:Str} {p pos apos:Pos} {e o:Expr} {es:List Expr} {ta:TE} {t:TA}
theorem Kr {pins:List (Addr×Obj)} {σ:St} {H:Hp} {s:Shared} {Q:VK} {us:List Value} {vs:List V} (F:cN X.prog X.w X.K X.mg X.base CX k f fd ps sp) (hr:nX k X.A) (hb:Binds X.K fd ps ds) (hd:cP dvs ds) (hx:zb CX X E)
  (I:Inv X pins σ H s) (r:cP vs us) (h:sp (vs++dvs) H Q E):wpAny (model X.prog X.w) X.A (call (.ref f) us) (EP X pins σ Q) X.xe s:=by
 have r2:cP (vs++dvs) (us++ds):=r.append hd;have hl:(us++ds).length=ps.length:=by rw[<- r2.length];exact F.len _ _ _ _ h
 refine wpAny_call (codeAny_mono (F.run X.A X.stack s H ⟨us,[]⟩ (us++ds) (vs++dvs) Q E hr I.env0 (hb s us I.kIn hl) r2 h) fun r s' hq=>?_);cases r with
 | error e=>exact hx pins σ H s e s' I hq
 | ok fl =>
  cases fl with
  | ret u=>exact I.after hq
  | next=>exact False.elim hq
  | brk=>exact False.elim hq
  | cont=>exact False.elim hq
theorem MY (F:cN X.prog X.w X.K X.mg X.base CX k f fd ps sp) (hr:nX k X.A) (hg:Gl X x) (hm:X.mg x=some (.ref f)) (hk:PySem.W.keepIn X.K (.ref f)=true) (hb:Binds X.K fd ps ds) (hd:cP dvs ds) (hx:zb CX X E)
  (ha:PA X (e :: es) t) (hdb:(x == ("__debug__":Str))=false:=by decide) (he:starEach (e :: es) X.env=(false,eval e X.env) :: starEach es X.env:=by rfl) (hpl:(backTo pos (starEach es X.env)).any (·.1)=false:=by rfl) :
  PE X (.Call (.Name x p) (e :: es) [] pos) (JW sp dvs E t):=by
 intro pins s σ H Q I h;refine wpAny_Call_Name_kw (Dx I hg hm ?_ hdb);refine Fe (h₀:=X.base) I.ok.mod.kin hk (gL (ha pos pins s σ H _ I h) fun us s1 ⟨vs,H1,I1,r,q⟩=>⟨I1.kIn,?_⟩) he hpl;exact Kr F hr hb hd hx I1 r q
theorem MW {pl : Sem Bool} (he : PE X o ta) (c : JK X.K C) (hm : PB X.K C m f) (F : cN X.prog X.w X.K X.mg X.base CX k f fd ps sp) (hr : nX k X.A) (hb : Binds X.K fd ps ds) (hd : cP dvs ds) (hx : zb CX X E) (ha : PA X (e :: es) t)
    (hst : starEach (e :: es) X.env = (false, eval e X.env) :: starEach es X.env := by rfl) (hpl : (backTo pos (starEach es X.env)).any (·.1) = false := by rfl)
    (ht : eval (.Call (.Attribute o m apos) (e :: es) [] pos) X.env = (do
      let ov <- eval o X.env
      standAt apos.atName
      let (f, first) <- holding [ov] (getMethod ov m pl)
      callWith pos f first (backTo pos (starEach (e :: es) X.env)) (backToKw pos (keywordEach [] X.env))) := by rfl) :
    PE X (.Call (.Attribute o m apos) (e :: es) [] pos) (NH C m sp dvs E ta t) := by
  intro pins s σ H Q I h;refine PySem.W.methodCall_KW (pl := pl) (gL (he pins s σ H _ I h) fun u s1 ⟨x, H1, I1, rx, a, dx, fs, ex, ea, l, q⟩ => ?_) ht;subst ex;obtain rfl : u = Value.ref a := rx;refine Gd I1 ea c hm l ?_;refine Fe (first := [.ref a]) (h₀ := X.base) I.ok.mod.kin hm.kp (gL (ha pos pins s1 σ H1 _ I1 q) fun us s2 ⟨vs, H2, I2, r, q2⟩ => ⟨I2.kIn, ?_⟩) hst hpl;exact Kr (us := .ref a :: us) (vs := .ref a :: vs) F hr hb hd hx I2 (.cons rfl r) q2
structure Mk (K:PySem.W.Frag) (C f:Addr):Prop where
 makes:PySem.W.makesIn K C=true
 init:PySem.W.findIn K (.ref C) "__init__"=some (some (.ref f))
 fn:PySem.W.isFn K (.ref f)=true
 kp:PySem.W.keepIn K (.ref C)=true
theorem Kq {pins:List (Addr×Obj)} {σ:St} {H:Hp} {s:Shared} {Q:VK} {us:List Value} {vs:List V} (M:Mk X.K C f) (F:cN X.prog X.w X.K X.mg X.base CX k f fd ps sp) (hr:nX (k+1) X.A) (hb:Binds X.K fd ps ds) (hd:cP dvs ds)
  (hx:zb CX X E) (I:Inv X pins σ H s) (r:cP vs us)
  (h:∀x dx,H x=none->H dx=none->dx≠x->sp (.ref x :: (vs++dvs)) (upd (upd H dx (.own x)) x (.ins C dx [])) (fun v H2=>v=.non/\Q (.ref x) H2) E) :
  wpAny (model X.prog X.w) X.A (call (.ref C) us) (EP X pins σ Q) X.xe s:=by
 have hq:=h (s.heap.objs.size+1) s.heap.objs.size (I.hok.fresh (uE _)) (I.hok.fresh (ao _)) (cg (jl _));have I2:=Inv.made (C:=C) I;have r2:cP (V.ref (s.heap.objs.size+1) :: (vs++dvs)) (Value.ref (s.heap.objs.size+1) :: (us++ds)):=.cons rfl (r.append hd)
 have hl:(Value.ref (s.heap.objs.size+1) :: us++ds).length=ps.length:=by
  have e:=r2.length;rw[F.len _ _ _ _ hq] at e;exact e.symm
 refine wpAny_call (K4 (f:=f) I.kIn M.makes M.init (beq_iff_eq.mp M.fn) (codeAny_mono (F.run _ X.stack _ _ ⟨Value.ref (s.heap.objs.size+1) :: us,[]⟩ (Value.ref (s.heap.objs.size+1) :: (us++ds)) _ _ E (hr.make C us [])
  (I2.env0.make C us []) (hb _ (Value.ref (s.heap.objs.size+1) :: us) I2.kIn hl) r2 hq) fun r s' hq'=>?_))
 cases r with
 | error e=>exact hx pins σ _ _ e s' I2 hq'
 | ok fl =>
  cases fl with
  | ret u =>
   obtain ⟨v,H',I3,rv,ev,q3⟩:=I2.after hq';subst ev;exact ⟨rv,⟨V.ref (s.heap.objs.size+1),H',I3,rfl,q3⟩⟩
  | next=>exact False.elim hq'
  | brk=>exact False.elim hq'
  | cont=>exact False.elim hq'
theorem MX (M:Mk X.K C f) (F:cN X.prog X.w X.K X.mg X.base CX k f fd ps sp) (hr:nX (k+1) X.A) (hg:Gl X x) (hm:X.mg x=some (.ref C)) (hb:Binds X.K fd ps ds) (hd:cP dvs ds) (hx:zb CX X E)
  (ha:PA X (e :: es) t) (hdb:(x == ("__debug__":Str))=false:=by decide) (he:starEach (e :: es) X.env=(false,eval e X.env) :: starEach es X.env:=by rfl) (hpl:(backTo pos (starEach es X.env)).any (·.1)=false:=by rfl) :
  PE X (.Call (.Name x p) (e :: es) [] pos) (NI C sp dvs E t):=by
 intro pins s σ H Q I h;refine wpAny_Call_Name_kw (Dx I hg hm ?_ hdb);refine Fe (h₀:=X.base) I.ok.mod.kin M.kp (gL (ha pos pins s σ H _ I h) fun us s1 ⟨vs,H1,I1,r,q⟩=>⟨I1.kIn,?_⟩) he hpl;exact Kq M F hr hb hd hx I1 r q
end
section
variable {X:Cx} {CX:LO} {k:Nat} {f C:Addr} {fd:FuncData} {ps ks:List Str} {sp:Sp} {E:XK} {x m:Str} {p pos apos kpos:Pos} {e o:Expr} {es:List Expr} {kws:List Keyword} {te ta:TE} {t tk:TA} {nm:Option Str}
structure RV (K:PySem.W.Frag) (fd:FuncData) (ps ks:List Str) (g:List Value->List Value->List Value) (gV:List V->List V->List V):Prop where
 to:∀(s:Shared) (us ws:List Value),K.In s.heap->(g us ws).length=ps.length->BindsTo s fd ⟨us,ks.zip ws⟩ (ps.zip (g us ws))
 rel:∀{vs:List V} {us:List Value} {zs:List V} {ws:List Value},cP vs us->cP zs ws->cP (gV vs zs) (g us ws)
variable {g:List Value->List Value->List Value} {gV:List V->List V->List V}
end
structure bx (N P:List Str) (sc:Scope):Prop where
 kind:sc.kind=.function
 co:sc.isCoroutine=false
 gen:sc.isGenerator=false
 nd:N.Nodup
 pre:N.take P.length=P
 par:∀x∈P,sc.names.lookup x=some .local\/sc.names.lookup x=some .cell
 nofree:∀y∈sc.names,y.2≠.free
theorem CB {kindOf:Str->Option NameKind} {x:Str}:∀{binds:List (Str×Value)} {m:Str->Option Value},(∀v,(x,v)∉binds)->bindL kindOf binds m x=m x
 | [],_,_=>rfl
 | (n,v) :: r,m,h=>by
  unfold bindL;rw[CB fun w hw=>h w (cb _ hw)]
  split
  ·have:x≠n:=by rintro rfl;exact h v du
   simp [this]
  ·rfl
theorem CD {kindOf:Str->Option NameKind} {x:Str}:∀{binds:List (Str×Value)} {m:Str->Option Value},(∀v,(x,v)∉binds)->bindC kindOf binds m x=m x
 | [],_,_=>rfl
 | (n,v) :: r,m,h=>by
  unfold bindC;rw[CD fun w hw=>h w (cb _ hw)]
  split
  ·rfl
  ·have:x≠n:=by rintro rfl;exact h v du
   simp [this]
theorem CC {kindOf:Str->Option NameKind} {x:Str} {v:Value}:∀{P:List Str} {vs:List Value} {i:Nat} {m:Str->Option Value},P.Nodup->P[i]?=some x->vs[i]?=some v->kindOf x=some .local →
  bindL kindOf (P.zip vs) m x=some v
 | [],_,_,_,_,h,_,_=>by simp at h
 | _ :: _,[],_,_,_,_,h,_=>by simp at h
 | p :: P,w :: vs,0,m,nd,h1,h2,hk=>by
  simp at h1 h2;subst h1;subst h2;show bindL kindOf ((p,w) :: P.zip vs) m p=_
  unfold bindL;rw[CB fun v hv=>(eK.mp nd).1 (LX hv).1,if_pos hk];simp
 | p :: P,w :: vs,i+1,m,nd,h1,h2,hk=>by
  show bindL kindOf ((p,w) :: P.zip vs) m x=_
  unfold bindL;exact CC (i:=i) (eK.mp nd).2 (by simpa using h1) (by simpa using h2) hk
theorem CG {kindOf:Str->Option NameKind} {x:Str} {v:Value}:∀{P:List Str} {vs:List Value} {i:Nat} {m:Str->Option Value},P.Nodup->P[i]?=some x->vs[i]?=some v->kindOf x≠some .local →
  bindC kindOf (P.zip vs) m x=some v
 | [],_,_,_,_,h,_,_=>by simp at h
 | _ :: _,[],_,_,_,_,h,_=>by simp at h
 | p :: P,w :: vs,0,m,nd,h1,h2,hk=>by
  simp at h1 h2;subst h1;subst h2;show bindC kindOf ((p,w) :: P.zip vs) m p=_
  unfold bindC;rw[CD fun v hv=>(eK.mp nd).1 (LX hv).1,if_neg hk];simp
 | p :: P,w :: vs,i+1,m,nd,h1,h2,hk=>by
  show bindC kindOf ((p,w) :: P.zip vs) m x=_
  unfold bindC;exact CG (i:=i) (eK.mp nd).2 (by simpa using h1) (by simpa using h2) hk
def start (N:List Str) (vs:List V):St:=vs.map some++List.replicate (N.length - vs.length) none
def Jy (CX:LO) (P:Program) (w:World) (K:PySem.W.Frag) (mg:Str->Option Value) (base:Heap) (N:List Str) (qual:Str) (scope:Scope) (f:Addr) (cd:Value) (A:Around) (outer:List Env) (s:Shared) (H:Hp) (E:XK):Cx where
 prog:=P
 w:=w
 K:=K
 mg:=mg
 base:=base
 A:=A.deeper (envOfC qual scope s.heap.objs.size f cd)
 N:=N
 s₀:=s
 H₀:=H
 env:=envOfC qual scope s.heap.objs.size f cd
 outer:=outer
 stack:=envOfC qual scope s.heap.objs.size f cd :: outer
 ex:=[]
 calm:=true
 fn:=fun _=>true
 pn:=[]
 xe:=fun e s'=>wpAny (model P w) (A.deeper (envOfC qual scope s.heap.objs.size f cd)) (leaving (envOfC qual scope s.heap.objs.size f cd) e) (fun _ s''=>CX outer H s E e s'') (fun e' s''=>CX outer H s E e' s'') s'
theorem EX {sc:Scope} {n:Nat} {x:Str} (h:sc.names.lookup x=some .cell):∃c,(cellsFrom n sc.names []).lookup x=some c:=by
 have q:=Ap sc.names n [] (.inl h);exact P6.mp q
theorem Js {CX:LO} {P:Program} {w:World} {K:PySem.W.Frag} {mg:Str->Option Value} {base:Heap} {N ps:List Str} {qual:Str} {scope:Scope} {f:Addr} {cd:Value} {A:Around} {outer:List Env} {s s1:Shared} {H:Hp} {E:XK} {us:List Value} {vs:List V}
  (S:bx N ps scope) (hd:A.handled=none) (e0:GB P w K mg base A outer s H) (hl:vs.length=ps.length) (r:cP vs us)
  (x:InCallC s s.heap.objs.size (bindL (envOfC qual scope s.heap.objs.size f cd).kindOf (ps.zip us) fun _=>none) (cellsFrom (s.heap.objs.size+1) scope.names []) (bindC (envOfC qual scope s.heap.objs.size f cd).kindOf (ps.zip us) fun _=>none) s1) :
  Inv (Jy CX P w K mg base N qual scope f cd A outer s H E) [] (start N vs) H s1:=by
 have hpl:ps.length<=N.length:=by have:=congrArg List.length S.pre;rw[cO] at this;lia
 obtain ⟨h1,tk,rfl,hk⟩:=x.done;have noA:∀b:Addr,b∉(Jy CX P w K mg base N qual scope f cd A outer s H E).ex:=fun b z=>absurd (show b∈([]:List Addr) from z) (by simp)
 refine ⟨⟨e0.mod,S.kind,rfl,rfl,ao _,fun y z c h1 h2=>?_,fun y hy=>?_,fun y c _ h=>?_,fun _=>hd,Around.frames_deeper e0.frames,.inr ⟨rfl,rfl⟩,fun b z=>absurd z (noA b),e0.bs,e0.bsz,fun b _ _=>noA b,fun b z=>absurd z (noA b),e0.funs,e0.frf⟩,
  rfl,e0.bare,Un.kept hk,⟨_,x.toInCall.ns,fun i y v h1 h2 h3=>?_⟩,fun y c h=>⟨_,x.cell y c h⟩,e0.hok.fresh (ao _),fun y c h=>?_,fun p hp=>absurd (show p∈([]:List (Addr×Obj)) from hp) (by simp),e0.hok.kept hk,?_⟩
 ·exact name_of_addr x.apart (nQ h1) (nQ h2)
 ·have hy:scope.names.lookup y=some .cell\/scope.names.lookup y=some .free:=hy;rcases hy with hy | hy
  ·exact EX hy
  ·exact absurd rfl (S.nofree _ (nQ hy))
 ·exact aY (x.above y c (nQ h))
 ·have hi:i < vs.length:=by
   unfold start at h2;by_cases hi:i < vs.length
   ·exact hi
   ·rw[aZ (by simpa using hi)] at h2;rw[fH] at h2
    split at h2 <;> cases h2
  have ha:vs[i]?=some v:=by
   unfold start at h2;rw[bE (by simpa using hi),aK] at h2;cases e:vs[i]? with
   | none=>rw[e] at h2;cases h2
   | some a=>rw[e] at h2;cases h2;rfl
  obtain ⟨u,hu,rv⟩:=r.get ha
  have hp:ps[i]?=some y:=by
   rw[<- S.pre,yC (by lia)];exact h1
  have ndP:ps.Nodup:=by rw[<- S.pre];exact S.nd.sublist (List.take_sublist _ _)
  refine ⟨u,rv,?_⟩;rcases S.par y (ay hp) with k | k
  ·exact .inl ⟨k,CC ndP hp hu k⟩
  ·obtain ⟨c,e⟩:=EX (n:=s.heap.objs.size+1) k;refine .inr ⟨.inl k,c,e,?_⟩;have q:=x.cell y c e;rw[CG ndP hp hu (by show scope.names.lookup y≠_;rw[k];decide)] at q;exact q
 ·exact e0.hok.fresh (aY (x.above y c (nQ h)))
 ·unfold start;show _=N.length
  rw[av,ar,aE]
  lia
theorem QW {CX:LO} {P:Program} {w:World} {K:PySem.W.Frag} {mg:Str->Option Value} {base:Heap} {k:Nat} {f:Addr} {name qual:Str} {params:Arguments} {body:List Stmt} {scope:Scope} {dV kV doc pm cdv ct oc:Value} {an od:Option Addr}
  {osl:Array (Option Value)} {N ps:List Str} {sp:Sp} (lk:K.lookup f=some ⟨oc,od,.func (PySem.W.fnOf name qual params body scope dV kV doc pm an cdv ct),osl⟩) (hcd:PySem.W.codeIn K cdv qual=true) (S:bx N ps scope)
  (len:∀vs H Q E,sp vs H Q E->vs.length=ps.length)
  (hbody:∀(A:Around) (outer:List Env) (s:Shared) (H:Hp) (vs:List V) (Q:VK) (E:XK),nX k (A.deeper (envOfC qual scope s.heap.objs.size f cdv))->sp vs H Q E →
   ∃t,Gy (Jy CX P w K mg base N qual scope f cdv A outer s H E) body t/\t { nx:=fun _ H'=>Q .non H',rt:=Q } (start N vs) H) :
  cN P w K mg base CX (k+1) f (PySem.W.fnOf name qual params body scope dV kV doc pm an cdv ct) ps sp:=by
 refine ⟨len,fun A outer s H args us vs Q E hr e0 hb r hsp=>?_⟩;have hl:=len _ _ _ _ hsp;have KX:K.In s.heap:=e0.mod.kin.keeps fun b o e=>(e0.bs b o e).1
 have lim:s.heap.NoLimit:=e0.mod.nolimit.keeps fun b o e=>(e0.bs b o e).1
 have hkind:∀y∈ps.zip us,scope.names.lookup y.1=some .local\/(scope.names.lookup y.1=some .cell/\((cellsFrom (s.heap.objs.size+1) scope.names []).lookup y.1).isSome=true):=fun ⟨n,v⟩ hy=>by
  rcases S.par n (LX hy).1 with q | q
  ·exact .inl q
  ·exact .inr ⟨q,Ap _ _ _ (.inl q)⟩
 refine codeAny_call_function hr.depth (KX _ _ lk) rfl S.co S.gen rfl (PySem.W.codeRec_of KX hcd) (hb _ _ _ _ ?_);refine wpAny_newFunctionEnv_cells S.kind hkind fun env he s1 x=>?_
 subst he;refine ⟨lim.keeps x.toInCall.keep,codeAny_func ?_⟩;obtain ⟨t,ht,hq⟩:=hbody A outer s H vs Q E (hr.deeper _) hsp;have I:Inv (Jy CX P w K mg base N qual scope f cdv A outer s H E) [] (start N vs) H s1:=Js S hr.hd e0 hl r x;refine wpAny_mono (ht [] s1 (start N vs) H _ I hq) (fun fl s' hs=>?_) fun e s' hs=>hs
 have fin:∀{σ':St} {H':Hp} {v:V} {u:Value},Inv (Jy CX P w K mg base N qual scope f cdv A outer s H E) [] σ' H' s'->RelV v u->Q v H'->CE outer P w H s Q u s' :=
  fun {σ' H' v u} J rv q=>⟨v,H',J.os,J.bare,J.base,J.hok,rv,q⟩
 cases fl with
 | ret u =>
  obtain ⟨v,σ',H',J,rv,q⟩:=hs;exact fin J rv q
 | next =>
  obtain ⟨σ',H',J,q⟩:=hs;exact fin (v:=V.non) (u:=Value.none) J rfl q
 | brk =>
  obtain ⟨_,_,_,q⟩:=hs;exact False.elim q
 | cont =>
  obtain ⟨_,_,_,q⟩:=hs;exact False.elim q
section
variable {X:Cx} {x:Str} {p pos:Pos} {e:Expr} {es:List Expr} {t:TA} {id T:String} {r:List V->Hp->VK->Prop}
def RA (r:List V->Hp->VK->Prop) (t:TA):TE:=fun σ H Q=>t σ H fun vs H1=>r vs H1 Q
theorem bJ (hc:uC X (.builtin id) r) (hg:Gl X x) (hm:X.mg x=none) (hv:bootBuiltins x=some (.builtin id)) (ha:PA X (e :: es) t) (hn:x≠"__name__":=by decide) (hdb:(x == ("__debug__":Str))=false:=by decide)
  (he:starEach (e :: es) X.env=(false,eval e X.env) :: starEach es X.env:=by rfl) (hpl:(backTo pos (starEach es X.env)).any (·.1)=false:=by rfl):PE X (.Call (.Name x p) (e :: es) [] pos) (RA r t):=by
 intro pins s σ H Q I h;refine wpAny_Call_Name_kw (lM I hg hm hv ?_ hn hdb);exact PyProof.Rows.callWith_builtin1 (gL (ha pos pins s σ H _ I h) fun us s1 ⟨vs,H1,I1,r1,q1⟩=>hc pins s1 σ H1 vs us Q I1 r1 q1) he hpl
theorem eB (hc:uC X (.type T) r) (hg:Gl X x) (hm:X.mg x=none) (hv:bootBuiltins x=some (.type T)) (ha:PA X (e :: es) t) (hn:x≠"__name__":=by decide) (hdb:(x == ("__debug__":Str))=false:=by decide)
  (he:starEach (e :: es) X.env=(false,eval e X.env) :: starEach es X.env:=by rfl) (hpl:(backTo pos (starEach es X.env)).any (·.1)=false:=by rfl):PE X (.Call (.Name x p) (e :: es) [] pos) (RA r t):=by
 intro pins s σ H Q I h;refine wpAny_Call_Name_kw (lM I hg hm hv ?_ hn hdb);exact PyProof.Rows.callWith_type1 (gL (ha pos pins s σ H _ I h) fun us s1 ⟨vs,H1,I1,r1,q1⟩=>hc pins s1 σ H1 vs us Q I1 r1 q1) he hpl
end
end L2
namespace HT
open PySem PyProof.Rows
section
open PySem.SeqAt
open PySem.AutoSeq1 (wpAny_loadPart')
open PySem.MeetsSeq PySem.MeetsSeq2 PySem.MeetsSeq3
end
section
variable {prog:Program} {w:World} {A:Around} {E:Value->Shared->Prop} {s:Shared}
def Es (n d:Nat):Option Int->Nat
 | none=>d
 | some v=>if v < 0 then (v+(n:Int)).toNat else min v.toNat n
theorem Er (n d:Nat):Es n d none=d:=rfl
theorem z8 (n d k:Nat):Es n d (some (k:Int))=min k n:=by
 show (if (k:Int) < 0 then ((k:Int)+(n:Int)).toNat else min (k:Int).toNat n)=min k n
 rw[if_neg (by lia),Int.toNat_natCast]
end
end HT
namespace L2
open PySem PySem.Spec PyProof.Rows
abbrev TO:=St->Hp->(Option Int->Hp->Prop)->Prop
def PO (X:Cx) (e:Option Expr) (t:TO):Prop :=
 ∀(pins:List (Addr×Obj)) (s:Shared) (σ:St) (H:Hp) (Q:Option Int->Hp->Prop),Inv X pins σ H s->t σ H Q →
  wpAny (model X.prog X.w) X.A (evalPart e X.env) (fun u s'=>∃o H',Inv X pins σ H' s'/\IsPart u o/\Q o H') X.xe s
def GI:TO:=fun _ H Q=>Q none H
def ND (t:TE):TO:=fun σ H Q=>t σ H fun x H1=>∃i,x=.int i/\Q (some i) H1
theorem intsAre_of {ns:List Int}:∀{us:List Value},cP (ns.map V.int) us->IntsAre us ns:=by
 induction ns with
 | nil=>intro us r;rw[List.map_nil] at r;cases r;exact .nil
 | cons n ns ih =>
  intro us r;rw[iu] at r;cases r with
  | cons r1 r2 =>
   obtain ⟨t,e⟩:=r1;subst e;exact .cons n t (ih r2)
section
variable {X:Cx} {e:Expr} {te:TE} {lo hi:Option Expr} {tl th:TO} {pos p2:Pos}
theorem GW:PO X none GI:=by
 intro pins s σ H Q I h;rw[evalPart_none];exact wpAny_pure ⟨none,H,I,.none,h⟩
theorem z9 (h:PE X e te):PO X (some e) (ND te):=by
 intro pins s σ H Q I hw;rw[evalPart_some];refine gL (h pins s σ H _ I hw) fun u s1 ⟨x,H1,I1,r1,q1⟩=>?_
 obtain ⟨i,rfl,q⟩:=q1;obtain ⟨t,rfl⟩:=r1;exact ⟨some i,H1,I1,.int i t,q⟩
def RS (X:Cx) (r:V->Option Int->Option Int->Hp->VK->Prop):Prop :=
 ∀(pins:List (Addr×Obj)) (s:Shared) (σ:St) (H:Hp) (x:V) (v vl vu:Value) (lo hi:Option Int) (sl:Addr) (Q:VK),Inv X pins σ H s->RelV x v->s.heap.IsSliceOf sl vl vu .none->IsPart vl lo->IsPart vu hi->r x lo hi H Q →
  ∃T id,typeLookup (.type T) "__getitem__"=pure (some (.builtin id))/\s.TypeIs v T/\wpAny (model X.prog X.w) X.A (getItem v (.ref sl)) (EP X pins σ Q) X.xe s
def tSl (r:V->Option Int->Option Int->Hp->VK->Prop) (te:TE) (tl th:TO):TE:=fun σ H Q=>te σ H fun x H1=>tl σ H1 fun l H2=>th σ H2 fun u H3=>r x l u H3 Q
theorem AO {r:V->Option Int->Option Int->Hp->VK->Prop} (hr:RS X r) (he:PE X e te) (hl:PO X lo tl) (hu:PO X hi th):PE X (.Subscript e (.Slice lo hi none p2) pos) (tSl r te tl th):=by
 intro pins s σ H Q I h;refine Subscript_ (gL (he pins s σ H _ I h) fun v s1 ⟨x,H1,I1,r1,q1⟩=>?_);refine wpAny_Slice (gL (hl pins s1 σ H1 _ I1 q1) fun vl s2 ⟨l,H2,I2,pl,q2⟩=>gL (hu pins s2 σ H2 _ I2 q2) fun vu s3 ⟨u,H3,I3,pu,q3⟩=>?_);rw[evalPart_none];refine wpAny_pure ?_;have I4:Inv X pins σ H3 { s3 with heap:=s3.heap.push { cls:=.type "slice",data:=.fields #[vl,vu,.none] } }:=I3.kept (t':=s3.toks) fun b ob q=>Heap.get?_push_of_some _ q
 obtain ⟨T,id,hT,ht,hg⟩:=hr pins { s3 with heap:=s3.heap.push { cls:=.type "slice",data:=.fields #[vl,vu,.none] } } σ H3 x v vl vu l u s3.heap.objs.size Q I4 r1 (Heap.IsSliceOf.new ..) pl pu q3;show wpAny (model X.prog X.w) X.A (subscriptTail e (.Slice lo hi none p2) v (.ref s3.heap.objs.size)) (EP X pins σ Q) X.xe { s3 with heap:=s3.heap.push { cls:=.type "slice",data:=.fields #[vl,vu,.none] } }
 exact tail_any (ops:=[.ref s3.heap.objs.size,v]) ht hT hg (by with_unfolding_all rfl)
def wF (xs:List V) (lo hi:Option Int):List V:=(xs.drop (HT.Es xs.length 0 lo)).take (HT.Es xs.length xs.length hi - HT.Es xs.length 0 lo)
theorem zC (xs:List V) (lo hi:Option Int):(wF xs lo hi).length<=xs.length:=by
 unfold wF;rw[cO,JL]
 lia
end
def JF (n:Nat) (i:Int):Option Nat:=if 0<=i then (if i < n then some i.toNat else none) else if -(n:Int)<=i then some (i+n).toNat else none
def Gn {α:Type} (xs:List α) (i:Int):Option α:=(JF xs.length i).bind fun j=>xs[j]?
theorem HF {n:Nat} {i:Int} {j:Nat} (h:JF n i=some j):seqIndex? i n=some j/\j < n/\-(n:Int)<=i/\i < n:=by
 unfold JF at h;by_cases h0:0<=i
 ·rw[if_pos h0] at h;by_cases h1:i < n
  ·rw[if_pos h1] at h;have e:i.toNat=j:=cm h;exact ⟨by rw[seqIndex_of h0 h1,e],by lia,by lia,h1⟩
  ·rw[if_neg h1] at h;cases h
 ·rw[if_neg h0] at h;by_cases h1:-(n:Int)<=i
  ·rw[if_pos h1] at h;have e:(i+n).toNat=j:=cm h;exact ⟨by rw[seqIndex_neg (by lia) h1,e],by lia,h1,by lia⟩
  ·rw[if_neg h1] at h;cases h
theorem DQ {α:Type} {xs:List α} {i:Int} {v:α} (h:Gn xs i=some v):∃j,seqIndex? i xs.length=some j/\xs[j]?=some v/\j < xs.length/\-(xs.length:Int)<=i/\i < xs.length:=by
 unfold Gn at h;cases e:JF xs.length i with
 | none=>rw[e] at h;cases h
 | some j =>
  rw[e] at h;obtain ⟨h1,h2,h3,h4⟩:=HF e;exact ⟨j,h1,h,h2,h3,h4⟩
theorem eC {α:Type} {xs:List α} {j:Nat} {v:α} (h:xs[j]?=some v):Gn xs (j:Int)=some v:=by
 have hj:j < xs.length:=(aI.mp h).1
 have e:JF xs.length (j:Int)=some j:=by
  unfold JF;rw[if_pos (by lia),if_pos (by lia)];simp
 unfold Gn;rw[e];exact h
theorem yr {α:Type} (xs:List α) (v:α):Gn (xs++[v]) (-1)=some v:=by
 have hl:(xs++[v]).length=xs.length+1:=by simp
 have e:JF (xs++[v]).length (-1)=some xs.length:=by
  unfold JF;rw[hl,if_neg (by decide),if_pos (by lia)];congr 1
  lia
 unfold Gn;rw[e];show (xs++[v])[xs.length]?=some v
 simp
def Ny (b:Expr):Prop:=∀o i,subscripted b false o i=operate [o,i] (getItem o i)
def Q4 (X:Cx) (r:R2):Prop :=
 ∀(value slice:Expr) (pins:List (Addr×Obj)) (s:Shared) (σ:St) (H:Hp) (x y:V) (v u:Value) (Q:VK),Inv X pins σ H s->RelV x v->RelV y u->r x y H Q →
  subscripted slice false v u=operate [v,u] (getItem v u)->wpAny (model X.prog X.w) X.A (subscriptTail value slice v u) (EP X pins σ Q) X.xe s
def MtR (X:Cx) (id:String) (r:V->List V->Hp->VK->Prop):Prop :=
 ∀(pins:List (Addr×Obj)) (s:Shared) (σ:St) (H:Hp) (x:V) (xs:List V) (v:Value) (us:List Value) (Q:VK),Inv X pins σ H s->RelV x v->cP xs us->r x xs H Q →
  wpAny (model X.prog X.w) X.A (call (.builtin id) (v :: us)) (EP X pins σ Q) X.xe s
section
variable {X:Cx} {a b:Expr} {ta tb:TE} {pos:Pos}
theorem aW {r:R2} (hr:Q4 X r) (ha:PE X a ta) (hb:PE X b tb) (hs:Ny b:=by intro _ _;rfl):PE X (.Subscript a b pos) (Qh r ta tb):=by
 intro pins s σ H Q I h;exact Subscript_ (Pw ha hb I h fun v u s2 x y H2 I2 rx ry q=>hr a b pins s2 σ H2 x y v u Q I2 rx ry q (hs _ _))
def O2 (K:PySem.W.Frag):R2:=fun x y H Q=>∃p xs i v,x=.ref p/\y=.int i/\bV K H p xs/\Gn xs i=some v/\Q v H
def O1 (K:PySem.W.Frag):R2:=fun x y H Q=>∃p xs i v,x=.ref p/\y=.int i/\uc K H p xs/\Gn xs i=some v/\Q v H
theorem bL:Q4 X (O2 X.K):=by
 intro value slice pins s σ H x y v u Q I rx ry h hs;obtain ⟨p,xs,i,z,rfl,rfl,hq,he,q⟩:=h;cases rx;obtain ⟨t,rfl⟩:=ry;obtain ⟨its,r,pl,hz⟩:=I.list hq;obtain ⟨j,h1,h2,h3,h4,h5⟩:=DQ he;obtain ⟨w,ew,rw'⟩:=r.get h2;have hl:=r.length;have hn:=Bh;have fin:EP X pins σ Q w s:=⟨z,H,I,rw',q⟩;by_cases h0:0<=i
 ·have hj:i.toNat=j:=by
   rw[seqIndex_of h0 h5] at h1;exact cm h1
  exact item_listR pl.isList h0 (by lia) (by rw[hj];simpa using ew) fin hs
 ·have hj:(i+(its.toArray.size:Int)).toNat=j:=by
   rw[seqIndex_neg (by lia) h4] at h1;rw[aP,<- hl];exact cm h1
  exact subscriptTail_builtinR (x:=w) pl.isList.typeIs slot_list_getitem.lookup
   (wpAny_getItem_list_neg (Q:=fun r s'=>r=w/\EP X pins σ Q r s') pl.isList (by lia) (by rw[aP] <;> lia) (by lia) (by rw[hj];simpa using ew) ⟨rfl,fin⟩) hs
theorem b8:Q4 X (O1 X.K):=by
 intro value slice pins s σ H x y v u Q I rx ry h hs;obtain ⟨p,xs,i,z,rfl,rfl,hq,he,q⟩:=h;cases rx;obtain ⟨t,rfl⟩:=ry;obtain ⟨its,r,pl,hz⟩:=I.tuple hq;obtain ⟨j,h1,h2,h3,h4,h5⟩:=DQ he;obtain ⟨w,ew,rw'⟩:=r.get h2;have hl:=r.length;have hn:=Bh;have fin:EP X pins σ Q w s:=⟨z,H,I,rw',q⟩
 exact subscriptTail_builtinR (x:=w) pl.typeIs slot_tuple_getitem.lookup
  (getItem_tuple (j:=j) (Q:=fun r s'=>r=w/\EP X pins σ Q r s') pl (by lia) (by lia) (by rw[aP,<- hl];exact h1) (by simpa using ew) ⟨rfl,fin⟩) hs
theorem FV (its:List Value) (n j:Nat) (u:Value):Obj.mapSeq (·.setIfInBounds j u) { cls:=.type "list",data:=.seq its.toArray n }={ cls:=.type "list",data:=.seq (its.set j u).toArray n }:=by
 simp [Obj.mapSeq]
theorem Inv.lst {pins:List (Addr×Obj)} {σ:St} {H:Hp} {s:Shared} {p:Addr} {xs:List V} (I:Inv X pins σ H s) (h:H p=some (.lst xs)) :
  ∃(its:List Value) (n:Nat),cP xs its/\s.heap.get? p=some { cls:=.type "list",data:=.seq its.toArray n }/\xs.length<=sizeLine:=by
 obtain ⟨z,its,n,r,e⟩:=I.hok p _ h;exact ⟨its,n,r,e,z⟩
theorem Inv.lstUpd {pins:List (Addr×Obj)} {σ:St} {H:Hp} {s:Shared} {p:Addr} {xs ys:List V} {its its':List Value} {n n':Nat} {f:Obj->Obj} (I:Inv X pins σ H s) (h:H p=some (.lst xs))
  (ho:s.heap.get? p=some { cls:=.type "list",data:=.seq its.toArray n }) (hf:f { cls:=.type "list",data:=.seq its.toArray n }={ cls:=.type "list",data:=.seq its'.toArray n' }) (r:cP ys its') (hz:ys.length<=sizeLine) (t:Nat) :
  Inv X pins σ (upd H p (.lst ys)) { s with heap:=s.heap.update p f,toks:=t }:=by
 have e:(s.heap.update p f).get? p=some { cls:=.type "list",data:=.seq its'.toArray n' }:=by
  rw[Heap.get?_update_self f ho (by rw[hf] <;> rfl),hf]
 refine I.write (x:=p) (e:=p) (by rw[h];trivial) (.inl rfl) (fun b u hb q=>(Heap.get?_update_other _ _ (Ne.symm hb)).trans q) ⟨_,e⟩ ?_;exact ⟨hz,its',n',r,e⟩
def NP:V->V->V->Hp->(Hp->Prop)->Prop:=fun o i v H Q=>∃p xs k j,o=.ref p/\i=.int k/\H p=some (.lst xs)/\JF xs.length k=some j/\Q (upd H p (.lst (xs.set j v)))
theorem set_list:Py X NP:=by
 intro pins s σ H o i v ov iv u Q I ro ri rv h;obtain ⟨p,xs,k,j,rfl,rfl,hp,hj,q⟩:=h;cases ro;obtain ⟨t,rfl⟩:=ri;obtain ⟨its,n,r,ho,hz⟩:=I.lst hp;obtain ⟨h1,h2,h3,h4⟩:=HF hj;have hl:=r.length;have hn:=Bh
 have I':Inv X pins σ (upd H p (.lst (xs.set j v))) { s with heap:=s.heap.update p (Obj.mapSeq (·.setIfInBounds j u)) } :=
  I.lstUpd hp ho (FV its n j u) (r.set rv j) (by rw[dP];exact hz) s.toks
 by_cases h0:0<=k
 ·have hk:k.toNat=j:=by
   rw[seqIndex_of h0 h4] at h1;exact cm h1
  exact PySem.W.ki_setAt ho h0 (by lia) (by rw[aP,<- hl];exact h4) (by rw[hk];exact ⟨_,I',q⟩)
 ·have hk:(k+(its.toArray.size:Int)).toNat=j:=by
   rw[seqIndex_neg (by lia) h3] at h1;rw[aP,<- hl];exact cm h1
  exact PySem.W.ki_setBack ho (by lia) (by rw[aP,<- hl];exact h3) (by lia) (by rw[hk];exact ⟨_,I',q⟩)
theorem C0 (lo hi:Option Int) (n:Nat):(sliceBounds lo hi none n).1=((HT.Es n 0 lo:Nat):Int)/\(sliceBounds lo hi none n).2.1=((HT.Es n n hi:Nat):Int)/\(sliceBounds lo hi none n).2.2=1:=by
 refine ⟨?_,?_,rfl⟩
 ·cases lo with
  | none=>simp [sliceBounds,HT.Es]
  | some i =>
   simp only[sliceBounds,HT.Es,Option.getD_none,show (1:Int) > 0 by decide,if_true];by_cases h:i < 0
   ·simp only[h,if_true] <;> lia
   ·simp only[h,if_false] <;> lia
 ·cases hi with
  | none=>simp [sliceBounds,HT.Es]
  | some i =>
   simp only[sliceBounds,HT.Es,Option.getD_none,show (1:Int) > 0 by decide,if_true];by_cases h:i < 0
   ·simp only[h,if_true] <;> lia
   ·simp only[h,if_false] <;> lia
theorem BJ (its:List Value) (lo hi:Option Int):slicePick its.toArray lo hi none=((its.drop (HT.Es its.length 0 lo)).take (HT.Es its.length its.length hi - HT.Es its.length 0 lo)).toArray:=by
 obtain ⟨h1,h2,h3⟩:=C0 lo hi its.toArray.size;unfold slicePick;rw[h1,h2,h3];simp only[sliceRange_one,pick_run,aP] <;> rfl
def O0 (K:PySem.W.Frag):V->Option Int->Option Int->Hp->VK->Prop:=fun x lo hi H Q=>∃a xs,x=.ref a/\bV K H a xs/\∀p,H p=none->Q (.ref p) (upd H p (.lst (wF xs lo hi)))
theorem C1:RS X (O0 X.K):=by
 intro pins s σ H x v vl vu lo hi sl Q I rx hs pl pu h;obtain ⟨a,xs,rfl,hx,q⟩:=h;cases rx;obtain ⟨its,r,ht,hz⟩:=I.list hx;have hlen:=r.length;refine ⟨"list",_,slot_list_getitem.lookup,ht.isList.typeIs,?_⟩;refine wpAny_getItem_list_slice ht.isList hs pl pu .none (by simp) ?_ (by rw[aP] <;> lia);rw[BJ,<- hlen];refine ⟨.ref s.heap.objs.size,_,I.laid (t':=s.toks) (o:=.lst (wF xs lo hi)) (fun b ob q=>Heap.get?_push_of_some _ q) (ao _) ?_,rfl,q _ (I.hok.fresh (ao _))⟩;exact ⟨aj (zC xs lo hi) hz,_,0,(r.drop (HT.Es xs.length 0 lo)).take (HT.Es xs.length xs.length hi - HT.Es xs.length 0 lo),Heap.get?_push_size _ rfl⟩
def yc:V->Bool
 | .non=>true
 | .bl _=>true
 | .int _=>true
 | .str _=>true
 | _=>false
def N7:V->V->Bool
 | .non,.non=>true
 | .bl a,.bl b=>a == b
 | .bl a,.int b=>(if a then 1 else 0) == b
 | .int a,.bl b=>a == (if b then 1 else 0)
 | .int a,.int b=>a == b
 | .str a,.str b=>a == b
 | _,_=>false
theorem Po {A:Around} {s:Shared} {y x:V} {u v:Value} (ry:RelV y u) (rx:RelV x v) (fy:yc y=true) (fx:yc x=true):SeqAt.EqAt A s u v (N7 y x):=by
 cases y with
 | non =>
  cases ry;cases x with
  | non=>cases rx;exact SeqAt.EqAt.same _
  | bl b=>cases rx;exact SeqAt.EqAt.none_bool b
  | int b=>obtain ⟨t,rfl⟩:=rx;exact SeqAt.EqAt.none_int b t
  | str b=>obtain ⟨t,rfl⟩:=rx;exact SeqAt.EqAt.none_str b t
  | _=>exact absurd (show false=true from fx) bA
 | bl a =>
  cases ry;cases x with
  | non=>cases rx;exact SeqAt.EqAt.bool_none a
  | bl b=>cases rx;exact SeqAt.EqAt.bool_bool a b
  | int b=>obtain ⟨t,rfl⟩:=rx;exact SeqAt.EqAt.bool_int a b t
  | str b=>obtain ⟨t,rfl⟩:=rx;exact SeqAt.EqAt.bool_str a b t
  | _=>exact absurd (show false=true from fx) bA
 | int a =>
  obtain ⟨t',rfl⟩:=ry;cases x with
  | non=>cases rx;exact SeqAt.EqAt.int_none a t'
  | bl b=>cases rx;exact SeqAt.EqAt.int_bool a t' b
  | int b=>obtain ⟨t,rfl⟩:=rx;exact SeqAt.EqAt.int_int a t' b t
  | str b=>obtain ⟨t,rfl⟩:=rx;exact SeqAt.EqAt.int_str a t' b t
  | _=>exact absurd (show false=true from fx) bA
 | str a =>
  obtain ⟨t',rfl⟩:=ry;cases x with
  | non=>cases rx;exact SeqAt.EqAt.str_none a t'
  | bl b=>cases rx;exact SeqAt.EqAt.str_bool a t' b
  | int b=>obtain ⟨t,rfl⟩:=rx;exact SeqAt.EqAt.str_int a t' b t
  | str b=>obtain ⟨t,rfl⟩:=rx;exact SeqAt.EqAt.str_str a t' b t
  | _=>exact absurd (show false=true from fx) bA
 | _=>exact absurd (show false=true from fy) bA
def Ni (x:V) (u:Value):Bool:=match u with
 | .none=>N7 .non x
 | .bool b=>N7 (.bl b) x
 | .int i _=>N7 (.int i) x
 | .str z _=>N7 (.str z) x
 | _=>false
theorem Ls {x y:V} {u:Value} (r:RelV y u) (f:yc y=true):Ni x u=N7 y x:=by
 cases y with
 | non=>cases r;rfl
 | bl b=>cases r;rfl
 | int i=>obtain ⟨t,rfl⟩:=r;rfl
 | str z=>obtain ⟨t,rfl⟩:=r;rfl
 | _=>exact absurd (show false=true from f) bA
theorem DS {x:V}:∀{xs:List V} {us:List Value},cP xs us->xs.all yc=true->us.any (Ni x)=xs.any fun y=>N7 y x
 | _,_,.nil,_=>rfl
 | y :: xs,u :: us,.cons r t,f=>by
  rw[List.all_cons,dZ] at f;rw[List.any_cons,List.any_cons,Ls r f.1,DS t f.2]
theorem A9 {A:Around} {s:Shared} {x:V} {v:Value} (rx:RelV x v) (fx:yc x=true):∀{xs:List V} {us:List Value},cP xs us->xs.all yc=true->∀u∈us,SeqAt.EqAt A s u v (Ni x u)
 | _,_,.nil,_=>fun u hu=>by cases hu
 | y :: xs,u :: us,.cons r t,f=>fun u' hu=>by
  rw[List.all_cons,dZ] at f;rcases aG.mp hu with rfl | hu
  ·rw[Ls r f.1];exact Po r rx f.1 fx
  ·exact A9 rx fx t f.2 u' hu
def Rk (x:V) (xs:List V):Bool:=xs.any fun y=>N7 y x
def rIn (K:PySem.W.Frag) (neg:Bool):R2:=fun x y H Q=>∃p xs,y=.ref p/\(bV K H p xs\/uc K H p xs)/\yc x=true/\xs.all yc=true/\Q (.bl (if neg then !Rk x xs else Rk x xs)) H
theorem Jd:Al X (compareOp .In) (rIn X.K false):=by
 intro pins s σ H x y v u Q I rx ry h;obtain ⟨p,xs,rfl,hq,fx,fs,q⟩:=h;cases ry;rcases hq with hq | hq
 ·obtain ⟨its,r,pl,hz⟩:=I.list hq;refine SeqAt.in_listAt (Ni x) pl.isList (fun w hw=>A9 rx fx r fs w (by simpa using hw)) ⟨.bl _,H,I,rfl,?_⟩;rw[show its.toArray.any (Ni x)=its.any (Ni x) by simp,DS r fs];exact q
 ·obtain ⟨its,r,pl,hz⟩:=I.tuple hq;refine SeqAt.in_tupleAt (Ni x) pl (fun w hw=>A9 rx fx r fs w (by simpa using hw)) ⟨.bl _,H,I,rfl,?_⟩;rw[show its.toArray.any (Ni x)=its.any (Ni x) by simp,DS r fs];exact q
theorem bu:uC X (.builtin "len") (fun xs H Q=>∃p ys,xs=[.ref p]/\(bV X.K H p ys\/uc X.K H p ys)/\Q (.int ys.length) H):=by
 intro pins s σ H xs us Q I r h;obtain ⟨p,ys,rfl,hq,q⟩:=h;obtain ⟨u,rfl,rx⟩:=vals1 r;cases rx;have hn:=Bh;rcases hq with hq | hq
 ·obtain ⟨its,r',pl,hz⟩:=I.list hq;have hlen:=r'.length;exact Calls.call_len_list pl.isList (by simp only[aP] <;> lia) ⟨.int ys.length,H,I.tok _,⟨s.toks+1,by rw[aP,hlen]⟩,q⟩
 ·obtain ⟨its,r',pl,hz⟩:=I.tuple hq;have hlen:=r'.length;exact len_tuple pl (by simp only[aP] <;> lia) ⟨.int ys.length,H,I.tok _,⟨s.toks+1,by rw[aP,hlen]⟩,q⟩
theorem tP:uC X (.type "list") (fun xs H Q=>∃p ys,xs=[.ref p]/\(bV X.K H p ys\/uc X.K H p ys)/\∀l,H l=none->Q (.ref l) (upd H l (.lst ys))):=by
 intro pins s σ H xs us Q I r h;obtain ⟨p,ys,rfl,hq,q⟩:=h;obtain ⟨u,rfl,rx⟩:=vals1 r;cases rx
 have fin:∀(its:List Value),cP ys its->ys.length<=sizeLine->∀(h':Heap) (c':Nat),(∀b o',s.heap.get? b=some o'->h'.get? b=some o') →
   h'.get? s.heap.objs.size=some { cls:=.type "list",dict:=none,data:=.seq its.toArray c',slots:=#[] }->EP X pins σ Q (.ref s.heap.objs.size) { s with heap:=h' }:=fun its r' hz h' c' kp e =>
  ⟨.ref s.heap.objs.size,_,I.laid (t':=s.toks) kp (ao _) (show kb X.prog X.w _ h' _ (.lst ys) from ⟨hz,its,c',r',e⟩),rfl,q _ (I.hok.fresh (ao _))⟩
 rcases hq with hq | hq
 ·obtain ⟨its,r',pl,hz⟩:=I.list hq;have hlen:=r'.length;obtain ⟨o,ho,hc,n,hd⟩:=pl.isList;exact call_list_seq p (.inl rfl) ho hc hd (fun h' c' kp e=>fin its r' hz h' c' kp e) (by simp only[aP] <;> lia)
 ·obtain ⟨its,r',pl,hz⟩:=I.tuple hq;have hlen:=r'.length;obtain ⟨o,ho,hc,n,hd⟩:=pl;exact call_list_seq p (.inr rfl) ho hc hd (fun h' c' kp e=>fin its r' hz h' c' kp e) (by simp only[aP] <;> lia)
def Ry (K:PySem.W.Frag) (T:String) (x:V) (H:Hp):Prop:=match x with
 | .str _=>T="str"
 | .int _=>T="int"
 | .ref p=>(T="list"/\∃xs,bV K H p xs)\/(T="tuple"/\∃o,K.lookup p=some o/\o.cls=.type "tuple"/\o.dict=none) \/
   (T="dict"/\((∃kvs,H p=some (.dK kvs))\/∃kvs,H p=some (.dT kvs)))\/(T="set"/\∃S n,H p=some (.set S n))
 | _=>False
theorem Og {pins:List (Addr×Obj)} {σ:St} {H:Hp} {s:Shared} {T:String} {x:V} {v:Value} (I:Inv X pins σ H s) (r:RelV x v) (ty:Ry X.K T x H) :
  s.TypeIs v T/\∀a,v=.ref a->∃ob,s.heap.get? a=some ob/\ob.dict=none:=by
 cases x with
 | str z =>
  obtain ⟨t,rfl⟩:=r;cases (show T="str" from ty);exact ⟨typeIs_str s z t,fun _ e=>nomatch e⟩
 | int i =>
  obtain ⟨t,rfl⟩:=r;cases (show T="int" from ty);exact ⟨typeIs_int s i t,fun _ e=>nomatch e⟩
 | ref p =>
  cases r;rcases ty with ⟨rfl,xs,hq⟩ | ⟨rfl,o,hk,hc,hd⟩ | ⟨rfl,hk⟩ | ⟨rfl,S,n,hk⟩
  ·obtain ⟨its,_,pl,_⟩:=I.list hq;refine ⟨pl.isList.typeIs,fun a e=>?_⟩;cases e;obtain ⟨o,n,e,c,hd,_⟩:=pl;exact ⟨o,e,hd⟩
  ·refine ⟨⟨o,I.kIn p o hk,hc⟩,fun a e=>?_⟩;cases e;exact ⟨o,I.kIn _ o hk,hd⟩
  ·have z:∃o,s.heap.get? p=some o/\o.ExactDict:=by
    rcases hk with ⟨kvs,hk⟩ | ⟨kvs,hk⟩
    ·obtain ⟨_,_,_,_,o,_,_,e,ex,_⟩:=I.hok p _ hk;exact ⟨o,e,ex⟩
    ·obtain ⟨_,_,_,_,o,_,_,e,ex,_⟩:=I.hok p _ hk;exact ⟨o,e,ex⟩
   obtain ⟨o,e,ex⟩:=z;refine ⟨⟨o,e,ex.1⟩,fun a e2=>?_⟩;cases e2;exact ⟨o,e,ex.2.1⟩
  ·obtain ⟨o,_,_,_,e,ex,_⟩:=I.hok p _ hk;refine ⟨⟨o,e,ex.1⟩,fun a e2=>?_⟩;cases e2;exact ⟨o,e,ex.2.1⟩
 | _=>exact False.elim ty
def tBM (K:PySem.W.Frag) (T:String) (r:V->List V->Hp->VK->Prop) (to:TE) (t:TA):TE:=fun σ H Q=>to σ H fun x H1=>Ry K T x H1/\t σ H1 fun xs H2=>r x xs H2 Q
variable {o e:Expr} {es:List Expr} {to:TE} {t:TA} {name:Str} {apos cpos:Pos} {T id:String} {r:V->List V->Hp->VK->Prop}
theorem AR (pa:PlainAttrs T) (slot:Slot T name id) (hty:typeOf (.builtin id)=pure (.type "method_descriptor")) (hm:MtR X id r) (ho:PE X o to) (ha:PA X (e :: es) t)
  (hbase:attributeBase o name X.env (eval o X.env)=eval o X.env:=by rfl)
  (hfew:((backTo cpos (starEach (e :: es) X.env)).all (fun x=>!x.1) && (backToKw cpos (keywordEach [] X.env)).all (fun x=>x.1.isSome)
   && decide ((e :: es).length+([]:List Keyword).length+(if ([]:List Keyword).isEmpty then 0 else 1) < 30))=true:=by rfl)
  (hline:(apos.endLine == cpos.line)=true:=by rfl) (hs:starEach (e :: es) X.env=(false,eval e X.env) :: starEach es X.env:=by rfl) (hplain:(backTo cpos (starEach es X.env)).any (·.1)=false:=by rfl) :
  PE X (.Call (.Attribute o name apos) (e :: es) [] cpos) (tBM X.K T r to t):=by
 intro pins s σ H Q I h;refine wpAny_Call_method_late hbase hfew hline rfl (gL (ho pins s σ H _ I h) fun v s1 ⟨x,H1,I1,r1,ty,q1⟩=>?_);obtain ⟨h1,h2⟩:=Og I1 r1 ty;refine ⟨T,id,pa,slot,hty,h1,h2,?_⟩;have hA:=ha cpos pins s1 σ H1 _ I1 q1;rw[hs] at hA ⊢;refine Calls.callWith_builtin (by show (false || (backTo cpos (starEach es X.env)).any (·.1))=false;rw[hplain] <;> rfl) (Calls.evalArgs_plain ?_);exact gL hA fun us s2 ⟨vs,H2,I2,r2,q2⟩=>hm pins s2 σ H2 x vs v us Q I2 r1 r2 q2
end
def MtM (X:Cx) (id:String) (r:V->List V->Hp->VK->Prop):Prop :=
 ∀(pins:List (Addr×Obj)) (s:Shared) (σ:St) (H:Hp) (x:V) (xs:List V) (v:Value) (us:List Value) (Q:VK),Inv X pins σ H s->RelV x v->cP xs us->r x xs H Q →
  wpAny (model X.prog X.w) X.A (call (.builtin id) (v :: us)) (EP X pins σ Q) X.xe s
theorem cP.one:∀{x:V} {us:List Value},cP [x] us->∃u,us=[u]/\RelV x u
 | _,_,.cons r .nil=>⟨_,rfl,r⟩
theorem cP.rep {xs:List V} {us:List Value} (h:cP xs us):∀k:Nat,cP (List.replicate k xs).flatten (List.replicate k us).flatten
 | 0=>.nil
 | k+1=>by
  rw[jh,jh,ik,ik];exact cP.append h (cP.rep h k)
theorem foldl_rep (its:List Value):∀(k:Nat) (acc:List Value),
  List.foldl (fun x1 x2=>x1++x2) acc.toArray (List.replicate k its.toArray)=(acc++(List.replicate k its).flatten).toArray
 | 0,acc=>by simp
 | k+1,acc=>by
  have e:acc.toArray++its.toArray=(acc++its).toArray:=by simp
  have e2:(acc++its)++(List.replicate k its).flatten=acc++(List.replicate (k+1) its).flatten:=by
   rw[jh,ik,cD]
  rw[<- e2,<- foldl_rep its k (acc++its),<- e,jh,List.foldl_cons]
section
variable {X:Cx} {pins:List (Addr×Obj)} {σ:St} {H:Hp} {s:Shared} {l b:Addr} {xs ys zs:List V}
theorem Inv.lset {its its':List Value} {n:Nat} {f:Array Value->Array Value} {t':Nat} (I:Inv X pins σ H s) (hH:H l=some (.lst xs))
  (e:s.heap.get? l=some { cls:=.type "list",data:=.seq its.toArray n }) (hf:f its.toArray=its'.toArray) (hv:cP ys its') (hz:ys.length<=sizeLine) :
  Inv X pins σ (upd H l (.lst ys)) { s with heap:=s.heap.update l (Obj.mapSeq f),toks:=t' }:=by
 have q:=nk e f;rw[hf] at q;refine I.write (x:=l) (e:=l) (by rw[hH];exact trivial) (.inl rfl) (fun b' u hb hu=>(Heap.get?_update_other s.heap (Obj.mapSeq f) (Ne.symm hb)).trans hu) ⟨_,q⟩ ?_;exact ⟨hz,its',_,hv,q⟩
theorem Inv.lnew {its:List Value} {t':Nat} (I:Inv X pins σ H s) (hv:cP ys its) (hz:ys.length<=sizeLine) :
  Inv X pins σ (upd H s.heap.objs.size (.lst ys)) { s with heap:=s.heap.push { cls:=.type "list",data:=.seq its.toArray },toks:=t' } :=
 I.laid (fun _ _ q=>Heap.get?_push_of_some _ q) (ao _) ⟨hz,its,0,hv,Heap.get?_push_size _ rfl⟩
theorem Inv.fresh (I:Inv X pins σ H s):H s.heap.objs.size=none:=I.hok.fresh (ao _)
theorem Inv.lstM (I:Inv X pins σ H s) (hH:H l=some (.lst xs)):xs.length<=sizeLine/\∃(its:List Value) (n:Nat),cP xs its/\xs.length=its.length/\s.heap.get? l=some { cls:=.type "list",data:=.seq its.toArray n }:=by
 obtain ⟨z,its,n,r,e⟩:=I.hok l _ hH;exact ⟨z,its,n,r,r.length,e⟩
theorem EC {n:Nat} (h:n<=sizeLine):Builtin.List.listTooLong n=false:=by
 unfold Builtin.List.listTooLong;exact decide_eq_false (by lia)
end
section
variable {X:Cx}
def GU:V->List V->Hp->VK->Prop:=fun x vs H Q=>∃l xs y,x=.ref l/\vs=[y]/\H l=some (.lst xs)/\xs.length < sizeLine/\Q .non (upd H l (.lst (xs++[y])))
theorem pB:MtM X "list.append" GU:=by
 intro pins s σ H x vs v us Q I rx rv h;obtain ⟨l,xs,y,rfl,rfl,hH,hz,q⟩:=h;cases rx;obtain ⟨u,rfl,ru⟩:=rv.one;obtain ⟨z,its,n,r,hl,e⟩:=I.lstM hH;refine call_meets F.slot_list_append ⟨_,e,rfl⟩ F.entry_list_append (F.args_list_append_2 _ _) (PySem.list_append l its.toArray n u (by rw[aP];lia)) ⟨e,?_⟩;refine ⟨.non,_,I.lset (its':=its++[u]) hH e (by simp) (r.append (.cons ru .nil)) ?_,rfl,q⟩;rw[av,bU]
 lia
def MR:V->List V->Hp->VK->Prop:=fun x vs H Q=>∃l b xs zs,x=.ref l/\vs=[.ref b]/\H l=some (.lst xs)/\H b=some (.lst zs)/\xs.length+zs.length<=sizeLine/\Q .non (upd H l (.lst (xs++zs)))
theorem Jk:MtM X "list.extend" MR:=by
 intro pins s σ H x vs v us Q I rx rv h;obtain ⟨l,b,xs,zs,rfl,rfl,hH,hB,hz,q⟩:=h;cases rx;obtain ⟨u,rfl,ru⟩:=rv.one;cases ru;obtain ⟨z,its,n,r,hl,e⟩:=I.lstM hH;obtain ⟨z2,its2,n2,r2,hl2,e2⟩:=I.lstM hB;have hsz:its.toArray.size+its2.toArray.size<=sizeLine:=by rw[aP,aP];lia
 have hlong:¬(!its.toArray.isEmpty && Builtin.List.listTooLong (its.toArray.size+its2.toArray.size))=true:=by
  rw[EC hsz,Bool.and_false];exact bA
 refine call_meets F.slot_list_extend ⟨_,e,rfl⟩ F.entry_list_extend (F.args_list_extend_2 _ _)
  (AutoSeq1.list_extend_list_list_0 l its.toArray n b its2.toArray n2 hlong (by rw[aP];lia) (by lia)) ⟨e,e2,?_⟩
 refine ⟨.non,_,I.lset (its':=its++its2) hH e (by simp) (r.append r2) ?_,rfl,q⟩;rw[av]
 lia
def QG:R2:=fun x y H Q=>∃l b xs zs,x=.ref l/\y=.ref b/\H l=some (.lst xs)/\H b=some (.lst zs)/\xs.length+zs.length<=sizeLine/\∀p,H p=none->Q (.ref p) (upd H p (.lst (xs++zs)))
theorem ky:Al X (binaryOp .Add) QG:=by
 intro pins s σ H x y v u Q I rx ry h;obtain ⟨l,b,xs,zs,rfl,rfl,hH,hB,hz,q⟩:=h;cases rx;cases ry;obtain ⟨z,its,n,r,hl,e⟩:=I.lstM hH;obtain ⟨z2,its2,n2,r2,hl2,e2⟩:=I.lstM hB;refine PySem.P.add_list e e2 ?_ (by rw[aP,aP];lia);have ea:its.toArray++its2.toArray=(its++its2).toArray:=by simp
 rw[ea];exact ⟨.ref _,_,I.lnew (t':=s.toks) (r.append r2) (by rw[av];lia),rfl,q _ I.fresh⟩
def QF:R2:=fun x y H Q=>∃l k xs,x=.ref l/\y=.int k/\H l=some (.lst xs)/\-(2^63)<=k/\k < 2^63/\xs.length*k.toNat<=sizeLine /\
 ∀p,H p=none->Q (.ref p) (upd H p (.lst (List.replicate k.toNat xs).flatten))
theorem len_rep {α:Type} (xs:List α) (k:Nat):(List.replicate k xs).flatten.length=k*xs.length:=by
 induction k with
 | zero=>simp
 | succ k ih=>rw[jh,ik,av,ih,dA,As]
theorem KN:Al X (binaryOp .Mult) QF:=by
 intro pins s σ H x y v u Q I rx ry h;obtain ⟨l,k,xs,rfl,rfl,hH,h1,h2,hz,q⟩:=h;cases rx;obtain ⟨t,rfl⟩:=ry;obtain ⟨z,its,n,r,hl,e⟩:=I.lstM hH;have hlen:its.toArray.size*k.toNat<=sizeLine:=by rw[aP,<- hl];exact hz
 have hcap:¬its.toArray.size*k.toNat > (2^63 - 1) / 8:=by
  have:(sizeLine:Nat)<=(2^63 - 1) / 8:=by decide
  lia
 have hfit:¬(!Builtin.List.listFitsIndex k)=true:=by
  rw[fitsIndex_both h1 h2];exact bA
 have hlong:¬Builtin.List.listTooLong (its.toArray.size*k.toNat)=true:=by
  rw[EC hlen];exact bA
 have hnew:List.foldl (fun x1 x2=>x1++x2) #[] (List.replicate (if its.toArray.isEmpty=true then 0 else k.toNat) its.toArray)=(List.replicate k.toNat its).flatten.toArray:=by
  have f0:∀m:Nat,List.foldl (fun x1 x2=>x1++x2) #[] (List.replicate m its.toArray)=(List.replicate m its).flatten.toArray:=fun m=>by
   have:=foldl_rep its m [];rw[cU] at this;exact this
  rw[f0];cases its with
  | nil=>simp
  | cons a r'=>rw[if_neg (by simp)]
 refine wpAny_binaryOp_repeat_ref (T:="list") (U:="int") (by decide) ⟨_,e,rfl⟩ (fun s'=>typeIs_int s' k t) noFill_list_mul F.fills_int_mul F.slot_int_rmul repeat_list F.slot_int_index.lookup
  (call_meets F.slot_int_rmul (typeIs_int s k t) F.entry_int_rmul (F.args_int_rmul_2 _ _) (int___rmul___int_list k t l its.toArray n)
   ⟨e,rfl,⟨_,e,rfl⟩,call_meets F.slot_list_mul ⟨_,e,rfl⟩ F.entry_list_mul (F.args_list_mul_2 _ _) (AutoListH.list___mul___list_int_3 l its.toArray n k t hfit hcap hlong) ⟨e,?_⟩⟩)
 rw[hnew];exact ⟨.ref _,_,I.lnew (t':=s.toks) (r.rep k.toNat) (by rw[len_rep,b7];exact hz),rfl,q _ I.fresh⟩
end
end L2
namespace Att
open PySem PySem.W PySem.Calls PyProof.Rows
theorem zX {P:Params} {h:Heap}:∀(ns:List Int) (vs:List Value),WellAll P h vs (ns.map WData.int)->IntsAre vs ns:=by
 intro ns
 induction ns with
 | nil =>
  intro vs w;rw[List.map_nil] at w;cases w;exact .nil
 | cons n ns ih =>
  intro vs w;rw[iu] at w;cases w with
  | cons a b =>
   cases a;exact .cons _ _ (ih _ b)
theorem IP {l:OpenLaw} {n:Nat} (hn:l.most=some n) {P:Params} {h:Heap} {args:List WData} {vals:List Value}
  (hpre:l.row.toRowW.claim.pre args=true) (hwl:WellAll P h vals args) :
  ∃a vs ns,vals=[Value.ref a]/\args=[WData.list (ns.map WData.int)]/\h.get? a=some { cls:=.type "list",data:=.seq vs.toArray }/\IntsAre vs ns/\ns.length<=n:=by
 have hsh:WShape.hasAll [] args [.list .int]=true:=(pre_splitW hpre).1;have hc:l.pre.holds [] { args:=args }=true:=(pre_splitW hpre).2;obtain ⟨d,r,rfl,h1,h2⟩:=hasAllW_cons hsh;obtain rfl:=hasAllW_nil h2;obtain ⟨xs,rfl,h3⟩:=hasW_list h1;obtain ⟨ns,rfl⟩:=items_int h3
 have hlen:ns.length<=n:=by
  unfold OpenLaw.pre at hc
  have h4:(WTm.not (.lt (.lit (.int (n:Int))) (.len (.arg 0)))).holds [] { args:=[.list (ns.map .int)] }=true:=by
   have h4:=(holds_andW hc).1;rw[hn] at h4;exact h4
  have h5:=condW_of h4 (w_not (w_lt w_lit (w_len_list (w_arg rfl))));rw[ar] at h5;refine Nat.le_of_not_lt fun q=>?_
  have q':(n:Int) < ((ns.length:Nat):Int):=by lia
  first
   | (rw[decide_eq_true q'] at h5;exact absurd h5 (by decide))
   | (simp at h5;lia)
 cases hwl with
 | cons w1 w2 =>
  cases w2;cases w1 with
  | list ho hall=>exact ⟨_,_,ns,rfl,rfl,ho,zX ns _ hall,hlen⟩
theorem Ja (l:OpenLaw) (args:List WData):l.row.toRowW.claim.post args (.bool true) args=true :=
 postW_of (r:=l.row.toRowW) (X:=(true == true))
  (show WShape.has [] (.bool true) .bool=true by first | rfl | decide | simp [WShape.has,WShape.arms,WShape.armsAll])
  (show (WTm.eq .res (.lit (.bool true))).value [] { args:=args,res:=some (.bool true),after:=args }=some (.bool (true == true)) from w_eq_bool (w_res rfl) w_lit) rfl
theorem E5 {l:OpenLaw} {n:Nat} {q:Program} {loose:List Str} {XP:(Str->Option Value)->Heap->Prop} {YP:World->Heap->Prop} {d:DefRec}
  (hn:l.most=some n) (hdf:d.params.defaults=[])
  (call:∀(w:World) (s₀ s₁:Shared) (mg mb:Str->Option Value) (fa:Addr) (o:Obj) (pm cd doc:Value) (a:Addr) (vs:List Value) (ns:List Int),
   Ground q loose [] XP w s₀ mg mb s₁.heap->YP w s₁.heap →
   s₁.heap.get? fa=some o->o.data=.func (docDef d.name d.params d.body d.scope pm cd doc)->s₁.heap.CodeRec cd d.name->mg d.name=some (.ref fa) →
   s₁.heap.get? a=some { cls:=.type "list",data:=.seq vs.toArray }->IntsAre vs ns->ns.length<=n->s₁.gens=#[] →
   codeAny (model l.prog w) callerA (.call (.ref fa) ⟨[.ref a],[]⟩) (fun r s'=>r=.ok (.ret (.bool true))/\OldK s₁.heap s'.heap/\s'.os=s₁.os/\AllBare s'.gens) s₁) :
  WalkO q loose XP YP l.row.toRowW d [] (fun f vs=>PySem.call f vs):=by
 intro w s₀ s₁ mg mb G Y fa o pm cd doc dV kV ho hd hcd hD hmg hg args vals as hpre hlay hrd hwl hlo;obtain rfl:dV=.none:=Dflts.none hD hdf;obtain rfl:kV=.none:=Dflts.noKw hD;obtain ⟨a,vs,ns,rfl,rfl,hobj,hints,hlen⟩:=IP hn hpre hwl;refine enter_call (codeAny_mono (call w s₀ s₁ mg mb fa o pm cd doc a vs ns G Y ho (fd_plain hd) hcd hmg hobj hints hlen hg) fun r s' hq=>?_);obtain ⟨rfl,h2,h3,h4⟩:=hq;exact ⟨.inl ⟨.bool true,.bool true,[],rfl,fun _=>rfl,.bool true,Ja l _,fun _=>⟨List.Pairwise.nil,fun _ hm=>(nomatch hm)⟩⟩,h2,h3,h4⟩
section
variable {prog:Program} {w:World} {A:Around} {E:Value->Shared->Prop} {s:Shared} {K:Frag}
end
end Att
namespace L2
open PySem PySem.Spec PyProof.Rows
theorem Cb:∀{vs:List Value} {ns:List Int},IntsAre vs ns->cP (ns.map V.int) vs
 | _,_,.nil=>.nil
 | _,_,.cons n t h=>.cons ⟨t,rfl⟩ (Cb h)
def Pz (H:Hp):Prop:=∀b,H b=none\/∃o xs,H b=some (.frz o (.lst xs))
theorem K7 {P : Program} {w : World} {K : PySem.W.Frag} {mg mb : Str → Option Value} {CX : LO} {k : Nat} {fa a : Addr} {fd : FuncData} {x : Str} {sp : Sp} {s₁ : Shared} {vs : List Value} {ns : List Int}
    (KX : K.In s₁.heap) (hns : s₁.heap.Ns mainGlobals mg) (hb : s₁.heap.Ns builtinsNs mb) (hbb : ∀ x : Str, x ≠ "__name__" → mb x = bootBuiltins x) (hlim : s₁.heap.NoLimit) (hg : s₁.gens = #[])
    (ha : s₁.heap.get? a = some { cls := .type "list", data := .seq vs.toArray }) (hi : IntsAre vs ns) (hl : ns.length ≤ sizeLine) (hr : nX k callerA)
    (F : ∀ base : Heap, K.In base → base.Ns mainGlobals mg → cN P w K mg base CX k fa fd [x] sp) (hbind : ∀ (s : Shared) (u : Value), BindsTo s fd ⟨[u], []⟩ [(x, u)])
    (hsp : ∀ H : Hp, Pz H → bV K H a (ns.map V.int) → sp [.ref a] H (fun v _ => v = .bl true) fun _ _ _ => False)
    (hCX : ∀ H e s', CX [] H s₁ (fun _ _ _ => False) e s' → False) :
    codeAny (model P w) callerA (.call (.ref fa) ⟨[.ref a], []⟩) (fun r s' => r = .ok (.ret (.bool true)) /\ OldK s₁.heap s'.heap /\ s'.os = s₁.os /\ AllBare s'.gens) s₁ := by
  have rv := Cb hi;have lenV := hi.length
  have core : ∀ H : Hp, Pz H → bV K H a (ns.map V.int) → Am P w H s₁.heap → (∀ b, H b ≠ none → b = a) → (H a ≠ none → K.lookup a = none) →
      codeAny (model P w) callerA (.call (.ref fa) ⟨[.ref a], []⟩) (fun r s' => r = .ok (.ret (.bool true)) /\ OldK s₁.heap s'.heap /\ s'.os = s₁.os /\ AllBare s'.gens) s₁ := by
    intro H hO hS hok hA hK;have base_of : ∀ {b : Addr} {o : Obj}, s₁.heap.get? b = some o → H b = none → (Dz s₁.heap H).get? b = some o := fun e n => Lf e n
    have noA : ∀ {b : Addr} {o : Obj} {es : Array DictEntry} {ep : Nat}, s₁.heap.get? b = some o → o.data = .dict es ep → H b = none := fun {b o es ep} e d => by
      cases q : H b with
      | none => rfl
      | some u =>
        have e' : b = a := hA b (by rw [q]; simp);subst e';rw [ha] at e; cases e;have d' : Data.seq vs.toArray _ = Data.dict es ep := d;cases d'
    have nsK : ∀ {b : Addr} {m : Str → Option Value}, s₁.heap.Ns b m → (Dz s₁.heap H).Ns b m := fun {b m} ⟨o, es, ep, e, d, r⟩ => ⟨o, es, ep, base_of e (noA e d), d, r⟩
    have hKb : K.In (Dz s₁.heap H) := fun b o e => base_of (KX b o e) (by
      cases q : H b with
      | none => rfl
      | some u =>
        have e' : b = a := hA b (by rw [q]; simp);subst e';rw [hK (by rw [q]; simp)] at e; cases e)
    have hM : Mod K mg (Dz s₁.heap H) := ⟨hKb, nsK hns, ⟨mb, nsK hb, hbb⟩, let ⟨mc, h1, h2⟩ := hlim; ⟨mc, nsK h1, h2⟩⟩;have e0 : GB P w K mg (Dz s₁.heap H) callerA [] s₁ H := ⟨rfl, hM, fun b o e => M8 e, Nat.le_of_eq (Ju _ _), trivial, fun b hb => absurd (show b ∈ ([] : List Addr) from hb) (by simp), hok, .of_eq hg⟩;refine codeAny_mono ((F _ hKb (nsK hns)).run callerA [] s₁ H ⟨[.ref a], []⟩ [.ref a] [.ref a] _ _ hr e0 (hbind s₁ (.ref a)) (.cons rfl .nil) (hsp H hO hS)) fun r s' h => ?_
    cases r with
    | error e => exact (hCX H e s' h).elim
    | ok fl =>
      cases fl with
      | next => exact False.elim h
      | brk => exact False.elim h
      | cont => exact False.elim h
      | ret u =>
        obtain ⟨v, H', os, bare, un, hok', r', q⟩ := h;have q' : v = .bl true := q;subst q';obtain rfl : u = Value.bool true := r';refine ⟨rfl, OldK.of_keep fun b o e => ?_, os, bare⟩;cases q : H b with
        | none => exact un.keep b o e q (by intro z; exact absurd (show b ∈ ([] : List Addr) from z) (by simp)) (by simp)
        | some u =>
          rcases hO b with z | ⟨ob, xs, z⟩
          · rw [q] at z; cases z
          · have z2 := un.frzs b ob _ z;obtain ⟨e1, _⟩ := hok b _ z;obtain ⟨e2, _⟩ := hok' b _ z2;rw [e] at e1; cases e1;exact e2
  cases hk : K.lookup a with
  | some o =>
    have e := KX a o hk;rw [ha] at e;cases e;refine core (fun _ => none) (fun _ => .inl rfl) (.inr ⟨_, vs.toArray, _, hk, rfl, rfl, rfl, by rw [aP, lenV]; exact hl, by simpa using rv⟩) (fun b u z => by have z' : (none : Option HO) = some u := z; cases z') (fun b z => absurd rfl z) fun z => absurd rfl z
  | none =>
    refine core (fun b => if b = a then some (.frz { cls := .type "list", data := .seq vs.toArray } (.lst (ns.map V.int))) else none) (fun b => ?_) (.inl (.inr ⟨{ cls := .type "list", data := .seq vs.toArray }, if_pos rfl⟩)) (fun b u z => ?_) (fun b z => ?_) fun _ => hk
    · by_cases hb : b = a
      · exact .inr ⟨_, _, if_pos hb⟩
      · exact .inl (if_neg hb)
    · by_cases hb : b = a
      · have z' := (if_pos hb).symm.trans z;cases z';subst hb;exact ⟨ha, by rw [ar]; exact hl, vs, _, rv, ha⟩
      · have z' := (if_neg hb).symm.trans z;cases z'
    · by_cases hb : b = a
      · exact hb
      · exact absurd (if_neg hb) z
theorem L4 {l:PySem.W.OpenLaw} {n k:Nat} {q:Program} {loose:List Str} {XP:(Str->Option Value)->Heap->Prop} {YP:World->Heap->Prop} {d:DefRec} {K:Params->PySem.W.Frag} {CX:World->LO} {sp:World->Sp} {x:Str}
  (hn:l.most=some n) (hn2:n<=sizeLine) (hdf:d.params.defaults=[]) (hr:nX k callerA)
  (hY:∀(w:World) (h:Heap),YP w h->(K w.params).In h)
  (F:∀(w:World) (mg:Str->Option Value) (fa:Addr) (h:Heap),(K w.params).In h->h.Ns mainGlobals mg->mg d.name=some (.ref fa) →
   ∃fd:FuncData,(∀(s:Shared) (u:Value),BindsTo s fd ⟨[u],[]⟩ [(x,u)]) /\
    ∀base:Heap,(K w.params).In base->base.Ns mainGlobals mg->cN l.prog w (K w.params) mg base (CX w) k fa fd [x] (sp w))
  (hsp:∀(w:World) (H:Hp) (a:Addr) (ns:List Int),ns.length<=n->Pz H->bV (K w.params) H a (ns.map V.int)->sp w [.ref a] H (fun v _=>v=.bl true) fun _ _ _=>False)
  (hCX:∀(w:World) (H:Hp) (s:Shared) (e:Value) (s':Shared),CX w [] H s (fun _ _ _=>False) e s'->False) :
  PySem.W.WalkO q loose XP YP l.row.toRowW d [] (fun f vs=>PySem.call f vs):=by
 refine Att.E5 hn hdf fun w s₀ s₁ mg mb fa o pm cd doc a vs ns G Y ho hd hcd hmg hobj hints hlen hg=>?_
 have KX:=hY w _ Y;obtain ⟨fd,hb,hF⟩:=F w mg fa _ KX G.T.g hmg;exact K7 KX G.T.g G.T.b G.T.builtins G.T.nolimit hg hobj hints (aj hlen hn2) hr hF hb (fun H hO hS=>hsp w H a ns hlen hO hS) fun H e s'=>hCX w H s₁ e s'
end L2


namespace L2
open PySem PySem.Spec PyProof.Rows
def inClass (s:Stmt) (j:Nat):Stmt:=match s with
 | .ClassDef _ _ _ body _ _ _ _ _ _ _=>body.getD j (.Pass ⟨0,0,0,0⟩)
 | _=>.Pass ⟨0,0,0,0⟩
def br (s:Stmt):Arguments:=match s with
 | .FunctionDef _ a _ _ _ _ _ _ _ _=>a
 | _=>{ posonlyargs:=[],args:=[],vararg:=none,kwonlyargs:=[],kw_defaults:=[],kwarg:=none,defaults:=[] }
def bc (s:Stmt):List Stmt:=match s with
 | .FunctionDef _ _ b _ _ _ _ _ _ _=>b
 | _=>[]
def ax (s:Stmt):Scope:=match s with
 | .FunctionDef _ _ _ _ _ _ sc _ _ _=>sc
 | _=>{ kind:=.function,names:=[],isGenerator:=false,isCoroutine:=false }
abbrev gK:LO:=fun _ _ _ _ _ _=>False
abbrev E0:XK:=fun _ _ _=>False
theorem KL {X:Cx}:zb gK X E0:=fun _ _ _ _ _ _ _ h=>h.elim
theorem cL {X:Cx} {k k':Nat} {f:Addr} {fd:FuncData} {ps:List Str} {sp:Sp} {x:Str} {p pos:Pos} {e:Expr} {es:List Expr} {t:TA} (F:cN X.prog X.w X.K X.mg X.base gK k f fd ps sp) (hr:nX k' X.A) (hm:X.mg x=some (.ref f)) (hk:PySem.W.keepIn X.K (.ref f)=true) (hb:Binds X.K fd ps []) (ha:PA X (e::es) t) (hle:k<=k':=by decide) (hg:Gl X x:=by exact rfl) (hdb:(x==("__debug__":Str))=false:=by decide) (he:starEach (e::es) X.env=(false,eval e X.env)::starEach es X.env:=by rfl) (hpl:(backTo pos (starEach es X.env)).any (·.1)=false:=by rfl):PE X (.Call (.Name x p) (e::es) [] pos) (JW sp [] E0 t):=MY F (hr.mono hle) hg hm hk hb .nil KL ha hdb he hpl
structure h8 (K:PySem.W.Frag) (x qual:Str) (st:Stmt) (f:Addr) (fd:FuncData):Prop where
 ex:∃(oc:Value) (od:Option Addr) (kV doc pm:Value) (an:Option Addr) (cdv ct:Value) (osl:Array (Option Value)),
  fd=PySem.W.fnOf x qual (br st) (bc st) (ax st) .none kV doc pm an cdv ct/\K.lookup f=some ⟨oc,od,.func fd,osl⟩/\PySem.W.codeIn K cdv qual=true
 kp:PySem.W.keepIn K (.ref f)=true
section
variable {P:Program} {w:World} {K:PySem.W.Frag} {mg:Str->Option Value} {base:Heap}
theorem h8.ok {x qual:Str} {st:Stmt} {f:Addr} {fd:FuncData} {N ps:List Str} {k:Nat} {sp:Sp} (F:h8 K x qual st f fd) (S:bx N ps (ax st)) (len:∀vs H Q E,sp vs H Q E->vs.length=ps.length)
  (hbody:∀(cdv:Value) (A:Around) (outer:List Env) (s:Shared) (H:Hp) (vs:List V) (Q:VK) (E:XK),nX k (A.deeper (envOfC qual (ax st) s.heap.objs.size f cdv))->sp vs H Q E →
   ∃t,Gy (Jy gK P w K mg base N qual (ax st) f cdv A outer s H E).nox (bc st) t/\t { nx:=fun _ H'=>Q .non H',rt:=Q } (start N vs) H):cN P w K mg base gK (k+1) f fd ps sp:=by
 obtain ⟨oc,od,kV,doc,pm,an,cdv,ct,osl,rfl,lk,hcd⟩:=F.ex;refine QW lk hcd S len fun A outer s H vs Q E hr hsp=>?_
 obtain ⟨t,h,q⟩:=hbody cdv A outer s H vs Q E hr hsp;exact ⟨t,h.nox,q⟩
theorem h8.binds {x qual:Str} {st:Stmt} {f:Addr} {fd:FuncData} {ps:List Str} (F:h8 K x qual st f fd)
  (h:∀(kV doc pm:Value) (an:Option Addr) (cdv ct:Value) (us:List Value),us.length=ps.length->bindArgs (PySem.W.fnOf x qual (br st) (bc st) (ax st) .none kV doc pm an cdv ct) ⟨us,[]⟩=pure (ps.zip us)):Binds K fd ps []:=by
 obtain ⟨oc,od,kV,doc,pm,an,cdv,ct,osl,rfl,lk,hcd⟩:=F.ex;exact .all (h kV doc pm an cdv ct)
theorem bQ {x qual:Str} {st:Stmt} {f:Addr} {oc:Value} {od an:Option Addr} {osl:Array (Option Value)} {kV doc pm cdv ct:Value} (l:K.lookup f=some ⟨oc,od,.func (PySem.W.fnOf x qual (br st) (bc st) (ax st) .none kV doc pm an cdv ct),osl⟩)
  (c:PySem.W.codeIn K cdv qual=true) (k:PySem.W.keepIn K (.ref f)=true):h8 K x qual st f (PySem.W.fnOf x qual (br st) (bc st) (ax st) .none kV doc pm an cdv ct):=⟨⟨oc,od,kV,doc,pm,an,cdv,ct,osl,rfl,l,c⟩,k⟩
end
theorem bO {n:Nat} (h:n<=1000):n < sizeLine:=bG h (by decide)
section
variable {X:Cx}
theorem pv (i:Nat) {x:Str} {pos:Pos} (hN:X.N[i]?=some x:=by rfl) (hv:RO X.env.scope x:=by first | exact Or.inl rfl | exact Or.inr (Or.inl rfl) | exact Or.inr (Or.inr rfl)) (hd:(x == ("__debug__":Str))=false:=by decide)
  (hcd:(x == ("__classdict__":Str))=false:=by decide):PE X (.Name x pos) (Oj i):=O4 hN hv hd hcd
end
theorem Nb {A B:Prop} (h:B):if false=true then A else B:=by
 rw[if_neg bA];exact h
theorem QN {A B:Prop} (h:A):if true=true then A else B:=by
 rw[if_pos rfl];exact h
theorem iq {c A B:Prop} [Decidable c] (h1:c->A) (h2:¬c->B):if c then A else B:=by
 by_cases h:c
 ·rw[if_pos h];exact h1 h
 ·rw[if_neg h];exact h2 h
def aL (H H':Hp):Prop:=∀b o,H b=some o->H' b=some o
theorem aL.refl (H:Hp):aL H H:=fun _ _ h=>h
theorem aL.trans {H H1 H2:Hp} (a:aL H H1) (b:aL H1 H2):aL H H2:=fun c o h=>b c o (a c o h)
theorem aL.free {H H':Hp} (e:aL H H') {l:Addr} (h:H' l=Option.none):H l=Option.none:=by
 cases q:H l with
 | none=>rfl
 | some o =>
  rw[e l o q] at h;cases h
theorem aL.seq {K:PySem.W.Frag} {H H':Hp} {a:Addr} {xs:List V} (e:aL H H') (h:bV K H a xs):bV K H' a xs:=by
 rcases h with (h | ⟨o,h⟩) | h
 ·exact .inl (.inl (e _ _ h))
 ·exact .inl (.inr ⟨o,e _ _ h⟩)
 ·exact .inr h
end L2
namespace Nm
theorem Lj (a b:Int):Int.gcd b (a.fmod b)=Int.gcd a b:=by
 rw[Int.fmod_def,nB a b];apply Nat.dvd_antisymm
 ·apply LS
  ·exact fb ..
  ·have h1:=fb (a:=b) (b:=a - b*a.fdiv b);have h2:=fI (a:=b) (b:=a - b*a.fdiv b);have h3:=Int.dvd_add h2 (pV (c:=a.fdiv b) h1);rwa [Int.sub_add_cancel] at h3
 ·apply LS
  ·exact fb ..
  ·exact Int.dvd_sub (fI ..) (pV (fb ..))
theorem Lk (a b:Int):Int.gcd b (a % b)=Int.gcd a b:=by
 rw[Int.emod_def,nB a b];apply Nat.dvd_antisymm
 ·apply LS
  ·exact fb ..
  ·have h1:=fb (a:=b) (b:=a - b*(a / b));have h2:=fI (a:=b) (b:=a - b*(a / b));have h3:=Int.dvd_add h2 (pV (c:=a / b) h1);rwa [Int.sub_add_cancel] at h3
 ·apply LS
  ·exact fb ..
  ·exact Int.dvd_sub (fI ..) (pV (fb ..))
theorem Nh (a b:Int) (h:b≠0):(a.fmod b).natAbs < b.natAbs:=by
 rcases Int.lt_or_gt_of_ne h with h | h
 ·have e:a.fmod b=-((-a).fmod (-b)):=by
   have:=Int.neg_fmod_neg (-a) (-b);simp only[Int.neg_neg] at this;exact this
  have h1:=Int.fmod_nonneg_of_pos (-a) (b:=-b) (by lia);have h2:=Int.fmod_lt_of_pos (-a) (b:=-b) (by lia)
  lia
 ·have h1:=Int.fmod_nonneg_of_pos a h;have h2:=Int.fmod_lt_of_pos a h
  lia
def g (t b:Int):Int:=(Int.gcd t b:Int)
def lo (t b:Int):Int:=t / g t b
def hi (t b:Int):Int:=b / g t b
theorem Bm {t b:Int} (h:b≠0):0 < g t b:=by
 unfold g;have:0 < Int.gcd t b:=LZ _ h
 lia
theorem Bf (t b:Int):lo t b*g t b=t:=Int.ediv_mul_cancel (fb ..)
theorem yU (t b:Int):hi t b*g t b=b:=Int.ediv_mul_cancel (fI ..)
theorem DA {t b:Int} (h:0 < b):0 < hi t b:=by
 have h1:=Bm (t:=t) (b:=b) (by lia);have h2:=yU t b;by_cases h3:0 < hi t b
 ·exact h3
 ·have:hi t b*g t b<=0:=Int.mul_nonpos_of_nonpos_of_nonneg (by lia) (by lia)
  lia
theorem Bc {t b:Int} (h:b≠0):Int.gcd (lo t b) (hi t b)=1:=by
 have h1:=Bm (t:=t) h;have e:=Int.gcd_mul_right (lo t b) (g t b) (hi t b);rw[Bf,yU] at e;have e2:(g t b).natAbs=Int.gcd t b:=by unfold g;simp
 rw[e2] at e;have h2:0 < Int.gcd t b:=LZ _ h;exact Nat.eq_of_mul_eq_mul_right h2 (by rw[<- e,uD])
theorem Be (t b : Int) : lo t b * b = t * hi t b := by
  have h1 := Bf t b;have h2 := yU t b
  calc lo t b * b = lo t b * (hi t b * g t b) := by rw [h2]
    _ = (lo t b * g t b) * hi t b := by rw [fR (hi t b), <- dI]
    _ = t * hi t b := by rw [h1]
theorem tD {a b c:Int} (h:Int.gcd a b=1) (hd:a∣b*c):a∣c:=by
 have h1:a.natAbs∣b.natAbs*c.natAbs:=by rw[<- cY];exact gJ.mpr hd
 have h2:Nat.Coprime a.natAbs b.natAbs:=h;exact gJ.mp (h2.dvd_of_dvd_mul_left h1)
theorem uniq {a b c d:Int} (hb:0 < b) (hd:0 < d) (h1:Int.gcd a b=1) (h2:Int.gcd c d=1) (e:a*d=c*b):a=c/\b=d:=by
 have e1:b∣d:=by
  have:b∣a*d:=⟨c,by rw[e,fR]⟩;exact tD (by rw[nB];exact h1) this
 have e2:d∣b:=by
  have:d∣c*b:=⟨a,by rw[<- e,fR]⟩;exact tD (by rw[nB];exact h2) this
 have e3:b=d:=Int.dvd_antisymm (by lia) (by lia) e1 e2;subst e3;exact ⟨xj (by lia) e,rfl⟩
theorem Pb {t b c d : Int} (hb : 0 < b) (hd : 0 < d) (h2 : Int.gcd c d = 1) (e : t * d = c * b) : lo t b = c /\ hi t b = d := by
  refine uniq (DA hb) hd (Bc (by lia)) h2 ?_;have h := Be t b;have hb' : b ≠ 0 := by lia
  apply xj hb'
  calc lo t b * d * b = lo t b * b * d := by rw [dI, fR d b, <- dI]
    _ = t * hi t b * d := by rw [h]
    _ = t * d * hi t b := by rw [dI, fR (hi t b), <- dI]
    _ = c * b * hi t b := by rw [e]
    _ = c * hi t b * b := by rw [dI, fR b, <- dI]
theorem Pc {a b:Int} (hb:0 < b) (h:Int.gcd a b=1):lo a b=a/\hi a b=b:=Pb hb hb h rfl
theorem rH {a b:Int} (h:b≠0):a.natAbs<=(a*b).natAbs:=by
 rw[cY];exact dn _ (Int.natAbs_pos.mpr h)
theorem lo_le {t b:Int} (h:b≠0):(lo t b).natAbs<=t.natAbs:=by
 have:=rH (a:=lo t b) (b:=g t b) (by have:=Bm (t:=t) h;lia);rwa [Bf] at this
theorem N2 {t b:Int} (h:b≠0):(hi t b).natAbs<=b.natAbs:=by
 have:=rH (a:=hi t b) (b:=g t b) (by have:=Bm (t:=t) h;lia);rwa [yU] at this
def Sz (k:Nat) (x:Int):Prop:=x.natAbs < 2^k
theorem Sz.mono {j k:Nat} {x:Int} (h:Sz j x) (l:j<=k):Sz k x:=bF h (au (by decide) l)
theorem Sz.mul {j k:Nat} {x y:Int} (h1:Sz j x) (h2:Sz k y):Sz (j+k) (x*y):=by
 unfold Sz at *
 rw[cY,bf];exact Nat.mul_lt_mul'' h1 h2
theorem Sz.neg {k:Nat} {x:Int} (h:Sz k x):Sz k (-x):=by unfold Sz at *;rw[xi];exact h
theorem Sz.le {k:Nat} {x y:Int} (h:Sz k y) (l:x.natAbs<=y.natAbs):Sz k x:=bG l h
theorem Sz.hi {k:Nat} {t b:Int} (h:Sz k b) (hb:b≠0):Sz k (hi t b):=h.le (N2 hb)
end Nm
namespace L2
open PySem PySem.Spec PyProof.Rows
structure Bk (env:Env) (scope:Scope) (own capN:List Str):Prop where
 kind:scope.kind=.function
 locs:∀y∈scope.names,y.2=.local->scope.names.lookup y.1=some .local
 ownk:∀x∈own,scope.names.lookup x=some .local\/scope.names.lookup x=some .cell
 cells:∀y∈scope.names,y.2=.cell->y.1∈own/\y.1∉capN
 frees:∀y∈scope.names,y.2=.free->y.1∈capN/\y.1∉own
 capf:∀x∈capN,scope.names.lookup x=some .free
 caps:∀x∈capN,env.kindOf x=some .cell\/env.kindOf x=some .free
def Rl (scope:Scope) (own capN:List Str):Bool :=
 decide (scope.kind=.function) && scope.names.all (fun y=>decide (y.2=.local->scope.names.lookup y.1=some .local) && decide (y.2=.cell->y.1∈own/\y.1∉capN) && decide (y.2=.free->y.1∈capN/\y.1∉own)) &&
 own.all (fun x=>decide (scope.names.lookup x=some .local\/scope.names.lookup x=some .cell)) && capN.all fun x=>decide (scope.names.lookup x=some .free)
def CA (env:Env):List Str->Bool
 | []=>true
 | x :: r=>(match env.kindOf x with | some .cell=>true | some .free=>true | _=>false) && CA env r
theorem EY {env:Env}:∀{capN:List Str},CA env capN=true->∀x∈capN,env.kindOf x=some .cell\/env.kindOf x=some .free
 | [],_,_,h=>nomatch h
 | y :: r,h,x,hx=>by
  unfold CA at h;rw[dZ] at h;rcases aG.mp hx with e | hx
  ·subst e;have h1:=h.1
   split at h1
   ·rename_i e;exact .inl e
   ·rename_i e;exact .inr e
   ·cases h1
  ·exact EY h.2 x hx
theorem Bk.of {env:Env} {scope:Scope} {own capN:List Str} (h1:Rl scope own capN=true) (h2:CA env capN=true):Bk env scope own capN:=by
 unfold Rl at h1;rw[dZ,dZ,dZ,sR,sR,sR] at h1;obtain ⟨⟨⟨a1,a2⟩,a3⟩,a4⟩:=h1
 have a2':∀y∈scope.names,(y.2=.local->scope.names.lookup y.1=some .local)/\(y.2=.cell->y.1∈own/\y.1∉capN)/\(y.2=.free->y.1∈capN/\y.1∉own):=fun y hy=>by
  have q:=a2 y hy;rw[dZ,dZ] at q;exact ⟨of_decide_eq_true q.1.1,of_decide_eq_true q.1.2,of_decide_eq_true q.2⟩
 exact ⟨of_decide_eq_true a1,fun y hy=>(a2' y hy).1,fun x hx=>of_decide_eq_true (a3 x hx),fun y hy=>(a2' y hy).2.1,fun y hy=>(a2' y hy).2.2,fun x hx=>of_decide_eq_true (a4 x hx),EY h2⟩
def d9 (env:Env):List (Str×NameKind)->List (Str×Addr)->List (Str×Addr)
 | [],acc=>acc
 | (n,k) :: r,acc=>if k == .free then d9 env r ((n,(env.cells.lookup n).getD 0) :: acc) else d9 env r acc
theorem jb (env:Env):∀(names:List (Str×NameKind)) (acc:List (Str×Addr)),d9 env names acc=d9 env names []++acc
 | [],_=>rfl
 | (n,k) :: r,acc=>by
  unfold d9
  split
  ·rw[jb env r (_ :: acc),jb env r [_],cD];rfl
  ·exact jb env r acc
theorem tL (env:Env):∀(names:List (Str×NameKind)) {x:Str} {c:Addr},(x,c)∈d9 env names []->(x,NameKind.free)∈names/\c=(env.cells.lookup x).getD 0
 | [],_,_,h=>nomatch h
 | (n,k) :: r,x,c,h=>by
  unfold d9 at h
  split at h
  ·rename_i hk
   have ek:k=.free:=by simpa using hk
   subst ek;rw[jb] at h;rcases az.mp h with h | h
   ·have q:=tL env r h;exact ⟨cb _ q.1,q.2⟩
   ·have e:(x,c)=(n,(env.cells.lookup n).getD 0):=by simpa using h
    cases e;exact ⟨du,rfl⟩
  ·have q:=tL env r h;exact ⟨cb _ q.1,q.2⟩
theorem jI {α:Type}:∀{l:List (Str×α)} {x:Str} {c:α},(x,c)∈l->∃d,l.lookup x=some d
 | (k,v) :: r,x,c,h=>by
  rw[nA];cases hb:x == k with
  | true=>exact ⟨v,rfl⟩
  | false =>
   rcases aG.mp h with e | h
   ·cases e;simp at hb
   ·exact jI h
theorem tO (env:Env):∀(names:List (Str×NameKind)) {x:Str},(x,NameKind.free)∈names->∃c,(x,c)∈d9 env names []
 | (n,k) :: r,x,h=>by
  unfold d9;rcases aG.mp h with e | h
  ·cases e;rw[if_pos (by decide),jb];exact ⟨_,bC _ du⟩
  ·obtain ⟨c,q⟩:=tO env r h
   split
   ·rw[jb];exact ⟨c,dY _ q⟩
   ·exact ⟨c,q⟩
theorem Bq {scope : Scope} {env : Env} (h : ∀ y ∈ scope.names, y.2 = .free → ∃ c, env.cells.lookup y.1 = some c) : closureFor scope env = pure (d9 env scope.names []) := by
  have gen : ∀ (names : List (Str × NameKind)) (acc : List (Str × Addr)) (f : Str × NameKind → List (Str × Addr) → Sem (ForInStep (List (Str × Addr)))),
      (∀ name kind cells, f (name, kind) cells = if kind == .free then (do let a <- cellOf env name; pure (.yield ((name, a) :: cells))) else pure (.yield cells)) →
      (∀ y ∈ names, y.2 = .free → ∃ c, env.cells.lookup y.1 = some c) → forIn names acc f = pure (d9 env names acc) := by
    intro names
    induction names with
    | nil => intro acc f hf _; rw [CO]; rfl
    | cons y r ih =>
      intro acc f hf hh;obtain ⟨n, k⟩ := y;rw [LY, hf];unfold d9;by_cases hk : (k == NameKind.free) = true
      · obtain ⟨c, hc⟩ := hh (n, k) du (by simpa using hk);have hc' : env.cells.lookup n = some c := hc;have e : cellOf env n = pure c := by unfold cellOf; rw [hc']
        rw [if_pos hk, if_pos hk, e, hc'];simp only [pure_bind, Option.getD_some];exact ih _ f hf fun y hy => hh y (cb _ hy)
      · rw [if_neg hk, if_neg hk];simp only [pure_bind];exact ih _ f hf fun y hy => hh y (cb _ hy)
  simp only [closureFor];rw [gen scope.names [] _ (fun name kind cells => by cases hkc : kind == NameKind.free <;> simp [hkc]) h];rfl

theorem fL:∀(names:List (Str×NameKind)) (n:Nat) (acc:List (Str×Addr)),cellsFrom n names acc=cellsFrom n names []++acc
 | [],_,_=>rfl
 | (x,k) :: r,n,acc=>by
  unfold cellsFrom
  split
  ·rw[fL r (n+1) (_ :: acc),fL r (n+1) [_],cD];rfl
  ·exact fL r n acc
theorem mI:∀(names:List (Str×NameKind)) (n:Nat) {x:Str} {c:Addr},(x,c)∈cellsFrom n names []->(x,NameKind.cell)∈names
 | [],_,_,_,h=>nomatch h
 | (y,k) :: r,n,x,c,h=>by
  unfold cellsFrom at h
  split at h
  ·rename_i hk
   have ek:k=.cell:=by simpa using hk
   subst ek;rw[fL] at h;rcases az.mp h with h | h
   ·exact cb _ (mI r _ h)
   ·have e:(x,c)=(y,n):=by simpa using h
    cases e;exact du
  ·exact cb _ (mI r _ h)
def yZ (env:Env) (scope:Scope) (C:Addr):Env :=
 { scope:=relabel scope env,locals:=C,globals:=env.globals,cells:=cellsFrom (C+1) scope.names (d9 env scope.names []),qual:=env.qual,func:=none,code:=env.code,frame:=env.frame,builtins:=env.builtins }
theorem EG {M:Model} {A:Around} {E:Value->Shared->Prop} {s:Shared} {scope:Scope} {g:Addr} {cl:List (Str×Addr)} {qual:Str} {env:Env} {Q:Env->Shared->Prop}
  (h:Q (newEnv scope s.heap.objs.size g (cellsFrom (s.heap.objs.size+1) scope.names cl) qual none .none (some env) builtinsNs) { s with heap:=pushCells (s.heap.push { cls:=.type "dict",data:=.dict #[] }) scope.names }) :
  wpAny M A (newFunctionEnv scope g cl [] qual none .none (some env)) Q E s:=by
 simp only[newFunctionEnv,Option.isSome_some,if_true];refine wpAny_bind (wpAny_alloc ?_);refine wpAny_bind (wpAny_layCells _ (fun name kind cells=>by cases hkc:kind == NameKind.cell <;> simp [hkc]) _ _ _ _ ?_);rw[show ({ s with heap:=s.heap.push { cls:=.type "dict",data:=.dict #[] } }:Shared).heap.objs.size=s.heap.objs.size+1 from Heap.size_push ..];rw[CO];exact wpAny_bind (wpAny_pure (wpAny_pure h))
theorem xJ {scope:Scope} {env:Env} {x:Str}:∀{k:NameKind},(relabel scope env).names.lookup x=some k->∃k0,scope.names.lookup x=some k0/\(k=k0\/(k0=.free/\k=.cell)):=by
 unfold relabel;show ∀{k:NameKind},(scope.names.map fun (n,k)=>if (k == NameKind.free && env.scope.kind == .function && env.kindOf n == some .cell) then (n,NameKind.cell) else (n,k)).lookup x=some k->_
 induction scope.names with
 | nil=>intro k h;cases h
 | cons y r ih =>
  intro k h;obtain ⟨n,k1⟩:=y;rw[iu,nA] at h;rw[nA];by_cases hc:(k1 == NameKind.free && env.scope.kind == .function && env.kindOf n == some .cell)=true
  ·simp only[hc,if_true] at h;cases hb:x == n with
   | true =>
    simp only[hb] at h
    have e1:k1=.free:=by
     rw[dZ,dZ] at hc;simpa using hc.1.1
    cases h;exact ⟨k1,rfl,.inr ⟨e1,rfl⟩⟩
   | false=>simp only[hb] at h;exact ih h
  ·have hc':(k1 == NameKind.free && env.scope.kind == .function && env.kindOf n == some .cell)=false:=by simpa using hc
   simp only[hc',jG,if_false] at h;cases hb:x == n with
   | true=>simp only[hb] at h;cases h;exact ⟨_,rfl,.inl rfl⟩
   | false=>simp only[hb] at h;exact ih h
theorem Ew {scope:Scope} {env:Env} {x:Str}:scope.names.lookup x=some .free->(relabel scope env).names.lookup x=some .cell\/(relabel scope env).names.lookup x=some .free:=by
 unfold relabel;show _->(scope.names.map fun (n,k)=>if (k == NameKind.free && env.scope.kind == .function && env.kindOf n == some .cell) then (n,NameKind.cell) else (n,k)).lookup x=some .cell\/(scope.names.map fun (n,k)=>if (k == NameKind.free && env.scope.kind == .function && env.kindOf n == some .cell) then (n,NameKind.cell) else (n,k)).lookup x=some .free
 induction scope.names with
 | nil=>intro h;cases h
 | cons y r ih =>
  intro h;obtain ⟨n,k1⟩:=y;rw[nA] at h;rw[iu];by_cases hc:(k1 == NameKind.free && env.scope.kind == .function && env.kindOf n == some .cell)=true
  ·simp only[hc,if_true,nA];cases hb:x == n with
   | true=>exact .inl rfl
   | false=>rw[hb] at h;exact ih h
  ·have hc':(k1 == NameKind.free && env.scope.kind == .function && env.kindOf n == some .cell)=false:=by simpa using hc
   simp only[hc',jG,if_false,nA];cases hb:x == n with
   | true=>rw[hb] at h;cases h;exact .inr rfl
   | false=>rw[hb] at h;exact ih h
structure Bz where
 s:Shared
 H:Hp
 fp:List Addr
 C:Addr
def zZ (X:Cx) (own capN:List Str) (scope:Scope) (Z:Bz):Cx where
 prog:=X.prog
 w:=X.w
 K:=X.K
 mg:=X.mg
 base:=X.base
 A:=X.A
 N:=own++capN
 s₀:=Z.s
 H₀:=Z.H
 env:=yZ X.env scope Z.C
 outer:=X.stack
 stack:=X.stack
 ex:=Z.fp
 fn:=fun x=>own.contains x
 calm:=true
 pn:=[]
 xe:=fun _ _=>False
section
variable {X:Cx} {pins:List (Addr×Obj)} {σ:St} {own capN:List Str} {scope:Scope} {Z:Bz}
theorem ka (B:Bk X.env scope own capN) (I:Inv X pins σ Z.H Z.s) {x:Str} {c:Addr} (h:(yZ X.env scope Z.C).cells.lookup x=some c) :
  (x∈own/\(x,c)∈cellsFrom (Z.C+1) scope.names [])\/(x∈capN/\x∉own/\X.env.cells.lookup x=some c):=by
 have h':(cellsFrom (Z.C+1) scope.names (d9 X.env scope.names [])).lookup x=some c:=h;rw[fL] at h';rcases az.mp (mem_of_lookup h') with m | m
 ·exact .inl ⟨(B.cells _ (mI _ _ m) rfl).1,m⟩
 ·obtain ⟨m1,e⟩:=tL _ _ m;obtain ⟨q1,q2⟩:=B.frees _ m1 rfl;obtain ⟨d,hd⟩:=I.ok.has x (B.caps x q1);rw[hd] at e;exact .inr ⟨q1,q2,by rw[hd,e];rfl⟩
theorem Nv (B:Bk X.env scope own capN) (I:Inv X pins σ Z.H Z.s) {x:Str} {c:Addr} (hx:x∈capN) (h:X.env.cells.lookup x=some c):(yZ X.env scope Z.C).cells.lookup x=some c:=by
 have hm:(x,NameKind.free)∈scope.names:=mem_of_lookup (B.capf x hx);obtain ⟨c1,m1⟩:=tO X.env scope.names hm
 have hs:∃d,(yZ X.env scope Z.C).cells.lookup x=some d:=by
  show ∃d,(cellsFrom (Z.C+1) scope.names (d9 X.env scope.names [])).lookup x=some d
  rw[fL];exact jI (bC _ m1)
 obtain ⟨d,hd⟩:=hs;rcases ka B I hd with ⟨q,m⟩ | ⟨_,_,q⟩
 ·exact absurd hx (B.cells _ (mI _ _ m) rfl).2
 ·rw[h] at q;cases q;exact hd
theorem Jc (h:Heap) (C:Addr) (hC:h.objs.size=C+1) (names:List (Str×NameKind)):CellsOk (pushCells h names) (C+1) (cellsFrom (C+1) names []):=by
 have q:=cellsFrom_ok names h (C+1) [] ⟨fun _ _ hm=>(nomatch hm),List.Pairwise.nil⟩ (by rw[hC];exact ao _);rwa [hC] at q
theorem DN (I:Inv X pins σ Z.H Z.s) {x:Str} {c:Addr} (h:X.env.cells.lookup x=some c):@LT.lt Nat instLTNat c Z.s.heap.objs.size:=by
 obtain ⟨v,q⟩:=I.cell x c h;exact q.lt
theorem Pu {h1:Heap} (I:Inv X pins σ Z.H Z.s) (hc:X.calm=true) (B:Bk X.env scope own capN) (hC:Z.s.heap.objs.size<=Z.C) (hcl:CellsOk h1 (Z.C+1) (cellsFrom (Z.C+1) scope.names []))
  (hf:∀b∈Z.fp,lQ X pins Z.H b/\@LT.lt Nat instLTNat b Z.s.heap.objs.size):(zZ X own capN scope Z).Ok:=by
 refine ⟨I.ok.mod,B.kind,I.ok.glob,I.ok.blt,hC,fun x y c h1 h2=>?_,fun x hx=>?_,fun x c hx h=>?_,fun _=>I.ok.hd hc,I.ok.frames,.inl rfl,fun b hb=>⟨?_,fun x c h=>?_⟩,I.bs,aj I.ok.bsz I.sz,fun b o e hb=>?_,fun b hb hz=>?_,I.stack,I.stkFree⟩
 ·rcases ka B I h1 with ⟨q1,m1⟩ | ⟨q1,n1,m1⟩ <;> rcases ka B I h2 with ⟨q2,m2⟩ | ⟨q2,n2,m2⟩
  ·exact name_of_addr hcl.apart m1 m2
  ·have l1:=(hcl.empty _ _ m1).2;have l2:=DN I m2
   lia
  ·have l1:=(hcl.empty _ _ m2).2;have l2:=DN I m1
   lia
  ·exact I.ok.inj x y c m1 m2
 ·have hx':(relabel scope X.env).names.lookup x=some .cell\/(relabel scope X.env).names.lookup x=some .free:=hx
  have hk:scope.names.lookup x=some .cell\/scope.names.lookup x=some .free:=by
   rcases hx' with h | h
   ·obtain ⟨k0,e,q | ⟨q,_⟩⟩:=xJ h
    ·exact .inl (by rw[e,<- q])
    ·exact .inr (by rw[e,q])
   ·obtain ⟨k0,e,q | ⟨_,q⟩⟩:=xJ h
    ·exact .inr (by rw[e,<- q])
    ·cases q
  show ∃c,(cellsFrom (Z.C+1) scope.names (d9 X.env scope.names [])).lookup x=some c
  rcases hk with h | h
  ·exact P6.mp (Ap scope.names (Z.C+1) _ (.inl h))
  ·obtain ⟨c,m⟩:=tO X.env scope.names (mem_of_lookup h);rw[fL];exact jI (bC _ m)
 ·have ho:x∈own:=by have hx':own.contains x=true:=hx;simpa using hx'
  rcases ka B I h with ⟨_,m⟩ | ⟨_,n,_⟩
  ·have:=(hcl.empty _ _ m).2;have hC':Z.s.heap.objs.size<=Z.C:=hC;show Z.s.heap.objs.size<=c
   lia
  ·exact absurd ho n
 ·intro e;have e':@Eq Nat b Z.C:=e;have:=(hf b hb).2
  lia
 ·have l:=(hf b hb).2;rcases ka B I h with ⟨_,m⟩ | ⟨_,_,m⟩
  ·intro e;have e':@Eq Nat c b:=e;have:=(hcl.empty _ _ m).2
   lia
  ·exact (hf b hb).1.2.2.2.2.1 x c m
 ·obtain ⟨_,_,_,f3,_⟩:=(hf b hb).1;rcases f3 with f3 | f3
  ·exact I.ok.noex b o e f3
  ·exact absurd (bF (Heap.lt_size e) (aj I.ok.bsz f3)) (fq _)
 ·obtain ⟨_,f1,f2,_⟩:=(hf b hb).1;rcases aG.mp (I.stkSub b hz) with e | e
  ·exact f1 e
  ·exact f2 e
def JE (k:Nat) (cap:List Nat) (σ:St):St:=List.replicate k none++cap.map fun j=>(σ[j]?).join
def zN (X:Cx) (capN:List Str) (cap:List Nat):Prop:=cap.map (fun j=>X.N[j]?)=capN.map some
theorem zN.get {cap:List Nat} (h:zN X capN cap) {i:Nat} {x:Str} (e:capN[i]?=some x):∃j,cap[i]?=some j/\X.N[j]?=some x:=by
 have q:=congrArg (fun l=>l[i]?) h;simp only[aK,e,Option.map_some] at q;cases hc:cap[i]? with
 | none=>rw[hc] at q;cases q
 | some j=>rw[hc] at q;exact ⟨j,rfl,by simpa using q⟩
theorem EZ {cap:List Nat} {h':Heap} {m:Str->Option Value} (I:Inv X pins σ Z.H Z.s) (B:Bk X.env scope own capN) (hcap:zN X capN cap)
  (kc:∀x c,X.env.cells.lookup x=some c->∀v,Z.s.heap.IsCell c v->h'.IsCell c v) {i:Nat} {x:Str} {v:V} (e1:(own++capN)[i]?=some x) (e2:(JE own.length cap σ)[i]?=some (some v)) :
  ∃u,RelV v u/\Look (yZ X.env scope Z.C) h' m x u:=by
 have hi:own.length<=i:=by
  by_cases hi:own.length<=i
  ·exact hi
  ·exfalso
   unfold JE at e2;rw[bE (by simpa using hi),fH] at e2
   split at e2 <;> cases e2
 rw[aZ hi] at e1;unfold JE at e2;rw[aZ (by simpa using hi),aE,aK] at e2;obtain ⟨j,hj,hN⟩:=hcap.get e1;rw[hj] at e2;have e3:(σ[j]?).join=some v:=by simpa using e2
 have e4:σ[j]?=some (some v):=by
  cases q:σ[j]? with
  | none=>rw[q] at e3;cases e3
  | some o=>rw[q] at e3;simp at e3;rw[e3]
 have hx:x∈capN:=ay e1;have hk:=B.caps x hx;obtain ⟨m0,_,hl⟩:=I.loc;obtain ⟨u,r,l⟩:=hl j x v hN e4 (.inr hk);refine ⟨u,r,.inr ⟨Ew (B.capf x hx),?_⟩⟩;rcases l with ⟨hk2,_⟩ | ⟨_,c,hc,z⟩
 ·rcases hk with hk | hk
  ·rw[hk] at hk2;cases hk2
  ·rw[hk] at hk2;cases hk2
 ·exact ⟨c,Nv B I hx hc,kc x c hc _ z⟩
theorem QV (I:Inv X pins σ Z.H Z.s) {b:Addr} (h:b∈JG X.stack):@LT.lt Nat instLTNat b Z.s.heap.objs.size:=by
 obtain ⟨_,o,ho,_⟩:=I.stack.mem h;exact Heap.lt_size ho
theorem Nt {cap:List Nat} {h1:Heap} {D:Addr} {oD:Obj} {t1:Nat} (I:Inv X pins σ Z.H Z.s) (hc:X.calm=true) (B:Bk X.env scope own capN) (hcap:zN X capN cap) (hC:Z.s.heap.objs.size<=Z.C)
  (hcl:CellsOk h1 (Z.C+1) (cellsFrom (Z.C+1) scope.names [])) (hf:∀b∈Z.fp,lQ X pins Z.H b/\@LT.lt Nat instLTNat b Z.s.heap.objs.size)
  (hk:∀b o,Z.s.heap.get? b=some o->h1.get? b=some o) (hn:h1.Ns Z.C fun _=>none) (hD:Z.s.heap.objs.size<=D) (hDC:D≠Z.C) (hoD:h1.get? D=some oD) (hdD:∀v,oD.data≠.cell v) :
  Inv (zZ X own capN scope Z) [(D,oD)] (JE own.length cap σ) Z.H { Z.s with heap:=h1,toks:=t1 }:=by
 refine ⟨Pu I hc B hC hcl hf,rfl,I.bare,Un.kept hk,⟨_,hn,fun i x v e1 e2 _=>EZ I B hcap (fun x c _ v z=>z.keeps hk) e1 e2⟩,fun x c h=>?_,I.hok.fresh hC,fun x c h=>?_,fun p hp=>?_,I.hok.kept hk,?_⟩
 ·rcases ka B I h with ⟨_,m⟩ | ⟨_,_,m⟩
  ·exact ⟨none,(hcl.empty _ _ m).1⟩
  ·obtain ⟨v,q⟩:=I.cell x c m;exact ⟨v,q.keeps hk⟩
 ·rcases ka B I h with ⟨_,m⟩ | ⟨_,_,m⟩
  ·exact I.hok.fresh (by have:=(hcl.empty _ _ m).2;lia)
  ·exact I.freeC x c m
 ·have e:p=(D,oD):=by simpa [zZ] using hp
  subst e;exact ⟨hoD,I.hok.fresh hD,hDC,fun z=>fq _ (bF (QV I z) hD),hdD⟩
 ·show (JE own.length cap σ).length=(own++capN).length
  have:=congrArg List.length hcap;simp only[ar] at this;unfold JE;simp [this]
theorem LI {cap:List Nat} {pins':List (Addr×Obj)} {σ':St} {H':Hp} {s':Shared} (I:Inv X pins σ Z.H Z.s) (B:Bk X.env scope own capN) (hcap:zN X capN cap) (hf:∀b∈Z.fp,lQ X pins Z.H b/\@LT.lt Nat instLTNat b Z.s.heap.objs.size)
  (J:Inv (zZ X own capN scope Z) pins' σ' H' s'):Inv (zZ X own capN scope Z) pins' (JE own.length cap σ) H' s':=by
 refine ⟨J.ok,J.os,J.bare,J.base,?_,J.cell,J.free,J.freeC,J.pin,J.hok,?_⟩
 ·obtain ⟨m,hn,_⟩:=J.loc;refine ⟨m,hn,fun i x v e1 e2 _=>EZ I B hcap (fun x c hx v z=>?_) e1 e2⟩;obtain ⟨o,ho,hd⟩:=z;obtain ⟨sl,e⟩:=J.base.any ho (I.freeC x c hx) fun z=>(hf c z).1.2.2.2.2.1 x c hx rfl
  exact ⟨_,e,hd⟩
 ·show (JE own.length cap σ).length=(own++capN).length
  have:=congrArg List.length hcap;simp only[ar] at this;unfold JE;simp [this]
theorem Nu {σ':St} {H':Hp} {s':Shared} {D:Addr} {its:List Value} {n:Nat} {ys:List V} (I:Inv X pins σ Z.H Z.s) (hf:∀b∈Z.fp,lQ X pins Z.H b/\@LT.lt Nat instLTNat b Z.s.heap.objs.size) (hD:Z.s.heap.objs.size<=D)
  (J:Inv (zZ X own capN scope Z) [(D,{ cls:=.type "list",data:=.seq its.toArray n })] σ' H' s') (r:cP ys its) (hz:ys.length<=sizeLine) :
  Inv X pins σ (upd H' D (.lst ys)) s':=by
 have pD:=J.pin (D,{ cls:=.type "list",data:=.seq its.toArray n }) (by simp);have ne:∀{b:Addr} {o:Obj},Z.s.heap.get? b=some o->b≠D:=fun e z=>by subst z;exact fq _ (bF (Heap.lt_size e) hD)
 have nt:∀{b:Addr} {u:HO},H' b=some u->b≠D:=fun e z=>by rw[z,pD.2.1] at e;cases e
 refine I.call' (ch:=Z.fp) J.os ⟨J.base.keep,J.base.slot,fun b o e h hx=>?_,J.base.there,fun b xs e=>?_,fun b o u e=>?_,fun b ps e=>?_⟩ (fun b u e=>?_) J.bare fun b hb=>?_
 ·rw[bI (ne e)];exact J.base.free b o e h hx
 ·have q:=J.base.tups b xs e;rw[bI (nt q)];exact q
 ·have q:=J.base.frzs b o u e;rw[bI (nt q)];exact q
 ·obtain ⟨more,q⟩:=J.base.tbls b ps e;exact ⟨more,by rw[bI (nt q)];exact q⟩
 ·by_cases hb:b=D
  ·subst hb;rw[aM] at e;cases e;exact ⟨hz,its,n,r,pD.1⟩
  ·rw[bI hb] at e;exact (J.hok b u e).stay (fun c v _ q=>q) (fun c q=>by rw[bI (nt q)];exact q) fun c xs q=>by rw[bI (nt q)];exact q
 ·obtain ⟨_,f1,_,f3,f4,f5⟩:=(hf b hb).1;exact ⟨f3,f1,f4,f5⟩
end
theorem Oi {α:Type} {t:Sem α} {Q Q':α->Shared->Prop} {M:Model} {A:Around} {E:Value->Shared->Prop} {s:Shared} (h:wpAny M A t Q (fun _ _=>False) s) (hQ:∀a s,Q a s->Q' a s):wpAny M A t Q' E s :=
 wpAny_mono h hQ fun _ _ z=>False.elim z
theorem DL {prog : Program} {w : World} {A : Around} {R : Result → Shared → Prop} {s : Shared} {elt target iter : Expr} {ifs : List Expr} {scope : Scope} {pos : Pos} {it acc : Value} {env : Env} (I : Nat → Shared → Prop)
    (turn : ∀ (E : Value → Shared → Prop) n s, I n s → wpAny (model prog w) A (pyNext it) (fun r s₁ => match r with
      | none => R (.ok .next) s₁
      | some v => wpAny (model prog w) A (letOwnedTupleGo target it v) (fun _ s₂ => wpAny (model prog w) A (assign target env v) (fun _ s₃ =>
          wpAny (model prog w) A (forIn ifs true fun c r => if r = true then do let ok <- isTrue c env (eval c env); pure (ForInStep.yield ok) else pure (ForInStep.yield r)) (fun ok s₄ =>
            if ok = true then wpAny (model prog w) A (eval elt env) (fun x s₅ => wpAny (model prog w) A (call (.builtin "list.append") [acc, x]) (fun _ s₆ => ∃ m, m < n /\ I m s₆) E s₅) E s₄
            else ∃ m, m < n /\ I m s₄) E s₃) E s₂) E s₁) E s)
    (n : Nat) (h : I n s) : codeAny (model prog w) A (.compLoop (.ListComp elt [⟨target, iter, ifs, 0⟩] scope pos) 0 it acc env) R s := by
  refine codeAny_loop rfl I (fun n s hI => ?_) n h;show wpAny _ A ((compTurn (.ListComp elt [⟨target, iter, ifs, 0⟩] scope pos) 0 it acc env).onRaise (fun x => do noteFrame x env; theTreesLotGoes x)) _ _ s
  refine wpAny_noted ?_;rw [compTurn_list];refine wpAny_bind (wpAny_standAt (wpAny_bind (wpAny_mono (turn _ n s hI) (fun r s₁ h₁ => ?_) fun _ _ h' => h')));cases r with
  | none => exact wpAny_pure h₁
  | some v =>
    refine wpAny_bind (wpAny_mono h₁ (fun _ s₂ h₂ => wpAny_bind (wpAny_mono h₂ (fun _ s₃ h₃ => wpAny_bind (wpAny_mono h₃ (fun ok s₄ h₄ => ?_) fun _ _ h' => h')) fun _ _ h' => h')) fun _ _ h' => h');cases ok with
    | false => exact wpAny_pure ⟨rfl, h₄⟩
    | true =>
      exact wpAny_bind (wpAny_bind (wpAny_mono h₄ (fun x s₅ h₅ => wpAny_bind (wpAny_mono h₅ (fun _ s₆ h₆ => wpAny_pure (wpAny_pure ⟨rfl, h₆⟩)) fun _ _ h' => h')) fun _ _ h' => h'))

def PF (X : Cx) (ifs : List Expr) (t : TT) : Prop :=
  ∀ (pins : List (Addr × Obj)) (s : Shared) (σ : St) (H : Hp) (Q : Bool → Hp → Prop), Inv X pins σ H s → t σ H Q →
    wpAny (model X.prog X.w) X.A (forIn ifs true fun c r => if r = true then do let ok <- isTrue c X.env (eval c X.env); pure (ForInStep.yield ok) else pure (ForInStep.yield r)) (TP X pins σ Q) X.xe s
def Qa:TT:=fun _ H Q=>Q true H
theorem cJ {X:Cx}:PF X [] Qa:=fun _ _ _ H _ I h=>wpAny_tests_nil ⟨H,I,h⟩
def wG (σ₀:St) (g:TG) (tf:TT) (te:TE) (x:V) (H:Hp) (NY:V->Hp->Prop) (NN:Hp->Prop):Prop :=
 g x σ₀ H fun σ2 H2=>tf σ2 H2 fun b H3=>if b=true then te σ2 H3 NY else NN H3
def xh (J:It) (σ₀:St) (g:TG) (tf:TT) (te:TE) (Q:VK) (H1:Hp):Prop :=
 ∃W:Nat->Nat->List V->Hp->Prop,(∃m,W 0 m [] H1)/\∀i m ys H,W i m ys H →
  (J.stop i H/\ys.length<=sizeLine/\∀p,H p=none->Q (.ref p) (upd H p (.lst ys))) \/
  (J.go i H/\ys.length < sizeLine/\∃(NY:V->Hp->Prop) (NN:Hp->Prop),(∀y H',NY y H'->∃m',m' < m/\W (i+1) m' (ys++[y]) H')/\(∀H',NN H'->∃m',m' < m/\W (i+1) m' ys H') /\
   ∀x H',J.yld i H x H'->wG σ₀ g tf te x H' NY NN)
def Eg (wi:TI) (k:Nat) (cap:List Nat) (g:TG) (tf:TT) (te:TE):TE:=fun σ H Q=>wi σ H fun J H1=>xh J (JE k cap σ) g tf te Q H1
abbrev lobj (its:List Value) (n:Nat):Obj:={ cls:=.type "list",data:=.seq its.toArray n }
section
variable {X:Cx} {own capN:List Str} {cap:List Nat} {scope:Scope} {elt tg iter:Expr} {ifs:List Expr} {pos:Pos} {wi:TI} {g:TG} {tf:TT} {te:TE}
theorem Cy {use:Option (Value->Sem Unit)} {Qe:Value->Shared->Prop} {fpos:Pos} (hc:X.calm=true) (B:Bk X.env scope own capN) (hcap:zN X capN cap)
  (hi:PI X tg iter wi) (hg:∀Z,PG (zZ X own capN scope Z) tg g) (hf:∀Z,PF (zZ X own capN scope Z) ifs tf) (he:∀Z,PE (zZ X own capN scope Z) elt te)
  (hs:∀x,foldedSetIterable iter X.env x=pure x) {pins:List (Addr×Obj)} {s:Shared} {σ:St} {H:Hp} {Q:VK} (I:Inv X pins σ H s) (h:Eg wi own.length cap g tf te σ H Q)
  (fin:∀(D C:Addr) (s':Shared) (H':Hp),Inv X pins σ H' s'->lQ X pins H' C->(∃m,s'.heap.Ns C m)->Q (.ref D) H'->compPost (model X.prog X.w) X.A X.xe use Qe (.ref D) C (.ok .next) s') :
  wpAny (model X.prog X.w) X.A (comprehension (.ListComp elt [⟨tg,iter,ifs,0⟩] scope pos) scope X.env fpos (newList []) false (eval iter X.env) use) Qe X.xe s:=by
 refine wpAny_comprehension_free (use:=use) rfl hs (Bq fun y hy hk=>I.ok.has y.1 (B.caps _ (B.frees y hy hk).1)) B.kind B.locs ?_;refine gL (hi pins s σ H _ I h) fun v s1 h1=>gL h1 fun itv s2 h2=>?_
 obtain ⟨it,fp,tn,J,H2,e,I2,T,st2,f2,W,⟨m0,w0⟩,turn⟩:=h2;subst e;have hfp:∀b∈fp,lQ X pins H2 b/\@LT.lt Nat instLTNat b s2.heap.objs.size:=fun b hb=>⟨f2 b hb,let ⟨_,e,_⟩:=T.obj _ _ st2 b hb;Heap.lt_size e⟩
 refine wpAny_newObj_type (EG ?_) (bD _);have es:(s2.heap.push { cls:=.type "list",data:=.seq ([]:List Value).toArray }).objs.size=s2.heap.objs.size+1:=Heap.size_push ..
 show codeAny _ _ (.compStart _ 0 (.ref it) (.ref s2.heap.objs.size) { newEnv scope (s2.heap.push { cls:=.type "list",data:=.seq ([]:List Value).toArray }).objs.size X.env.globals (cellsFrom ((s2.heap.push { cls:=.type "list",data:=.seq ([]:List Value).toArray }).objs.size+1) scope.names (d9 X.env scope.names [])) X.env.qual none .none (some X.env) builtinsNs with scope:=relabel scope X.env })
  (compPost (model X.prog X.w) X.A X.xe use Qe (.ref s2.heap.objs.size) (s2.heap.push { cls:=.type "list",data:=.seq ([]:List Value).toArray }).objs.size)
  { s2 with heap:=pushCells ((s2.heap.push { cls:=.type "list",data:=.seq ([]:List Value).toArray }).push { cls:=.type "dict",data:=.dict #[] }) scope.names }
 have hk1:∀b o,(s2.heap.push { cls:=.type "list",data:=.seq ([]:List Value).toArray }).get? b=some o->(pushCells ((s2.heap.push { cls:=.type "list",data:=.seq ([]:List Value).toArray }).push { cls:=.type "dict",data:=.dict #[] }) scope.names).get? b=some o :=
  fun b o e=>pushCells_keeps _ _ _ _ (Heap.get?_push_of_some _ e)
 have hk:∀b o,s2.heap.get? b=some o->(pushCells ((s2.heap.push { cls:=.type "list",data:=.seq ([]:List Value).toArray }).push { cls:=.type "dict",data:=.dict #[] }) scope.names).get? b=some o:=fun b o e=>hk1 b o (Heap.get?_push_of_some _ e)
 have hoD:=hk1 s2.heap.objs.size _ (Heap.get?_push_size s2.heap (o:={ cls:=.type "list",data:=.seq ([]:List Value).toArray }) rfl);have hn:=(Heap.Ns.new (s2.heap.push { cls:=.type "list",data:=.seq ([]:List Value).toArray }) (.type "dict")).keeps (pushCells_keeps scope.names _);have hcl:=Jc ((s2.heap.push { cls:=.type "list",data:=.seq ([]:List Value).toArray }).push { cls:=.type "dict",data:=.dict #[] }) (s2.heap.objs.size+1) (by rw[Heap.size_push,es]) scope.names;rw[es] at hn ⊢;generalize pushCells ((s2.heap.push { cls:=.type "list",data:=.seq ([]:List Value).toArray }).push { cls:=.type "dict",data:=.dict #[] }) scope.names=h3 at hk hoD hn hcl ⊢;have Z:Bz:=⟨s2,H2,fp,s2.heap.objs.size+1⟩
 have I3:Inv (zZ X own capN scope ⟨s2,H2,fp,s2.heap.objs.size+1⟩) [(s2.heap.objs.size,lobj [] 0)] (JE own.length cap σ) H2 { s2 with heap:=h3 } :=
  Nt (Z:=⟨s2,H2,fp,s2.heap.objs.size+1⟩) (t1:=s2.toks) I2 hc B hcap (uE _) hcl hfp hk hn (ao _) (cg (jl _)) hoD (fun v z=>nomatch z)
 have st3:tn 0 h3:=T.keep _ _ _ st2 fun b _ o e=>hk b o e
 have loop:codeAny (model X.prog X.w) X.A (.compLoop (.ListComp elt [⟨tg,iter,ifs,0⟩] scope pos) 0 (.ref it) (.ref s2.heap.objs.size) (yZ X.env scope (s2.heap.objs.size+1))) (compPost (model X.prog X.w) X.A X.xe use Qe (.ref s2.heap.objs.size) (s2.heap.objs.size+1)) { s2 with heap:=h3 }:=by
  refine DL (fun m s'=>∃i ys σ' H' its n,Inv (zZ X own capN scope ⟨s2,H2,fp,s2.heap.objs.size+1⟩) [(s2.heap.objs.size,lobj its n)] σ' H' s'/\tn i s'.heap/\(∀b∈fp,H' b=none)/\cP ys its/\W i m ys H') ?_ m0
   ⟨0,[],_,H2,[],0,I3,st3,fun b hb=>(f2 b hb).1,.nil,w0⟩
  rintro E n s4 ⟨i,ys,σ4,H4,its,k,I4,st4,fr4,rv,w4⟩
  have fpo:∀{pp:List (Addr×Obj)} {H':Hp},(∀p∈pp,p.1=s2.heap.objs.size)->(∀b∈fp,H' b=none)->∀b∈fp,lQ (zZ X own capN scope ⟨s2,H2,fp,s2.heap.objs.size+1⟩) pp H' b:=fun {pp H'} hpp hn b hb=>by
   obtain ⟨e1,e2⟩:=I4.ok.exf b hb;refine ⟨hn b hb,e1,I4.ok.exfs b hb,.inl hb,e2,fun p hp=>?_⟩;have hp':p∈pp:=by simpa [zZ] using hp
   have l:=(hfp b hb).2;rw[hpp p hp'];exact fun z=>fq _ (by rw[<- z] at l;exact l)
  have pinD:∀{its:List Value} {n:Nat},∀p∈[(s2.heap.objs.size,lobj its n)],p.1=s2.heap.objs.size:=fun p hp=>by simp at hp;rw[hp]
  rcases turn i n ys H4 w4 with ⟨stop,hz,q⟩ | ⟨go,hlt,NY,NN,hNY,hNN,step⟩
  ·refine gL (T.done (zZ X own capN scope ⟨s2,H2,fp,s2.heap.objs.size+1⟩) rfl rfl rfl rfl i _ s4 σ4 H4 E I4 (fpo pinD fr4) st4 stop) fun r s5 ⟨hr,I5⟩=>?_
   subst hr;have pD:=I5.pin (s2.heap.objs.size,lobj its k) (by simp);have I6:=Nu (Z:=⟨s2,H2,fp,s2.heap.objs.size+1⟩) I2 hfp (ao _) I5 rv hz
   have hC:upd H4 s2.heap.objs.size (.lst ys) (s2.heap.objs.size+1)=none:=by
    rw[bI (Ih (jl _))];exact I5.free
   obtain ⟨m,hm,_⟩:=I5.loc;exact fin _ _ s5 _ I6 (I2.fpOk (uE _) hC) ⟨m,hm⟩ (q _ pD.2.1)
  ·refine gL (T.item (zZ X own capN scope ⟨s2,H2,fp,s2.heap.objs.size+1⟩) rfl rfl rfl rfl i _ s4 σ4 H4 E I4 (fpo pinD fr4) st4 go) fun r s5 ⟨u,hr,h5⟩=>?_
   subst hr;refine gL h5 fun _ s6 ⟨x,H6,I6,r6,y6,st6,fr6⟩=>?_
   have I6':=(LI (Z:=⟨s2,H2,fp,s2.heap.objs.size+1⟩) I2 B hcap hfp I6).pinned (fpo pinD fr6) (T.obj _ _ st6)
   have back:∀{σ7:St} {H7:Hp} {s7:Shared},Inv (zZ X own capN scope ⟨s2,H2,fp,s2.heap.objs.size+1⟩) ([(s2.heap.objs.size,lobj its k)]++AN fp s6.heap) σ7 H7 s7 →
     Inv (zZ X own capN scope ⟨s2,H2,fp,s2.heap.objs.size+1⟩) [(s2.heap.objs.size,lobj its k)] σ7 H7 s7/\tn (i+1) s7.heap/\∀b∈fp,H7 b=none:=fun {σ7 H7 s7} I7=>by
    refine ⟨I7.unpinned,T.keep _ _ _ st6 fun b hb o e=>(I7.pin (b,o) (bC _ (bC _ (tu hb e)))).1,fun b hb=>?_⟩;obtain ⟨o,e,d⟩:=T.obj _ _ st6 b hb;exact (I7.pin (b,o) (bC _ (bC _ (tu hb e)))).2.1
   refine Oi (hg _ _ s6 _ H6 x u _ I6' r6 (step x H6 y6)) fun _ s7 ⟨σ7,H7,I7,q7⟩=>?_
   refine Oi (hf _ _ s7 σ7 H7 _ I7 q7) fun ok s8 ⟨H8,I8,q8⟩=>?_
   cases ok with
   | false =>
    rw[if_neg bA] at q8 ⊢;obtain ⟨m',hm,w8⟩:=hNN H8 q8;obtain ⟨J1,J2,J3⟩:=back I8;exact ⟨m',hm,i+1,ys,σ7,H8,its,k,J1,J2,J3,rv,w8⟩
   | true =>
    rw[if_pos rfl] at q8 ⊢;refine Oi (he _ _ s8 σ7 H8 _ I8 q8) fun z s9 ⟨y,H9,I9,r9,q9⟩=>?_
    obtain ⟨J1,J2,J3⟩:=back I9;obtain ⟨m',hm,w9⟩:=hNY y H9 q9;have pD:=J1.pin (s2.heap.objs.size,lobj its k) (by simp);have hl:=rv.length;refine call_meets F.slot_list_append ⟨_,pD.1,rfl⟩ F.entry_list_append (F.args_list_append_2 _ _) (PySem.list_append s2.heap.objs.size its.toArray k z (by rw[aP];lia)) ⟨pD.1,?_⟩;have e9:=nk pD.1 (fun a=>a.push z);have e9':(its.toArray.push z)=(its++[z]).toArray:=by simp
    rw[e9'] at e9;obtain ⟨n',e9⟩:∃n',(s9.heap.update s2.heap.objs.size (Obj.mapSeq fun a=>a.push z)).get? s2.heap.objs.size=some (lobj (its++[z]) n'):=⟨_,e9⟩
    have J4:Inv (zZ X own capN scope ⟨s2,H2,fp,s2.heap.objs.size+1⟩) [] σ7 H9 { s9 with heap:=s9.heap.update s2.heap.objs.size (Obj.mapSeq fun a=>a.push z),toks:=s9.toks } :=
     (J1.pins_of (pins':=[]) fun p hp=>nomatch hp).turned (fun b o hb e=>(Heap.get?_update_other s9.heap _ (Ne.symm hb)).trans e) pD.2.1 pD.2.2.1 (.inr (ao _)) (fun x c hx z=>by
      rcases ka (Z:=⟨s2,H2,fp,s2.heap.objs.size+1⟩) B I2 hx with ⟨_,m⟩ | ⟨_,_,m⟩
      ·have:=(hcl.empty _ _ m).2;have z':@Eq Nat c s2.heap.objs.size:=z
       lia
      ·have:=DN (Z:=⟨s2,H2,fp,s2.heap.objs.size+1⟩) I2 m;rw[z] at this;exact fq _ this) fun p hp=>by simp [zZ] at hp
    have nfp:∀b∈fp,b≠s2.heap.objs.size:=fun b hb z=>by have:=(hfp b hb).2;rw[z] at this;exact fq _ this
    refine ⟨m',hm,i+1,ys++[y],σ7,H9,its++[z],n',J4.pins_of fun p hp=>?_,T.keep _ _ _ J2 fun b hb o e=>(Heap.get?_update_other s9.heap _ (Ne.symm (nfp b hb))).trans e,J3,rv.append (.cons r9 .nil),w9⟩;have ep:p=(s2.heap.objs.size,lobj (its++[z]) n'):=by simpa using hp
    rw[ep];exact ⟨e9,pD.2.1,pD.2.2.1,pD.2.2.2.1,fun v z=>nomatch z⟩
 exact codeAny_compStart_list loop (T.self _ _ _ _ _ st3 loop)
theorem cG (own capN:List Str) (cap:List Nat) (hi:PI X tg iter wi) (hg:∀Z,PG (zZ X own capN scope Z) tg g) (hf:∀Z,PF (zZ X own capN scope Z) ifs tf) (he:∀Z,PE (zZ X own capN scope Z) elt te)
  (h1:Rl scope own capN=true:=by decide +kernel) (h2:CA X.env capN=true:=by rfl) (hcap:zN X capN cap:=by rfl) (hc:X.calm=true:=by rfl) (hs:∀x,foldedSetIterable iter X.env x=pure x:=by intro _;rfl) :
  PE X (.ListComp elt [⟨tg,iter,ifs,0⟩] scope pos) (Eg wi own.length cap g tf te):=by
 intro pins s σ H Q I h;rw[eval_ListComp];refine Cy (use:=none) hc (Bk.of h1 h2) hcap hi hg hf he hs I h fun D C s' H' I' fC hm q=>?_
 obtain ⟨m,hm⟩:=hm;refine ⟨m,hm,fun h' hs'=>?_⟩;obtain ⟨f0,f1,f2,f3,f4,f5⟩:=fC;exact ⟨.ref D,H',I'.turned (t':=s'.toks) (fun b o hb e=>(hs'.2 b hb).trans e) f0 f1 f3 f4 f5,rfl,q⟩
theorem p7 (i:Nat) (own capN:List Str) (cap:List Nat) {x:Str} {pos' spos:Pos} (hN:X.N.Nodup) (hi':X.N[i]?=some x) (hx:X.env.scope.names.lookup x=some .local) (hi:PI X tg iter wi) (hg:∀Z,PG (zZ X own capN scope Z) tg g) (hf:∀Z,PF (zZ X own capN scope Z) ifs tf) (he:∀Z,PE (zZ X own capN scope Z) elt te)
  (h1:Rl scope own capN=true:=by decide +kernel) (h2:CA X.env capN=true:=by rfl) (hcap:zN X capN cap:=by rfl) (hc:X.calm=true:=by rfl) (hs:∀x,foldedSetIterable iter X.env x=pure x:=by intro _;rfl)
  (hsw:swapsWith (.ListComp elt [⟨tg,iter,ifs,0⟩] scope pos) (some (.Name x pos')) spos.line X.env=pure true:=by rfl) :
  PS X (.Assign [.Name x pos'] (.ListComp elt [⟨tg,iter,ifs,0⟩] scope pos) spos) (L7 (Eg wi own.length cap g tf te) (HH i)):=by
 intro pins s σ H D I h;rw[exec_Assign_Name_used _ _ _ _ hsw];refine wpAny_bind (wpAny_standAt (wpAny_bind ?_));rw[arm_evalThenUse_ListComp];refine wpAny_bind (Cy (Q:=fun v H1=>D.nx (σ.set i (some v)) H1) (use:=some _) hc (Bk.of h1 h2) hcap hi hg hf he hs I h fun L C s' H' I' fC hm q=>?_);obtain ⟨m,hm⟩:=hm;obtain ⟨f0,f1,f2,f3,f4,f5⟩:=fC;refine wpAny_assign_Name (Cd I' hN hi' (.inl hx) (v:=.ref L) rfl (fun s'' I'' ⟨a,sb,ha⟩=>?_) (.inr hx))
 have hCa:C≠a:=by
  rcases ha with e | e
  ·rw[e];exact f1
  ·exact (f4 x a e).symm
 refine ⟨m,hm.at' fun o e=>(sb.2 C hCa).trans e,fun h' hs'=>?_⟩;have I3:=I''.turned (h':=h') (t':=s''.toks) (fun b o hb e=>(hs'.2 b hb).trans e) f0 f1 f3 f4 f5;exact wpAny_pure (wpAny_pure ⟨_,H',I3,q⟩)
end
section
variable {K:PySem.W.Frag} {a:Addr} {xs:List V} {g:TG} {tf:TT} {te:TE} {Q:VK} {σ₀:St} {H:Hp}
theorem fY (Pv:Nat->List V->Hp->Prop) (hz:xs.length<=sizeLine) (h0:Pv 0 [] H) (hl:∀i ys H,i<=xs.length->Pv i ys H->bV K H a xs)
  (hs:∀i x ys H,xs[i]?=some x->ys.length<=i->Pv i ys H->wG σ₀ g tf te x H (fun y H'=>Pv (i+1) (ys++[y]) H') (fun H'=>Pv (i+1) ys H'))
  (hd:∀ys H,ys.length<=xs.length->Pv xs.length ys H->∀p,H p=none->Q (.ref p) (upd H p (.lst ys))):xh (NA K a) σ₀ g tf te Q H:=by
 refine ⟨fun i m ys H=>m=xs.length - i/\i<=xs.length/\ys.length<=i/\Pv i ys H,⟨xs.length,by simp,bD _,bD _,h0⟩,?_⟩;rintro i m ys H ⟨rfl,hi,hy,p⟩;have q:=hl i ys H hi p;by_cases hlt:i < xs.length
 ·refine .inr ⟨⟨xs,xs[i],q,by simp [hlt]⟩,by lia,fun y H'=>Pv (i+1) (ys++[y]) H',fun H'=>Pv (i+1) ys H',fun y H' p'=>⟨xs.length - (i+1),by lia,rfl,hlt,by rw[av,bU];lia,p'⟩,fun H' p'=>⟨xs.length - (i+1),by lia,rfl,hlt,by lia,p'⟩,fun x H' y=>?_⟩;obtain ⟨e,y⟩:=y;subst e;exact hs i x ys _ (y xs q) hy p
 ·have e:i=xs.length:=by lia
  subst e;exact .inl ⟨⟨xs,q,ao _⟩,by lia,hd ys H hy p⟩
theorem xA {lo:Int} {n:Nat} (Pv:Nat->List V->Hp->Prop) (hz:n<=sizeLine) (h0:Pv 0 [] H)
  (hs:∀i ys H,i < n->ys.length<=i->Pv i ys H->wG σ₀ g tf te (.int (lo+i)) H (fun y H'=>Pv (i+1) (ys++[y]) H') (fun H'=>Pv (i+1) ys H'))
  (hd:∀ys H,ys.length<=n->Pv n ys H->∀p,H p=none->Q (.ref p) (upd H p (.lst ys))):xh (Fd lo n) σ₀ g tf te Q H:=by
 refine ⟨fun i m ys H=>m=n - i/\i<=n/\ys.length<=i/\Pv i ys H,⟨n,by simp,bD _,bD _,h0⟩,?_⟩;rintro i m ys H ⟨rfl,hi,hy,p⟩;by_cases hlt:i < n
 ·refine .inr ⟨hlt,by lia,fun y H'=>Pv (i+1) (ys++[y]) H',fun H'=>Pv (i+1) ys H',fun y H' p'=>⟨n - (i+1),by lia,rfl,hlt,by rw[av,bU];lia,p'⟩,fun H' p'=>⟨n - (i+1),by lia,rfl,hlt,by lia,p'⟩,fun x H' y=>?_⟩;obtain ⟨e,y⟩:=y;subst e y;exact hs i ys _ hlt hy p
 ·have e:i=n:=by lia
  subst e;exact .inl ⟨ao _,by lia,hd ys H hy p⟩
end
open Nm
def jk (i j:Int):Prop:=PH i j\/∃m n,Sz m i/\Sz n j/\m+n<=1000000
def sP (i j:Int):Prop:=j≠0/\Sz 8999 j
theorem Bt {k:Nat} {i:Int} (h:Sz k i):Builtin.Int.intBits i<=k:=by
 unfold Builtin.Int.intBits;by_cases e:i=0
 ·subst e;simp
 ·have e':(i == 0)=false:=by simpa using e
  rw[e'];have hn:i.natAbs≠0:=by lia
  have:=(Nat.log2_lt hn).mpr h;simp only[jG,if_false]
  lia
theorem jk.ok {i j:Int} (h:jk i j):IntMulOk i j:=by
 rcases h with h | ⟨m,n,h1,h2,h3⟩
 ·exact h.ok
 ·have e:(2:Nat)^20=1048576:=by decide
  exact .of_bits (by have:=Bt h1;lia) (by have:=Bt h2;lia)
section
variable {X:Cx} {a b:Expr} {ta tb:TE} {pos:Pos}
theorem di:Al X (binaryOp .Mult) (rI jk fun i j=>.int (i*j)):=Rh fun _ _ _ _ _ _ _ hc q=>mul_int q hc.ok
theorem ju:Al X (binaryOp .FloorDiv) (rI sP fun i j=>.int (i.fdiv j)):=Rh fun i j _ _ _ _ _ hc q=>by
 refine floordiv_int hc.1 q (.inl (PyProof.noPylong_of_log2 ?_));have hn:j.natAbs≠0:=by have:=hc.1;lia
 have:=(Nat.log2_lt hn).mpr hc.2
 lia
def Qc (t u:TS):TS:=fun D σ H=>∃N:St->Hp->Prop,t { D with nx:=N } σ H/\∀σ' H',N σ' H'->u D σ' H'
theorem j5 {st:Stmt} {rest:List Stmt} {t u:TS} (h1:PS X st t) (h2:Gy X rest u):Gy X (st :: rest) (Qc t u):=by
 intro pins s σ H D I h;obtain ⟨N,h,k⟩:=h;refine wpAny_execs_cons (gL (h1 pins s σ H { D with nx:=N } I h) fun f s1 q=>?_);cases f with
 | next =>
  obtain ⟨σ',H',I',q⟩:=q;exact h2 pins s1 σ' H' D I' (k _ _ q)
 | ret v=>exact q
 | brk=>exact q
 | cont=>exact q
def NQ (K:PySem.W.Frag):V->V->Hp->VK->Prop:=fun o i H Q=>∃p xs k v,o=.ref p/\i=.int k/\bV K H p xs/\Gn xs k=some v/\Q v H
theorem Li:Q0 X (NQ X.K):=by
 intro pins s σ H o i ov iv Q I ro ri h;obtain ⟨p,xs,k,z,rfl,rfl,hq,he,q⟩:=h;cases ro;obtain ⟨t,rfl⟩:=ri;obtain ⟨its,r,pl,hz⟩:=I.list hq;obtain ⟨j,h1,h2,h3,h4,h5⟩:=DQ he;obtain ⟨w,ew,rw'⟩:=r.get h2;have hl:=r.length;have hn:=Bh;have fin:EP X pins σ Q w s:=⟨z,H,I,rw',q⟩;by_cases h0:0<=k
 ·have hj:k.toNat=j:=by
   rw[seqIndex_of h0 h5] at h1;exact cm h1
  exact wpAny_getItem_list pl.isList h0 (by lia) (by rw[hj];simpa using ew) fin
 ·have hj:(k+(its.toArray.size:Int)).toNat=j:=by
   rw[seqIndex_neg (by lia) h4] at h1;rw[aP,<- hl];exact cm h1
  exact wpAny_getItem_list_neg pl.isList (by lia) (by rw[aP] <;> lia) (by lia) (by rw[hj];simpa using ew) fin
def IW (K:PySem.W.Frag) (T:String):V->Hp->VK->Prop:=fun x H Q=>∃t b,y9 K H x t/\PySem.W.kitOne K t (.type T)=some b/\Q (.bl b) H
theorem yQ {c:Str} {T:String} {p p2:Pos} (hg:Gl X "isinstance") (hm:X.mg "isinstance"=none) (hb:bootBuiltins c=some (.type T)) (hmc:X.mg c=none) (ha:PE X a ta) (hgc:Gl X c:=by rfl) (hn:c≠"__name__":=by decide)
  (hd:(c == ("__debug__":Str))=false:=by decide) (he:starEach [a,.Name c p2] X.env=[(false,eval a X.env),(false,eval (.Name c p2) X.env)]:=by rfl)
  (hpl:(backTo pos (starEach [.Name c p2] X.env)).any (·.1)=false:=by rfl) (he2:starEach [.Name c p2] X.env=[(false,eval (.Name c p2) X.env)]:=by rfl):PE X (.Call (.Name "isinstance" p) [a,.Name c p2] [] pos) (Rf (IW X.K T) ta):=by
 intro pins s σ H Q I h;refine wpAny_Call_Name_kw (lM I hg hm PyProof.Rows.boot_isinstance ?_);have hA:PA X [a,.Name c p2] (uL ta (uL (tC (.ty T)) Ip)):=aa ha (aa (GY hgc hmc hb rfl hn hd) ai he2) (by rw[he,he2])
 have hq:uL ta (uL (tC (.ty T)) Ip) σ H (fun vs H1=>∃x,vs=[x,.ty T]/\IW X.K T x H1 Q):=by
  show ta σ H fun x H1=>∃x',[x,V.ty T]=[x',V.ty T]/\IW X.K T x' H1 Q
  have e:(fun x H1=>∃x',[x,V.ty T]=[x',V.ty T]/\IW X.K T x' H1 Q)=fun x H1=>IW X.K T x H1 Q:=by
   funext x H1;apply propext;constructor
   ·rintro ⟨x',e,q⟩;cases e;exact q
   ·intro q;exact ⟨x,rfl,q⟩
  rw[e];exact h
 refine PyProof.Rows.callWith_builtin1 (gL (hA pos pins s σ H _ I hq) fun us s1 ⟨vs,H1,I1,r1,x,e,q1⟩=>?_) (by rw[he,he2]) hpl;subst e;obtain ⟨u,w',rfl,ru,rt⟩:=vals2 r1;cases rt;obtain ⟨t,bb,ty,ek,q⟩:=q1;exact Cs I1 ru ty ek fun tk=>⟨.bl bb,H1,I1.tok tk,rfl,q⟩
end
structure Kind (α:Type) [DecidableEq α] where
 R:PySem.W.Frag->Hp->V->α->Prop
 d:Nat
 inj:∀{X:Cx} {pins:List (Addr×Obj)} {σ:St} {H:Hp} {s:Shared} {x:V} {a b:α},Inv X pins σ H s->R X.K H x a->R X.K H x b->a=b
 rc:∀{X:Cx} {pins:List (Addr×Obj)} {σ:St} {H:Hp} {s:Shared} {x y:V} {v u:Value} {a b:α} {A:Around},Inv X pins σ H s->RelV x v->RelV y u->R X.K H x a->R X.K H y b->A.units+d < cLine->SeqAt.RcAt A s v u (decide (a=b))
 ne:∀{X:Cx} {pins:List (Addr×Obj)} {σ:St} {H:Hp} {s:Shared} {x y:V} {v u:Value} {a b:α} {A:Around},Inv X pins σ H s->RelV x v->RelV y u->R X.K H x a->R X.K H y b->A.units+d < cLine->SeqAt.RcNeAt A s v u (!decide (a=b))
 eq:∀{X:Cx} {pins:List (Addr×Obj)} {σ:St} {H:Hp} {s:Shared} {x y:V} {v u:Value} {a b:α} {A:Around},Inv X pins σ H s->RelV x v->RelV y u->R X.K H x a->R X.K H y b->A.units+d < cLine->SeqAt.EqAt A s v u (decide (a=b))
def RL:Kind Int where
 R:=fun _ _ x i=>x=.int i
 d:=0
 inj:=fun _ h1 h2=>by rw[h1] at h2;cases h2;rfl
 rc:=fun {X pins σ H s x y v u a b A} I rx ry h1 h2 _=>by
  subst h1 h2;obtain ⟨t,rfl⟩:=rx;obtain ⟨t',rfl⟩:=ry;have q:=SeqAt.RcAt.int_int (A:=A) (s:=s) a t b t';rwa [BI] at q
 ne:=fun {X pins σ H s x y v u a b A} I rx ry h1 h2 _=>by
  subst h1 h2;obtain ⟨t,rfl⟩:=rx;obtain ⟨t',rfl⟩:=ry;have q:=SeqAt.RcNeAt.int_int (A:=A) (s:=s) a t b t';rwa [BI] at q
 eq:=fun {X pins σ H s x y v u a b A} I rx ry h1 h2 _=>by
  subst h1 h2;obtain ⟨t,rfl⟩:=rx;obtain ⟨t',rfl⟩:=ry;have q:=SeqAt.EqAt.int_int (A:=A) (s:=s) a t b t';rwa [BI] at q
theorem lH {α β:Type} {F:α->β->Prop}:∀{l1:List α} {l2:List β} {i:Nat} (_:Paired F l1 l2) (h1:i < l1.length) (h2:i < l2.length),F l1[i] l2[i]
 | _,_,_,.nil,h1,_=>absurd h1 (fJ _)
 | _,_,0,.cons r _,_,_=>r
 | _,_,i+1,.cons _ t,h1,h2=>lH (i:=i) t (Nat.lt_of_succ_lt_succ h1) (Nat.lt_of_succ_lt_succ h2)
theorem pJ {α β:Type} {F:α->β->Prop} (hF:∀a b x,F a x->F b x->a=b):∀{l1 l2:List α} {l:List β},Paired F l1 l->Paired F l2 l->l1=l2
 | _,_,_,.nil,.nil=>rfl
 | _,_,_,.cons r t,.cons r' t'=>by rw[hF _ _ _ r r',pJ hF t t']
theorem ye {α:Type} [DecidableEq α] (as bs:List α) (h:as.length=bs.length):(List.range as.length).all (fun j=>decide (as[j]?=bs[j]?))=decide (as=bs):=by
 rw[o5,sR,decide_eq_true_iff];constructor
 ·intro q;apply il;intro i;by_cases hi:i < as.length
  ·exact of_decide_eq_true (q i (CN.mpr hi))
  ·rw[aR (by lia),aR (by lia)]
 ·rintro rfl i _;simp
section
variable {α:Type} [DecidableEq α] (k:Kind α)
theorem Kind.items {X:Cx} {pins:List (Addr×Obj)} {σ:St} {H:Hp} {s:Shared} {A:Around} (I:Inv X pins σ H s) (hA:A.units+k.d < cLine) {xs ys:List V} {us ws:List Value} {as bs:List α}
  (rx:cP xs us) (ry:cP ys ws) (ha:Paired (fun a x=>k.R X.K H x a) as xs) (hb:Paired (fun a x=>k.R X.K H x a) bs ys) :
  ∀j (h1:j < us.toArray.size) (h2:j < ws.toArray.size),SeqAt.EqAt A s us.toArray[j] ws.toArray[j] (decide (as[j]?=bs[j]?)):=fun j h1 h2=>by
 have l1:j < us.length:=by simpa using h1
 have l2:j < ws.length:=by simpa using h2
 have e1:=rx.length;have e2:=ry.length;have e3:=ha.length;have e4:=hb.length;obtain ⟨u,hu,ru⟩:=rx.get (i:=j) (x:=xs[j]'(by lia)) (by simp);obtain ⟨w,hw,rw'⟩:=ry.get (i:=j) (x:=ys[j]'(by lia)) (by simp);have q:=k.eq (A:=A) I ru rw' (lH ha (by lia) (by lia)) (lH hb (by lia) (by lia)) hA
 have eu:us.toArray[j]=u:=by
  have:=hu;rw[ag l1] at this;simpa using this
 have ew:ws.toArray[j]=w:=by
  have:=hw;rw[ag l2] at this;simpa using this
 rw[eu,ew,ag (show j < as.length by lia),ag (show j < bs.length by lia)];have e5:decide (some as[j]=some bs[j])=decide (as[j]=bs[j]):=by simp
 rw[e5];exact q
theorem CS {α:Type} [DecidableEq α] (as bs:List α) {n m:Nat} (h1:as.length=n) (h2:bs.length=m):((List.range (min n m)).all (fun j=>decide (as[j]?=bs[j]?)) && n == m)=decide (as=bs):=by
 subst h1 h2;by_cases e:as.length=bs.length
 ·rw[show min as.length bs.length=as.length by lia,ye as bs e];simp [e]
 ·have h1:(as.length == bs.length)=false:=by simpa using e
  rw[h1,Bool.and_false];exact (decide_eq_false fun z=>e (by rw[z])).symm
def RJ:Kind (List α) where
 R:=fun K H x as=>∃p xs,x=.ref p/\uc K H p xs/\Paired (fun a x=>k.R K H x a) as xs
 d:=k.d+1
 inj:=fun {X pins σ H s x a b} I h1 h2=>by
  obtain ⟨p,xs,rfl,hp,pa⟩:=h1;obtain ⟨q,ys,e,hq,pb⟩:=h2;cases e;have e:=I.tuple_inj hp hq;subst e;exact pJ (F:=fun a x=>k.R X.K H x a) (fun a b x=>k.inj I) pa pb
 rc:=fun {X pins σ H s x y v u a b A} I rx ry h1 h2 hA=>by
  obtain ⟨p,xs,rfl,hp,pa⟩:=h1;obtain ⟨q,ys,rfl,hq,pb⟩:=h2;cases rx;cases ry;obtain ⟨us,r1,t1,_⟩:=I.tuple hp;obtain ⟨ws,r2,t2,_⟩:=I.tuple hq;have z:=SeqAt.RcAt.tuples (A:=A) (e:=fun j=>decide (a[j]?=b[j]?)) (show s.heap.IsTuple p us.toArray from t1) (show s.heap.IsTuple q ws.toArray from t2) (by lia) (k.items (A:=A.in1) I (by show A.units+1+k.d < cLine;lia) r1 r2 pa pb);rwa [CS a b (by rw[pa.length,r1.length];simp) (by rw[pb.length,r2.length];simp)] at z
 ne:=fun {X pins σ H s x y v u a b A} I rx ry h1 h2 hA=>by
  obtain ⟨p,xs,rfl,hp,pa⟩:=h1;obtain ⟨q,ys,rfl,hq,pb⟩:=h2;cases rx;cases ry;obtain ⟨us,r1,t1,_⟩:=I.tuple hp;obtain ⟨ws,r2,t2,_⟩:=I.tuple hq;have z:=SeqAt.RcNeAt.tuples (A:=A) (e:=fun j=>decide (a[j]?=b[j]?)) (show s.heap.IsTuple p us.toArray from t1) (show s.heap.IsTuple q ws.toArray from t2) (by lia) (k.items (A:=A.in1) I (by show A.units+1+k.d < cLine;lia) r1 r2 pa pb);rwa [CS a b (by rw[pa.length,r1.length];simp) (by rw[pb.length,r2.length];simp)] at z
 eq:=fun {X pins σ H s x y v u a b A} I rx ry h1 h2 hA=>by
  obtain ⟨p,xs,rfl,hp,pa⟩:=h1;obtain ⟨q,ys,rfl,hq,pb⟩:=h2;cases rx;cases ry;by_cases e:p=q
  ·subst e;have e:=I.tuple_inj hp hq;subst e;rw[pJ (F:=fun a x=>k.R X.K H x a) (fun a b x=>k.inj I) pa pb,decide_eq_true rfl];exact SeqAt.EqAt.same _
  ·obtain ⟨us,r1,t1,_⟩:=I.tuple hp;obtain ⟨ws,r2,t2,_⟩:=I.tuple hq;have z:=SeqAt.RcAt.tuples (A:=A) (e:=fun j=>decide (a[j]?=b[j]?)) (show s.heap.IsTuple p us.toArray from t1) (show s.heap.IsTuple q ws.toArray from t2) (by lia) (k.items (A:=A.in1) I (by show A.units+1+k.d < cLine;lia) r1 r2 pa pb);rw[CS a b (by rw[pa.length,r1.length];simp) (by rw[pb.length,r2.length];simp)] at z;exact .of_refs e z
theorem FY {X:Cx} {pins:List (Addr×Obj)} {σ:St} {H:Hp} {s:Shared} {p q:Addr} {xs ys:List V} {a b:List α} {A:Around} (I:Inv X pins σ H s) (hp:bV X.K H p xs) (hq:bV X.K H q ys)
  (pa:Paired (fun a x=>k.R X.K H x a) a xs) (pb:Paired (fun a x=>k.R X.K H x a) b ys) (hA:A.units+(k.d+1) < cLine) :
  SeqAt.RcAt A s (.ref p) (.ref q) (decide (a=b))/\SeqAt.RcNeAt A s (.ref p) (.ref q) (!decide (a=b)):=by
 obtain ⟨us,r1,t1,_⟩:=I.list hp;obtain ⟨ws,r2,t2,_⟩:=I.list hq;have l1:=r1.length;have l2:=r2.length;have l3:=pa.length;have l4:=pb.length;by_cases e:us.length=ws.length
 ·have it:=k.items (A:=A.in1) I (by show A.units+1+k.d < cLine;lia) r1 r2 pa pb;have z:=SeqAt.RcAt.lists (A:=A) (e:=fun j=>decide (a[j]?=b[j]?)) t1.isList t2.isList (by simpa using e) (by lia) it;have z2:=SeqAt.RcNeAt.lists (A:=A) (e:=fun j=>decide (a[j]?=b[j]?)) t1.isList t2.isList (by simpa using e) (by lia) it;have e1:us.toArray.size=a.length:=by rw[aP];lia
  rw[e1,ye a b (by lia)] at z z2;exact ⟨z,z2⟩
 ·have hne:¬a=b:=fun z=>e (by have:=congrArg List.length z;lia)
  rw[decide_eq_false hne];exact ⟨SeqAt.RcAt.lists_lengths t1.isList t2.isList (by simpa using e) (by lia),SeqAt.RcNeAt.lists_lengths t1.isList t2.isList (by simpa using e) (by lia)⟩
def RK:Kind (List α) where
 R:=fun K H x as=>∃p xs,x=.ref p/\bV K H p xs/\Paired (fun a x=>k.R K H x a) as xs
 d:=k.d+1
 inj:=fun {X pins σ H s x a b} I h1 h2=>by
  obtain ⟨p,xs,rfl,hp,pa⟩:=h1;obtain ⟨q,ys,e,hq,pb⟩:=h2;cases e;have e:=I.list_inj hp hq;subst e;exact pJ (F:=fun a x=>k.R X.K H x a) (fun a b x=>k.inj I) pa pb
 rc:=fun {X pins σ H s x y v u a b A} I rx ry h1 h2 hA=>by
  obtain ⟨p,xs,rfl,hp,pa⟩:=h1;obtain ⟨q,ys,rfl,hq,pb⟩:=h2;cases rx;cases ry;exact (FY k I hp hq pa pb hA).1
 ne:=fun {X pins σ H s x y v u a b A} I rx ry h1 h2 hA=>by
  obtain ⟨p,xs,rfl,hp,pa⟩:=h1;obtain ⟨q,ys,rfl,hq,pb⟩:=h2;cases rx;cases ry;exact (FY k I hp hq pa pb hA).2
 eq:=fun {X pins σ H s x y v u a b A} I rx ry h1 h2 hA=>by
  obtain ⟨p,xs,rfl,hp,pa⟩:=h1;obtain ⟨q,ys,rfl,hq,pb⟩:=h2;cases rx;cases ry;by_cases e:p=q
  ·subst e;have e:=I.list_inj hp hq;subst e;rw[pJ (F:=fun a x=>k.R X.K H x a) (fun a b x=>k.inj I) pa pb,decide_eq_true rfl];exact SeqAt.EqAt.same _
  ·exact .of_refs e (FY k I hp hq pa pb hA).1
def Kind.via {β:Type} [DecidableEq β] (f:β->α) (fi:∀a b,f a=f b->a=b) (R':PySem.W.Frag->Hp->V->β->Prop) (im:∀{K H x b},R' K H x b->k.R K H x (f b)):Kind β where
 R:=R'
 d:=k.d
 inj:=fun I h1 h2=>fi _ _ (k.inj I (im h1) (im h2))
 rc:=fun {X pins σ H s x y v u a b A} I rx ry h1 h2 hA=>by
  have z:=k.rc (A:=A) I rx ry (im h1) (im h2) hA;rwa [decide_eq_decide.mpr (show f a=f b↔a=b from ⟨fi a b,fun e=>by rw[e]⟩)] at z
 ne:=fun {X pins σ H s x y v u a b A} I rx ry h1 h2 hA=>by
  have z:=k.ne (A:=A) I rx ry (im h1) (im h2) hA;rwa [decide_eq_decide.mpr (show f a=f b↔a=b from ⟨fi a b,fun e=>by rw[e]⟩)] at z
 eq:=fun {X pins σ H s x y v u a b A} I rx ry h1 h2 hA=>by
  have z:=k.eq (A:=A) I rx ry (im h1) (im h2) hA;rwa [decide_eq_decide.mpr (show f a=f b↔a=b from ⟨fi a b,fun e=>by rw[e]⟩)] at z
end
def E8 (K:PySem.W.Frag) (H:Hp) (x:V) (n:Int×Int):Prop:=∃p,x=.ref p/\uc K H p [.int n.1,.int n.2]
def QM:Kind (Int×Int):=(RJ RL).via (fun n=>[n.1,n.2]) (fun a b e=>by cases a;cases b;simp at e;rw[e.1,e.2]) E8 fun ⟨p,e,h⟩=>⟨p,_,e,h,.cons rfl (.cons rfl .nil)⟩
def RE (K:PySem.W.Frag):R2:=fun x y H Q=>∃(α:Type) (_:DecidableEq α) (k:Kind α) (a b:α),k.d<=50/\k.R K H x a/\k.R K H y b/\Q (.bl (decide (a=b))) H
def RD (K:PySem.W.Frag):R2:=fun x y H Q=>∃(α:Type) (_:DecidableEq α) (k:Kind α) (a b:α),k.d<=50/\k.R K H x a/\k.R K H y b/\Q (.bl (!decide (a=b))) H
theorem Di {X:Cx} (hu:X.A.units+50 < cLine):Al X (compareOp .Eq) (RE X.K):=by
 intro pins s σ H x y v u Q I rx ry h;obtain ⟨α,_,k,a,b,hd,ha,hb,q⟩:=h;exact k.rc (A:=X.A) I rx ry ha hb (by lia) _ _ _ _ ⟨.bl (decide (a=b)),H,I,rfl,q⟩
theorem O6 {X:Cx} (hu:X.A.units+50 < cLine):Al X (compareOp .NotEq) (RD X.K):=by
 intro pins s σ H x y v u Q I rx ry h;obtain ⟨α,_,k,a,b,hd,ha,hb,q⟩:=h;exact k.ne (A:=X.A) I rx ry ha hb (by lia) _ _ _ _ ⟨.bl (!decide (a=b)),H,I,rfl,q⟩
theorem Le {A:Around} {k:Nat} (hr:nX k A):A.units+50 < cLine:=by have:=hr.units;lia
def Inner (H:Hp) (p q:Addr):Prop:=∃a b c:Int,H p=some (.lst [.int a,.int b,.int c,.ref q])
def cT (p:Addr) (H H':Hp):Prop:=(∀b o,H b=some o->b≠p->H' b=some o)/\∀q,Inner H p q->Inner H' p q
theorem cT.refl {p:Addr} (H:Hp):cT p H H:=⟨fun _ _ h _=>h,fun _ h=>h⟩
theorem cT.trans {p:Addr} {H H1 H2:Hp} (a:cT p H H1) (b:cT p H1 H2):cT p H H2:=⟨fun c o h n=>b.1 c o (a.1 c o h n) n,fun q h=>b.2 q (a.2 q h)⟩
theorem Inner.inj {H:Hp} {p q q':Addr} (h:Inner H p q) (h':Inner H p q'):q=q':=by
 obtain ⟨a,b,c,e⟩:=h;obtain ⟨a',b',c',e'⟩:=h';rw[e] at e';have:=HO.lst.inj (cm e');simp at this;exact this.2.2.2
theorem cT.set {p q:Addr} {H:Hp} {a b c a' b' c':Int} (h:H p=some (.lst [.int a,.int b,.int c,.ref q])):cT p H (upd H p (.lst [.int a',.int b',.int c',.ref q])) :=
 ⟨fun b u h n=>by rw[bI n];exact h,fun q' h'=>by
  rw[(Inner.inj ⟨a,b,c,h⟩ h').symm];exact ⟨a',b',c',aM⟩⟩
theorem aL.upto {p:Addr} {H H':Hp} (h:aL H H'):cT p H H':=⟨fun b o e _=>h b o e,fun q ⟨a,b,c,e⟩=>⟨a,b,c,h _ _ e⟩⟩
theorem aL.new {H:Hp} {p:Addr} {o:HO} (h:H p=Option.none):aL H (upd H p o):=fun b u e=>by rw[bI (fK e h)];exact e
theorem aL.sqt {K:PySem.W.Frag} {H H':Hp} {a:Addr} {xs:List V} (e:aL H H') (h:uc K H a xs):uc K H' a xs:=by
 rcases h with (h | ⟨o,h⟩) | h
 ·exact .inl (.inl (e _ _ h))
 ·exact .inl (.inr ⟨o,e _ _ h⟩)
 ·exact .inr h
theorem aL.num {K:PySem.W.Frag} {H H':Hp} {x:V} {n:Int×Int} (e:aL H H') (h:E8 K H x n):E8 K H' x n:=by obtain ⟨p,q,r⟩:=h;exact ⟨p,q,e.sqt r⟩
section
variable {σ:St} {H:Hp} {D:Ends}
theorem aS {t:TS} {σ0 σ:St} {D:Ends} {H:Hp} (e:σ0=σ) (h:t D σ H):t D σ0 H:=by rw[e];exact h
theorem OK {t u:TS} (h:t { D with nx:=u D } σ H):Qd t u D σ H:=h
theorem My (h:D.nx σ H):NG D σ H:=h
theorem OY {te:TE} {g:TG} (h:te σ H fun x H1=>g x σ H1 D.nx):L7 te g D σ H:=h
theorem KA {i:Nat} {v:V} {Q:St->Hp->Prop} (h:Q (σ.set i (some v)) H):HH i v σ H Q:=h
theorem OL {te:TE} (h:te σ H D.rt):Qf te D σ H:=h
theorem OS {c:TT} {t u:TS} (h:c σ H fun b H1=>if b=true then t D σ H1 else u D σ H1):Qk c t u D σ H:=h
theorem MI {te:TE} (h:te σ H fun _ H1=>D.nx σ H1):NJ te D σ H:=h
theorem OM {i j:Nat} {ta:TA} (h:ta σ H fun vs H1=>∃v w,vs=[v,w]/\D.nx ((σ.set i (some v)).set j (some w)) H1):Qg i j ta D σ H:=h
theorem MM {to ti te:TE} {tget:V->V->Hp->VK->Prop} {tip:QY} {tset:Gu}
  (h:to σ H fun o H1=>ti σ H1 fun i H2=>tget o i H2 fun x H3=>te σ H3 fun y H4=>tip x y H4 fun z H5=>tset o i z H5 fun H6=>D.nx σ H6):NK to ti te tget tip tset D σ H:=h
theorem OR {f:Int->Int->Int} {i j:Int} {Q:VK} (h:Q (.int (f i j)) H):ipI f (.int i) (.int j) H Q:=⟨i,j,rfl,rfl,h⟩
theorem OU {wi:TI} {g:TG} {tb:TS} (h:wi σ H fun J H1=>∃W:Nat->Nat->St->Hp->Prop,(∃m,W 0 m σ H1)/\∀i m σ H,W i m σ H →
  (J.stop i H/\D.nx σ H)\/(J.go i H/\∃N:St->Hp->Prop,(∀σ' H',N σ' H'->∃m',m' < m/\W (i+1) m' σ' H')/\∀x H',J.yld i H x H'->g x σ H' fun σ2 H2=>tb { D with nx:=N,ct:=N,bk:=D.nx } σ2 H2)):Ql wi g tb D σ H:=h
variable {Q:VK} {QA:List V->Hp->Prop} {QB:Bool->Hp->Prop}
theorem OH {i:Nat} {v:V} (e:σ[i]?=some (some v)) (h:Q v H):Oj i σ H Q:=⟨v,e,h⟩
theorem RB {v:V} (h:Q v H):tC v σ H Q:=h
theorem Qz {r:R2} {ta tb:TE} (h:ta σ H fun x H1=>tb σ H1 fun y H2=>r x y H2 Q):Qh r ta tb σ H Q:=h
theorem Qv {r:V->Hp->VK->Prop} {ta:TE} (h:ta σ H fun x H1=>r x H1 Q):Rf r ta σ H Q:=h
theorem QE {g:Int->Int->V} {i j:Int} (h:Q (g i j) H):MQ g (.int i) (.int j) H Q:=⟨i,j,rfl,rfl,h⟩
theorem gG {C:Int->Int->Prop} {g:Int->Int->V} {i j:Int} (hc:C i j) (h:Q (g i j) H):rI C g (.int i) (.int j) H Q:=⟨i,j,rfl,rfl,hc,h⟩
theorem RC {g:Int->V} {i:Int} (h:Q (g i) H):rU g (.int i) H Q:=⟨i,rfl,h⟩
theorem OX {i j:Int} (h:Q (.bl (decide (i=j))) H):RH (.int i) (.int j) H Q:=⟨rfl,by
 have e:decide (V.int i=V.int j)=decide (i=j):=by simp
 rw[e];exact h⟩
theorem OP {i j:Int} (h:Q (.bl (!decide (i=j))) H):rNe (.int i) (.int j) H Q:=⟨rfl,by
 have e:decide (V.int i=V.int j)=decide (i=j):=by simp
 rw[e];exact h⟩
theorem OW {i j:Str} (h:Q (.bl (decide (i=j))) H):RH (.str i) (.str j) H Q:=⟨rfl,by
 have e:decide (V.str i=V.str j)=decide (i=j):=by simp
 rw[e];exact h⟩
theorem Mu {t:TE} (h:t σ H fun x H'=>∃k,x=.bl k/\QB k H'):NC t σ H QB:=h
theorem Qw {t:TE} (h:t σ H fun x H'=>∃k,x=.bl k/\QB k H'):tB t σ H QB:=h
theorem OZ {t u:TT} (h:t σ H fun c H1=>if c=true then u σ H1 QB else QB false H1):Qm t u σ H QB:=h
theorem Qy {t u:TT} (h:t σ H fun c H1=>if c=true then QB true H1 else u σ H1 QB):tOr t u σ H QB:=h
theorem ON {t:TT} (h:t σ H fun c H1=>QB (!c) H1):Qi t σ H QB:=h
theorem MO {t u:TE} (h:t σ H fun x H1=>∃c,x=.bl c/\if c=true then u σ H1 Q else Q (.bl false) H1):NL t u σ H Q:=h
theorem Mx {t:TE} (h:t σ H fun x H1=>∃c,x=.bl c/\Q (.bl (!c)) H1):NF t σ H Q:=h
theorem OT {c:TT} {ta tb:TE} (h:c σ H fun b H1=>if b=true then ta σ H1 Q else tb σ H1 Q):tIf c ta tb σ H Q:=h
theorem OG (h:QB true H):Qa σ H QB:=h
theorem OO (h:QA [] H):Ip σ H QA:=h
theorem MJ {ta:TE} {tr:TA} (h:ta σ H fun x H1=>tr σ H1 fun xs H2=>QA (x :: xs) H2):uL ta tr σ H QA:=h
theorem ML {sp:Sp} {E:XK} {t:TA} (h:t σ H fun vs H1=>sp vs H1 Q E):JW sp [] E t σ H Q:=by
 have e:(fun vs H1=>sp (vs++[]) H1 Q E)=fun vs H1=>sp vs H1 Q E:=by funext vs H1;rw[oY]
 show t σ H fun vs H1=>sp (vs++[]) H1 Q E
 rw[e];exact h
theorem QC {r:List V->Hp->VK->Prop} {t:TA} (h:t σ H fun vs H1=>r vs H1 Q):RA r t σ H Q:=h
theorem FG {K:PySem.W.Frag} {p:Addr} {xs:List V} {i:Int} {v:V} (hx:uc K H p xs) (e:Gn xs i=some v) (h:Q v H):O1 K (.ref p) (.int i) H Q:=⟨p,xs,i,v,rfl,rfl,hx,e,h⟩
theorem cB {K:PySem.W.Frag} {p:Addr} {xs:List V} {i:Int} (hx:bV K H p xs) {v:V} (e:Gn xs i=some v) (h:Q v H):O2 K (.ref p) (.int i) H Q:=⟨p,xs,i,v,rfl,rfl,hx,e,h⟩
theorem MH {K:PySem.W.Frag} {p:Addr} {xs:List V} {i:Int} (hx:bV K H p xs) {v:V} (e:Gn xs i=some v) (h:Q v H):NQ K (.ref p) (.int i) H Q:=⟨p,xs,i,v,rfl,rfl,hx,e,h⟩
theorem fh {QH:Hp->Prop} {p:Addr} {xs:List V} {i:Int} {v:V} {j:Nat} {ys:List V} (hx:H p=some (.lst xs)) (e:JF xs.length i=some j) (ey:xs.set j v=ys) (h:QH (upd H p (.lst ys))):NP (.ref p) (.int i) v H QH:=⟨p,xs,i,j,rfl,rfl,hx,e,by rw[ey];exact h⟩
theorem MF {to ti:TE} {t:Gu} {v:V} {QS:St->Hp->Prop} (h:to σ H fun o H1=>ti σ H1 fun i H2=>t o i v H2 fun H3=>QS σ H3):QT to ti t v σ H QS:=h
theorem KC {t:TG} {u:LU} {v:V} {r:List V} {QS:St->Hp->Prop} (h:t v σ H fun σ' H'=>u r σ' H' QS):N3 t u (v :: r) σ H QS:=⟨v,r,rfl,h⟩
theorem MG {QS:St->Hp->Prop} (h:QS σ H):QU [] σ H QS:=⟨rfl,h⟩
theorem ME {K:PySem.W.Frag} {n:Nat} {t:LU} {a:Addr} {xs:List V} {QS:St->Hp->Prop} (hx:uc K H a xs) (hl:xs.length=n) (h:t xs σ H QS):Pn K n t (.ref a) σ H QS:=⟨a,xs,rfl,hx,hl,h⟩
theorem Qx {r:V->Option Int->Option Int->Hp->VK->Prop} {te:TE} {tl th:TO} (h:te σ H fun x H1=>tl σ H1 fun l H2=>th σ H2 fun u H3=>r x l u H3 Q):tSl r te tl th σ H Q:=h
theorem IV {QO:Option Int->Hp->Prop} (h:QO none H):GI σ H QO:=h
theorem Mw {t:TE} {QO:Option Int->Hp->Prop} (h:t σ H fun x H1=>∃i,x=.int i/\QO (some i) H1):ND t σ H QO:=h
variable {R:It->Hp->Prop} {K:PySem.W.Frag}
theorem Ky {tl:TE} (h:tl σ H fun x H1=>∃a,x=.ref a/\(∃xs,bV K H1 a xs)/\R (NA K a) H1):Ld K tl σ H R:=h
theorem MD {tl:TE} (h:tl σ H fun x H1=>∃a,x=.ref a/\(∃xs,uc K H1 a xs)/\R (PV K a) H1):QR K tl σ H R:=h
theorem Kx {ta:TA} (h:ta σ H fun vs H1=>∃j:Int,vs=[.int j]/\-(2^62)<=j/\j < 2^62/\R (Fd 0 j.toNat) H1):NW ta σ H R:=h
theorem Kw {ta:TA} (h:ta σ H fun vs H1=>∃i j:Int,vs=[.int i,.int j]/\(-(2^62)<=i/\i < 2^62/\-(2^62)<=j/\j < 2^62)/\R (Fd i (j - i).toNat) H1):NV ta σ H R:=h
theorem MK {wi:TI} {k:Nat} {cap:List Nat} {g:TG} {tf:TT} {te:TE} {σ₀:St} (e:JE k cap σ=σ₀) (h:wi σ H fun J H1=>xh J σ₀ g tf te Q H1):Eg wi k cap g tf te σ H Q:=by
 unfold Eg;rw[e];exact h
theorem Mt {g:TG} {tf:TT} {te:TE} {x:V} {NY:V->Hp->Prop} {NN:Hp->Prop} (h:g x σ H fun σ2 H2=>tf σ2 H2 fun b H3=>if b=true then te σ2 H3 NY else NN H3):wG σ g tf te x H NY NN:=h
theorem QD {T:String} {r:V->List V->Hp->VK->Prop} {to:TE} {t:TA} (h:to σ H fun x H1=>Ry K T x H1/\t σ H1 fun xs H2=>r x xs H2 Q):tBM K T r to t σ H Q:=h
def Q2 (Q:VK) (xs:List V) (H:Hp):Prop:=xs.length<=sizeLine/\∀p,H p=none->Q (.ref p) (upd H p (.tup xs))
def Q3 (Q:VK) (xs:List V) (H:Hp):Prop:=xs.length<=sizeLine/\∀p,H p=none->Q (.ref p) (upd H p (.lst xs))
theorem OI {t:TA} (h:t σ H (Q2 Q)):Qb t σ H Q:=h
theorem OQ {t:TA} (h:t σ H (Q3 Q)):Qj t σ H Q:=h
theorem kh {n:Nat} (h:Nat.ble n 1000=true):n<=sizeLine:=aY (bO (Nat.le_of_ble_eq_true h))
theorem cu {xs:List V} (h:∀p H',aL H H'->H' p=some (.tup xs)->Q (.ref p) H') (hl:Nat.ble xs.length 1000=true:=by rfl):Q2 Q xs H :=
 ⟨kh hl,fun p hp=>h p _ (aL.new hp) aM⟩
theorem dg {xs:List V} (h:∀p H',aL H H'->H p=none->H' p=some (.lst xs)->Q (.ref p) H') (hl:Nat.ble xs.length 1000=true:=by rfl):Q3 Q xs H :=
 ⟨kh hl,fun p hp=>h p _ (aL.new hp) hp aM⟩
theorem QP {A B:Prop} (h:B):if (!true)=true then A else B:=Nb h
theorem QQ {A B:Prop} (h:A):if (!false)=true then A else B:=QN h
def WB (tb:TS) (D:Ends) (Pv:St->Hp->Prop) (μ:St->Hp->Nat) (n:Nat) (σ:St) (H:Hp):Prop:=∃N:St->Hp->Prop,(∀σ' H',N σ' H'->∃m',m' < n/\(m'=μ σ' H'/\Pv σ' H'))/\tb { D with nx:=N,ct:=N,bk:=D.nx } σ H
theorem NO {tb:TS} {Pv:St->Hp->Prop} {μ:St->Hp->Nat} {n:Nat} (h:tb { D with nx:=fun σ' H'=>Pv σ' H'/\μ σ' H' < n,ct:=fun σ' H'=>Pv σ' H'/\μ σ' H' < n,bk:=D.nx } σ H):WB tb D Pv μ n σ H :=
 ⟨_,fun σ' H' ⟨p,l⟩=>⟨_,l,rfl,p⟩,h⟩
theorem CQ {c:TT} {tb:TS} (Pv:St->Hp->Prop) (μ:St->Hp->Nat) (h0:Pv σ H) (hs:∀σ H,Pv σ H->c σ H fun b H1=>if b=true then WB tb D Pv μ (μ σ H) σ H1 else D.nx σ H1):JV c tb D σ H:=by
 refine ⟨fun m σ H=>m=μ σ H/\Pv σ H,⟨_,rfl,h0⟩,?_⟩;rintro m σ H ⟨rfl,p⟩;exact hs σ H p
end
def ir (H:Hp) (p:Addr):Prop:=∃(q:Addr) (a b c:Int) (cs:List Int),H p=some (.lst [.int a,.int b,.int c,.ref q])/\H q=some (.lst (cs.map V.int))/\0<=a/\0<=c/\c<=(cs.length:Int)/\∀x∈cs,(0:Int)<=x
theorem JB {H:Hp} {p q:Addr} {a b c:Int} {cs:List Int} (hp:H p=some (.lst [.int a,.int b,.int c,.ref q])) (hq:H q=some (.lst (cs.map V.int))):q≠p:=fun e=>by
 rw[e,hp] at hq;have h:=HO.lst.inj (cm hq);cases cs with
 | nil=>cases h
 | cons x1 cs=>cases cs with
  | nil=>cases h
  | cons x2 cs=>cases cs with
   | nil=>cases h
   | cons x3 cs=>cases cs with
    | nil=>cases h
    | cons x4 cs=>simp at h
theorem ir.same {H H':Hp} {p:Addr} (h:ir H p) (e:aL H H'):ir H' p:=by obtain ⟨q,a,b,c,cs,h1,h2,r⟩:=h;exact ⟨q,a,b,c,cs,e _ _ h1,e _ _ h2,r⟩
theorem cT.tup {H H':Hp} {p r:Addr} {xs:List V} (u:cT p H H') (B:ir H p) (h:H r=some (.tup xs)):H' r=some (.tup xs):=by
 obtain ⟨q,a,b,c,cs,h1,_⟩:=B;exact u.1 r _ h fun e=>by rw[e,h1] at h;cases h
theorem cT.other {H H':Hp} {p r:Addr} {o:HO} (u:cT p H H') (n:r≠p) (h:H r=some o):H' r=some o:=u.1 r _ h n
theorem ir.inner {H:Hp} {p:Addr} (h:ir H p):∃q,Inner H p q/\∃xs,H q=some (.lst xs):=by obtain ⟨q,a,b,c,cs,h1,h2,_⟩:=h;exact ⟨q,⟨a,b,c,h1⟩,_,h2⟩
theorem ir.upd {H:Hp} {p q r:Addr} {o:HO} (h:ir H p) (hi:Inner H p q) (n1:r≠p) (n2:r≠q):ir (L2.upd H r o) p:=by
 obtain ⟨q',a,b,c,cs,h1,h2,z⟩:=h;have e:q'=q:=Inner.inj ⟨a,b,c,h1⟩ hi;subst e;exact ⟨q',a,b,c,cs,by rw[bI n1.symm];exact h1,by rw[bI n2.symm];exact h2,z⟩
theorem Inner.upd {H:Hp} {p q r:Addr} {o:HO} (hi:Inner H p q) (n1:r≠p):Inner (L2.upd H r o) p q:=by obtain ⟨a,b,c,h⟩:=hi;exact ⟨a,b,c,by rw[bI n1.symm];exact h⟩
def Mb:Sp:=fun vs H Q _=>∃p n,vs=[.ref p,.int n]/\ir H p/\0 < n/\n < 2^64/\∀v H',0<=v->v < n->ir H' p->cT p H H'->Q (.int v) H'
def Oz (K:PySem.W.Frag):Sp:=fun vs H Q _=>∃(a:Addr) (ns:List Int),vs=[.ref a]/\bV K H a (ns.map V.int)/\ns.length<=63/\∀p H',H p=none->ir H' p->aL H H'->Q (.ref p) H'
def CZ (K:PySem.W.Frag):Sp:=fun vs H Q _=>∃(a:Addr) (ns:List Int),vs=[.ref a]/\bV K H a (ns.map V.int)/\ns.length<=63/\∀H',Q (.bl true) H'
def Ou:Sp:=fun vs H Q _=>∃t b,vs=[.int t,.int b]/\0 < b/\Sz 8999 b/\∀r H',aL H H'->H' r=some (.tup [.int (lo t b),.int (hi t b)])->Q (.ref r) H'
def Qo:Sp:=fun vs H Q _=>∃a b,vs=[.int a,.int b]/\Q (.int (g a b)) H
def IE:Sp:=fun vs H Q _=>∃t b,vs=[.int t,.int b]/\b≠0/\Sz 8999 b/\∀r H',aL H H'->H' r=some (.tup [.int (lo (if b < 0 then -t else t) (if b < 0 then -b else b)),.int (hi (if b < 0 then -t else t) (if b < 0 then -b else b))])->Q (.ref r) H'
def N5 (a b c d:Int):Int:=a*d+c*b
def Lr (a b c d:Int):Int:=a*d - c*b
def Lq (a _b c _d:Int):Int:=a*c
def GR (K:PySem.W.Frag) (f:Int->Int->Int->Int->Int):Sp:=fun vs H Q _=>∃p q a b c d,vs=[.ref p,.ref q]/\uc K H p [.int a,.int b]/\uc K H q [.int c,.int d]/\0 < b/\0 < d/\Sz 4000 a/\Sz 4000 b/\Sz 4000 c/\Sz 4000 d /\
 ∀r H',aL H H'->H' r=some (.tup [.int (lo (f a b c d) (b*d)),.int (hi (f a b c d) (b*d))])->Q (.ref r) H'
theorem b6 {α β:Type} {F:α->β->Prop}:∀{l1 l1':List α} {l2 l2':List β},Paired F l1 l2->Paired F l1' l2'->Paired F (l1++l1') (l2++l2')
 | _,_,_,_,.nil,h=>h
 | _,_,_,_,.cons r t,h=>.cons r (b6 t h)
theorem dm {h:Heap} {a b:Addr} {o u:Obj} (ha:h.get? a=some o) (hb:h.get? b=some u) (hc:o.cls≠u.cls):a≠b:=fun e=>by
 subst e;rw[ha] at hb;cases hb;exact hc rfl
theorem pC {a b:String} (h:a≠b):Value.type a≠Value.type b:=fun e=>h (by injection e)
theorem Ca {h:Heap} {z TI TO i1 i2 l1 l2:Addr} {f0 a b:Value} {k1 k2:Nat} {xs ys:Array Value} (hz:IsZip h z TI TO f0) (hTI:IsPair h TI (.ref i1) (.ref i2)) (hTO:IsPair h TO a b)
  (h1:h.IsListIter i1 l1 k1) (h2:h.IsListIter i2 l2 k2) (hl1:h.IsList l1 xs) (hl2:h.IsList l2 ys) (hT:TI≠TO) (hi:i1≠i2):ZipApart z TI TO i1 i2 l1 l2:=by
 obtain ⟨o1,g1,c1,_⟩:=h1;obtain ⟨o2,g2,c2,_⟩:=h2;obtain ⟨p1,q1,d1,_⟩:=hl1;obtain ⟨p2,q2,d2,_⟩:=hl2;refine ⟨dm hTI hz ?_,dm hTO hz ?_,dm g1 hz ?_,dm g2 hz ?_,hT,dm hTI g1 ?_,dm hTI g2 ?_,dm hTO g1 ?_,dm hTO g2 ?_,hi,dm q1 hz ?_,dm q1 hTO ?_,dm q1 g1 ?_,dm q1 g2 ?_,dm q2 hz ?_,dm q2 hTO ?_,dm q2 g1 ?_,dm q2 g2 ?_⟩
 all_goals first
  | (rw[d1];first | (rw[c1];exact pC (by decide)) | (rw[c2];exact pC (by decide)) | exact pC (by decide))
  | (rw[d2];first | (rw[c1];exact pC (by decide)) | (rw[c2];exact pC (by decide)) | exact pC (by decide))
  | (rw[c1];exact pC (by decide))
  | (rw[c2];exact pC (by decide))
  | exact pC (by decide)
def PC (K : PySem.W.Frag) (l1 l2 : Addr) : It :=
  ⟨fun i H => ∃ xs ys x y, bV K H l1 xs /\ bV K H l2 ys /\ xs[i]? = some x /\ ys[i]? = some y,
   fun i H v H' => ∃ p x y, v = .ref p /\ H p = none /\ H' = upd H p (.tup [x, y]) /\ (∀ xs, bV K H l1 xs → xs[i]? = some x) /\ ∀ ys, bV K H l2 ys → ys[i]? = some y,
   fun i H => ∃ xs ys, bV K H l1 xs /\ bV K H l2 ys /\ (xs.length ≤ i \/ ys.length ≤ i)⟩
def tnZ (z TI TO i1 i2 l1 l2:Addr) (i:Nat) (h:Heap):Prop:=IsZip h z TI TO .none/\IsPair h TI (.ref i1) (.ref i2)/\(∃a b,IsPair h TO a b)/\h.IsListIter i1 l1 i/\h.IsListIter i2 l2 i
theorem JU {P:Program} {w:World} {K:PySem.W.Frag} {elts:List Expr} {kk:Nat} {tpos:Pos} (z TI TO i1 i2 l1 l2:Addr) (hT:TI≠TO) (hi:i1≠i2):Turn P w K (.Tuple elts kk tpos) (PC K l1 l2) [z,TI,TO,i1,i2] z (tnZ z TI TO i1 i2 l1 l2) where
 mem:=by simp
 obj:=fun i h st b hb=>by
  obtain ⟨hz,hTI,⟨a,c,hTO⟩,⟨o1,g1,c1,d1⟩,⟨o2,g2,c2,d2⟩⟩:=st;simp only[aG,ba,or_false] at hb;rcases hb with rfl | rfl | rfl | rfl | rfl
  ·exact ⟨_,hz,fun v q=>nomatch q⟩
  ·exact ⟨_,hTI,fun v q=>nomatch q⟩
  ·exact ⟨_,hTO,fun v q=>nomatch q⟩
  ·exact ⟨o1,g1,fun v q=>by rw[d1] at q;cases q⟩
  ·exact ⟨o2,g2,fun v q=>by rw[d2] at q;cases q⟩
 keep:=fun i h h' st k=>by
  obtain ⟨hz,hTI,⟨a,c,hTO⟩,h1,h2⟩:=st;exact ⟨k z (by simp) _ hz,k TI (by simp) _ hTI,⟨a,c,k TO (by simp) _ hTO⟩,h1.at fun o e=>k i1 (by simp) o e,h2.at fun o e=>k i2 (by simp) o e⟩
 item:=by
  intro X hP hw hK hc i pins s σ H E I hf st hg;subst hP hw hK;obtain ⟨hz,hTI,⟨a,c,hTO⟩,h1,h2⟩:=st;obtain ⟨xs,ys,x,y,qx,qy,ex,ey⟩:=hg;obtain ⟨us,rx,px,_⟩:=I.list qx;obtain ⟨ws,ry,py,_⟩:=I.list qy;obtain ⟨u,eu,ru⟩:=rx.get ex;obtain ⟨v,ev,rv⟩:=ry.get ey;have D:=Ca hz hTI hTO h1 h2 px.isList py.isList hT hi;refine wpAny_pyNext_zip_item D hz hTI hTO h1 h2 px.isList py.isList (x:=u) (y:=v) (by simpa using eu) (by simpa using ev) fun h' a1 a2 a3 a4 a5 a6 hk=>?_
  refine ⟨_,rfl,wpAny_letOwnedTupleGo_zip a1 fun h'' hz'' hs=>?_⟩;have hT0:H s.heap.objs.size=none:=I.hok.fresh (ao _);have zne:s.heap.objs.size≠z:=Ih (Heap.lt_size hz)
  have up:∀b o,b∉[z,TO,i1,i2]->s.heap.get? b=some o->h''.get? b=some o:=fun b o hb e=>by
   simp only[aG,ba,or_false,not_or] at hb;exact (hs.2 b hb.1).trans (hk b o hb.1 hb.2.1 hb.2.2.1 hb.2.2.2 e)
  have fx:∀b∈[z,TO,i1,i2],lQ X pins H b:=fun b hb=>hf b (by
   simp only[aG,ba,or_false] at hb ⊢;rcases hb with rfl | rfl | rfl | rfl <;> simp)
  have nx:∀b o,H b=some o->b∉[z,TO,i1,i2]:=fun b o e hb=>by
   have:=(fx b hb).1;rw[this] at e;cases e
  have nT:∀{b:Addr} {o:HO},H b=some o->b≠s.heap.objs.size:=fun e q=>by rw[q,hT0] at e;cases e
  have tup:h''.get? s.heap.objs.size=some { cls:=.type "tuple",data:=.seq #[u,v] }:=(hs.2 _ zne).trans a5
  have I2:Inv X pins σ (upd H s.heap.objs.size (.tup [x,y])) { s with heap:=h'' }:=by
   refine I.step (g':=s.gens) (d':=s.drawn) (t':=s.toks) (ch:=[z,TO,i1,i2]) (fun b hb=>?_) (fun b o _ _ hb e _=>up b o hb e) (fun b o _ _ hb e _=>⟨o.slots,up b o hb e⟩) (fun b o hb e n=>?_)
    (fun b o hb e=>⟨o,up b o hb e⟩) (fun b q e=>by rw[bI (nT e)];exact e) (fun b o q e=>by rw[bI (nT e)];exact e) (fun b q e=>⟨#[],by rw[bI (nT e),e];simp⟩) (fun m hm=>?_) (fun b o e=>?_) I.bare
   ·obtain ⟨_,f1,_,f3,f4,f5⟩:=fx b hb;exact ⟨f3,f1,f4,f5⟩
   ·rw[bI (cg (Heap.lt_size e))];exact n
   ·obtain ⟨o,es,ep,ho,r⟩:=hm;exact ⟨o,es,ep,up _ o (fun z=>(fx _ z).2.1 rfl) ho,r⟩
   ·by_cases hb:b=s.heap.objs.size
    ·subst hb;rw[aM] at e;cases e;exact ⟨kh rfl,[u,v],.cons ru (.cons rv .nil),⟨_,tup,rfl,_,rfl⟩⟩
    ·rw[bI hb] at e;refine (I.hok b o e).stay (fun c v' hc q=>up c v' ?_ q) (fun c q=>by rw[bI (nT q)];exact q) fun c xs q=>by rw[bI (nT q)];exact q
     rcases hc with rfl | hc
     ·exact nx _ _ e
     ·exact nx _ _ hc
  refine ⟨.ref s.heap.objs.size,_,I2,rfl,⟨_,x,y,rfl,hT0,rfl,fun xs' q=>by rw[I.list_inj q qx];exact ex,fun ys' q=>by rw[I.list_inj q qy];exact ey⟩,?_,fun b hb=>?_⟩
  ·refine ⟨hz'',(hs.2 _ D.TIz).trans (hk _ _ D.TIz D.TITO D.TIi1 D.TIi2 hTI),⟨_,_,(hs.2 _ D.TOz).trans a2⟩,a3.at fun o e=>(hs.2 _ D.i1z).trans e,a4.at fun o e=>(hs.2 _ D.i2z).trans e⟩
  ·obtain ⟨o,e,_⟩:∃o,s.heap.get? b=some o/\True:=by
    obtain ⟨o1,g1,_⟩:=h1;obtain ⟨o2,g2,_⟩:=h2;simp only[aG,ba,or_false] at hb;rcases hb with rfl | rfl | rfl | rfl | rfl
    ·exact ⟨_,hz,trivial⟩
    ·exact ⟨_,hTI,trivial⟩
    ·exact ⟨_,hTO,trivial⟩
    ·exact ⟨_,g1,trivial⟩
    ·exact ⟨_,g2,trivial⟩
   rw[bI (cg (Heap.lt_size e))];exact (hf b hb).1
 done:=by
  intro X hP hw hK hc i pins s σ H E I hf st hg;subst hP hw hK;obtain ⟨hz,hTI,⟨a,c,hTO⟩,h1,h2⟩:=st;obtain ⟨xs,ys,qx,qy,hend⟩:=hg;obtain ⟨us,rx,px,_⟩:=I.list qx;obtain ⟨ws,ry,py,_⟩:=I.list qy;have lx:=rx.length;have ly:=ry.length;have D:=Ca hz hTI hTO h1 h2 px.isList py.isList hT hi
  refine wpAny_pyNext_zip_end (I.ok.hd hc) D hz hTI hTO h1 h2 px.isList py.isList (by
   rcases hend with q | q
   ·exact .inl (by simp;lia)
   ·exact .inr (by simp;lia)) fun h' hk=>⟨rfl,?_⟩
  have up:∀b o,b∉[z,TO,i1,i2]->s.heap.get? b=some o->h'.get? b=some o:=fun b o hb e=>by
   simp only[aG,ba,or_false,not_or] at hb;exact hk b o hb.1 hb.2.1 hb.2.2.1 hb.2.2.2 e
  have fx:∀b∈[z,TO,i1,i2],lQ X pins H b:=fun b hb=>hf b (by
   simp only[aG,ba,or_false] at hb ⊢;rcases hb with rfl | rfl | rfl | rfl <;> simp)
  have nx:∀b o,H b=some o->b∉[z,TO,i1,i2]:=fun b o e hb=>by
   have:=(fx b hb).1;rw[this] at e;cases e
  refine I.step (g':=s.gens) (d':=s.drawn) (t':=s.toks) (ch:=[z,TO,i1,i2]) (fun b hb=>?_) (fun b o _ _ hb e _=>up b o hb e) (fun b o _ _ hb e _=>⟨o.slots,up b o hb e⟩) (fun b o hb e n=>n)
   (fun b o hb e=>⟨o,up b o hb e⟩) (fun b q e=>e) (fun b o q e=>e) (fun b q e=>⟨#[],by rw[e];simp⟩) (fun m hm=>?_) (fun b o e=>?_) I.bare
  ·obtain ⟨_,f1,_,f3,f4,f5⟩:=fx b hb;exact ⟨f3,f1,f4,f5⟩
  ·obtain ⟨o,es,ep,ho,r⟩:=hm;exact ⟨o,es,ep,up _ o (fun z=>(fx _ z).2.1 rfl) ho,r⟩
  ·refine (I.hok b o e).stay (fun c v' hc q=>up c v' ?_ q) (fun c q=>q) fun c xs q=>q
   rcases hc with rfl | hc
   ·exact nx _ _ e
   ·exact nx _ _ hc
 self:=fun _ _ _ _ _ st h=>wpAny_pyIter_zip st.1 h
section
variable {X:Cx}
def Pj (K:PySem.W.Frag) (ta:TA):TI:=fun σ H R=>ta σ H fun vs H1=>∃l1 l2,vs=[.ref l1,.ref l2]/\(∃xs,bV K H1 l1 xs)/\(∃ys,bV K H1 l2 ys)/\R (PC K l1 l2) H1
theorem vO {a b:Expr} {ta:TA} {p pos tpos:Pos} {elts:List Expr} {kk:Nat} (hg:Gl X "zip") (hm:X.mg "zip"=none) (ha:PA X [a,b] ta) (hs:starEach [a,b] X.env=[(false,eval a X.env),(false,eval b X.env)]:=by rfl) (hs2:starEach [b] X.env=[(false,eval b X.env)]:=by rfl) :
  PI X (.Tuple elts kk tpos) (.Call (.Name "zip" p) [a,b] [] pos) (Pj X.K ta):=by
 intro pins s σ H R I h;refine Call_ (lM I hg hm boot_zip (PyProof.Rows.callWith_type1 (gL (ha pos pins s σ H _ I h) fun us s1 ⟨vs,H1,I1,r1,q1⟩=>?_) (by rw[hs,hs2]) (by rw[hs2];rfl)));obtain ⟨l1,l2,e,⟨xs,qx⟩,⟨ys,qy⟩,q⟩:=q1;subst e;obtain ⟨u,v,rfl,ru,rv⟩:=vals2 r1;cases ru;cases rv;obtain ⟨us,rx,px,_⟩:=I1.list qx;obtain ⟨ws,ry,py,_⟩:=I1.list qy;refine call_zip_2 px.isList py.isList fun h' a1 a2 a3 a4 a5 a6 hk=>wpAny_pyIter_zip a1 ?_
 have I2:Inv X pins σ H1 { s1 with heap:=h' }:=I1.kept (t':=s1.toks) hk;refine ⟨_,[s1.heap.objs.size+4,s1.heap.objs.size+2,s1.heap.objs.size+3,s1.heap.objs.size,s1.heap.objs.size+1],_,_,H1,rfl,I2,JU (s1.heap.objs.size+4) (s1.heap.objs.size+2) (s1.heap.objs.size+3) s1.heap.objs.size (s1.heap.objs.size+1) l1 l2 (cg (jl _)) (cg (jl _)),⟨a1,a2,⟨_,_,a3⟩,a4,a5⟩,fun b hb=>?_,q⟩
 have hb':s1.heap.objs.size<=b:=by
  simp only[aG,ba,or_false] at hb;rcases hb with rfl | rfl | rfl | rfl | rfl <;> first | exact zQ _ _ | exact ao _
 exact I1.fpOk hb' (I1.hok.fresh hb')
theorem Br (hc:X.calm=true):uC X (.builtin "all") (fun xs H Q=>∃(p:Addr) (bs:List Bool),xs=[.ref p]/\bV X.K H p (bs.map V.bl)/\Q (.bl (bs.all id)) H):=by
 intro pins s σ H xs us Q I r h;obtain ⟨p,bs,rfl,hp,q⟩:=h;obtain ⟨u,rfl,ru⟩:=vals1 r;cases ru;obtain ⟨vs,rv,pl,hz⟩:=I.list hp
 have hb:PyProof.Rows.LSm.BoolsAre vs bs:=by
  clear q hp pl hz
  induction bs generalizing vs with
  | nil=>cases rv;exact .nil
  | cons b bs ih =>
   rw[iu] at rv;cases rv with
   | cons r1 r2=>cases r1;exact .cons b (ih _ r2)
 have hlt:p < s.heap.objs.size:=by obtain ⟨_,e,_⟩:=pl.isList;exact Heap.lt_size e
 refine call_all_walk (wpAny_pyIter_list pl.isList ?_)
 refine ⟨s.heap.objs.size,[s.heap.objs.size,p],[s.heap.objs.size],vs.toArray.size,_,_,fun i=>(bs[i]?).getD true,rfl,Walks.list (A:=X.A.in1) (I.ok.hd hc) _ p (cg hlt) vs.toArray,
  ⟨⟨_,Heap.get?_push_size _ rfl,rfl,rfl⟩,pl.isList.push _⟩,fun i v s' Q' E' hP hQ=>?_,fun h' tk hk=>?_⟩
 ·obtain ⟨b,e,rfl⟩:=hb.get i v (by simpa using hP);simp only[e,Option.getD_some] at hQ;exact wpAny_truthy_bool hQ
 ·have e:((List.range vs.toArray.size).all fun i=>(bs[i]?).getD true)=bs.all id:=by
   rw[aP,hb.length];exact PyProof.Rows.LSm.range_all bs
  rw[e];exact ⟨.bl _,H,I.kept (t':=tk) (PyProof.Rows.LSm.kept_iter hk),rfl,q⟩
theorem LH (hc:X.calm=true):uC X (.builtin "sum") (fun xs H Q=>∃(p:Addr) (ns:List Int),xs=[.ref p]/\bV X.K H p (ns.map V.int)/\Q (.int ns.sum) H):=by
 intro pins s σ H xs us Q I r h;obtain ⟨p,ns,rfl,hp,q⟩:=h;obtain ⟨u,rfl,ru⟩:=vals1 r;cases ru;obtain ⟨vs,rv,pl,_⟩:=I.list hp;have hi:IntsAre vs ns:=intsAre_of rv;obtain ⟨xs,hx⟩:=hi.allInts.items;have hl':s.heap.IsList p (intItems xs):=hx ▸ pl.isList;refine sum_intListG (I.ok.hd hc) hl' fun h' tk t' hk=>?_
 have e1:ns=xs.toList.map (·.1):=by
  rw[<- nums_intItems,<- hx];exact (show numsOf vs.toArray.toList=ns from hi.numsOf).symm
 have e2:preSum (numAt xs) xs.size=ns.sum:=by
  rw[preSum_eq,aH (by simp),e1]
 rw[e2];exact ⟨.int _,H,I.kept (t':=tk) hk,⟨_,rfl⟩,q⟩
end
section
variable {K:PySem.W.Frag} {l1 l2:Addr} {xs ws:List V} {g:TG} {tf:TT} {te:TE} {Q:VK} {σ₀:St} {H:Hp}
theorem vo (Pv:Nat->List V->Hp->Prop) (hz:xs.length<=sizeLine) (hw:ws.length=xs.length) (h0:Pv 0 [] H) (hl:∀i ys H,i<=xs.length->Pv i ys H->bV K H l1 xs/\bV K H l2 ws)
  (hs:∀i x y ys H p,xs[i]?=some x->ws[i]?=some y->ys.length<=i->Pv i ys H->H p=none->wG σ₀ g tf te (.ref p) (upd H p (.tup [x,y])) (fun y H'=>Pv (i+1) (ys++[y]) H') (fun H'=>Pv (i+1) ys H'))
  (hd:∀ys H,ys.length<=xs.length->Pv xs.length ys H->∀p,H p=none->Q (.ref p) (upd H p (.lst ys))):xh (PC K l1 l2) σ₀ g tf te Q H:=by
 refine ⟨fun i m ys H=>m=xs.length - i/\i<=xs.length/\ys.length<=i/\Pv i ys H,⟨xs.length,by simp,bD _,bD _,h0⟩,?_⟩;rintro i m ys H ⟨rfl,hi,hy,p⟩;obtain ⟨q1,q2⟩:=hl i ys H hi p;by_cases hlt:i < xs.length
 ·refine .inr ⟨⟨xs,ws,xs[i],ws[i]'(by lia),q1,q2,by simp [hlt],by simp⟩,by lia,fun y H'=>Pv (i+1) (ys++[y]) H',fun H'=>Pv (i+1) ys H',fun y H' p'=>⟨xs.length - (i+1),by lia,rfl,hlt,by rw[av,bU];lia,p'⟩,fun H' p'=>⟨xs.length - (i+1),by lia,rfl,hlt,by lia,p'⟩,fun x H' y=>?_⟩;obtain ⟨r,x',y',rfl,hr,rfl,e1,e2⟩:=y;exact hs i x' y' ys _ r (e1 xs q1) (e2 ws q2) hy p hr
 ·have e:i=xs.length:=by lia
  subst e;exact .inl ⟨⟨xs,ws,q1,q2,.inl (ao _)⟩,by lia,hd ys H hy p⟩
theorem Nf {tb:TS} {D:Ends} {σ:St} (Pv:Nat->St->Hp->Prop) (hw:ws.length=xs.length) (h0:Pv 0 σ H) (hl:∀i σ H,i<=xs.length->Pv i σ H->bV K H l1 xs/\bV K H l2 ws)
  (hs:∀i x y σ H p,xs[i]?=some x->ws[i]?=some y->Pv i σ H->H p=none->g (.ref p) σ (upd H p (.tup [x,y])) fun σ2 H2=>tb { D with nx:=Pv (i+1),ct:=Pv (i+1),bk:=D.nx } σ2 H2) (hd:∀σ H,Pv xs.length σ H->D.nx σ H) :
  ∃W:Nat->Nat->St->Hp->Prop,(∃m,W 0 m σ H)/\∀i m σ H,W i m σ H →
   ((PC K l1 l2).stop i H/\D.nx σ H)\/((PC K l1 l2).go i H/\∃N:St->Hp->Prop,(∀σ' H',N σ' H'->∃m',m' < m/\W (i+1) m' σ' H')/\∀x H',(PC K l1 l2).yld i H x H'->g x σ H' fun σ2 H2=>tb { D with nx:=N,ct:=N,bk:=D.nx } σ2 H2):=by
 refine ⟨fun i m σ H=>m=xs.length - i/\i<=xs.length/\Pv i σ H,⟨xs.length,by simp,bD _,h0⟩,?_⟩;rintro i m σ H ⟨rfl,hi,p⟩;obtain ⟨q1,q2⟩:=hl i σ H hi p;by_cases hlt:i < xs.length
 ·refine .inr ⟨⟨xs,ws,xs[i],ws[i]'(by lia),q1,q2,by simp [hlt],by simp⟩,Pv (i+1),fun σ' H' p'=>⟨xs.length - (i+1),by lia,rfl,hlt,p'⟩,fun x H' y=>?_⟩;obtain ⟨r,x',y',rfl,hr,rfl,e1,e2⟩:=y;exact hs i x' y' σ _ r (e1 xs q1) (e2 ws q2) p hr
 ·have e:i=xs.length:=by lia
  subst e;exact .inl ⟨⟨xs,ws,q1,q2,.inl (ao _)⟩,hd σ H p⟩
end
section
variable {X:Cx}
theorem vP (K:PySem.W.Frag) (n:Nat) {es:List Expr} {k:Nat} {pos:Pos} {t:LU} (h:QZ X es t) (hK:X.K=K:=by rfl) (hc:X.calm=true:=by rfl)
  (hn:(assignEach es X.env).length=n:=by rfl) (hst:(assignEach es X.env).findIdx? (·.1)=none:=by rfl):PG X (.Tuple es k pos) (Pn K n t):=by subst hK;exact uS hc h hn hst
theorem tx (K:PySem.W.Frag) (hK:X.K=K):Q4 X (O1 K):=by subst hK;exact b8
theorem iD (K:PySem.W.Frag) (hK:X.K=K):Q4 X (O2 K):=by subst hK;exact bL
theorem Ez (K:PySem.W.Frag) {tg l:Expr} {tl:TE} (hl:PE X l tl) (hK:X.K=K:=by rfl):PI X tg l (Ld K tl):=by subst hK;exact cQ hl
theorem Km (K:PySem.W.Frag) (hK:X.K=K):RS X (O0 K):=by subst hK;exact C1
end
theorem eI {X:Cx} {e e':Expr} {es:List Expr} {te:TE} {t:TA} (h:e=e') (ha:PE X e' te) (hr:PA X es t) (hs:∀l,starEach (e' :: l) X.env=(false,eval e' X.env) :: starEach l X.env:=by intro _;rfl):PA X (e :: es) (uL te t):=by subst h;exact aa ha hr (hs _)
section
variable {σ:St} {H:Hp} {D:Ends} {Q:VK}
theorem pA {l:Addr} {xs:List V} {y:V} (hl:H l=some (.lst xs)) (hz:xs.length < sizeLine) (h:Q .non (upd H l (.lst (xs++[y])))):GU (.ref l) [y] H Q:=⟨l,xs,y,rfl,rfl,hl,hz,h⟩
theorem MC {K:PySem.W.Frag} {ta:TA} {R:It->Hp->Prop} (h:ta σ H fun vs H1=>∃l1 l2,vs=[.ref l1,.ref l2]/\(∃xs,bV K H1 l1 xs)/\(∃ys,bV K H1 l2 ys)/\R (PC K l1 l2) H1):Pj K ta σ H R:=h
theorem kr {l b:Addr} {xs zs:List V} (h1:H l=some (.lst xs)) (h2:H b=some (.lst zs)) (hz:xs.length+zs.length<=sizeLine) (h:∀p H',aL H H'->H p=none->H' p=some (.lst (xs++zs))->Q (.ref p) H'):QG (.ref l) (.ref b) H Q :=
 ⟨l,b,xs,zs,rfl,rfl,h1,h2,hz,fun p hp=>h p _ (aL.new hp) hp aM⟩
theorem OJ {K:PySem.W.Frag} {a:Addr} {xs:List V} {lo hi:Option Int} (h1:bV K H a xs) (h:∀p H',aL H H'->H p=none->H' p=some (.lst (wF xs lo hi))->Q (.ref p) H'):O0 K (.ref a) lo hi H Q :=
 ⟨a,xs,rfl,h1,fun p hp=>h p _ (aL.new hp) hp aM⟩
theorem nJ {α:Type} {xs:List α} {i:Int} (h0:0<=i) (h1:i < xs.length):∃v,Gn xs i=some v/\v∈xs/\xs[i.toNat]?=some v:=by
 have hj:i.toNat < xs.length:=by lia
 refine ⟨xs[i.toNat],?_,aJ hj,by simp [hj]⟩;have:=eC (xs:=xs) (j:=i.toNat) (v:=xs[i.toNat]) (by simp [hj]);rwa [Int.toNat_of_nonneg h0] at this
end
inductive Kn (H:Hp):V->Prop where
 | non:Kn H .non
 | bl (b:Bool):Kn H (.bl b)
 | int (i:Int):Kn H (.int i)
 | str (x:Str):Kn H (.str x)
 | lst {a:Addr} {xs:List V} (e:H a=some (.lst xs)):Kn H (.ref a)
 | tup {a:Addr} {xs:List V} (e:H a=some (.tup xs)):Kn H (.ref a)
 | dic {a:Addr} {kvs:List (Key×V)} (e:H a=some (.dK kvs)):Kn H (.ref a)
theorem dd {α β:Type} {F:α->β->Prop}:∀{l1:List α} {l2:List β} {y:β},Paired F l1 l2->y∈l2->∃x∈l1,F x y
 | _,_,_,.nil,h=>nomatch h
 | _,_,_,.cons r t,h=>by
  rcases aG.mp h with rfl | h
  ·exact ⟨_,du,r⟩
  ·obtain ⟨x,hx,q⟩:=dd t h;exact ⟨x,cb _ hx,q⟩
theorem cF {α β:Type} {F:α->β->Prop} {l1:List α} {l2:List β} {i:Nat} {y:β} (h:Paired F l1 l2) (e:l2[i]?=some y):∃x,l1[i]?=some x/\F x y:=by
 have hl:=h.length;have hi:i < l2.length:=(aI.mp e).1;refine ⟨l1[i]'(by lia),by simp,?_⟩;have:=lH h (i:=i) (by lia) hi;have e2:l2[i]=y:=(aI.mp e).2;rwa [e2] at this
def zL (n:Int×Int):Prop:=0 < n.2/\Int.gcd n.1 n.2=1/\Sz 8000 n.1/\Sz 8000 n.2
theorem take_snoc {α:Type} {l:List α} {i:Nat} {v:α} (h:l[i]?=some v):l.take (i+1)=l.take i++[v]:=by rw[List.take_add_one,h];rfl
theorem aL.after {H H':Hp} {r:Addr} {o:HO} (s:aL H H') (h:H r=Option.none):aL H (upd H' r o):=fun b u e=>by rw[bI (fK e h)];exact s b u e
theorem cT.after {H H':Hp} {b r:Addr} {o:HO} (s:cT b H H') (h:H r=Option.none):cT b H (upd H' r o):=⟨fun c u e n=>by rw[bI (fK e h)];exact s.1 c u e n,fun q hi=>(s.2 q hi).upd fun z=>by obtain ⟨_,_,_,e⟩:=hi;rw[<- z,h] at e;cases e⟩
theorem cT.same {H H' H'':Hp} {b:Addr} (s:cT b H H') (e:aL H' H''):cT b H H'':=s.trans e.upto
theorem DR {α:Type} {Pr:α->Prop} {l:List α} {a:α} (h:∀n∈l,Pr n) (ha:Pr a):∀n∈l++[a],Pr n:=fun n hn=>by
 rcases az.mp hn with hn | hn
 ·exact h n hn
 ·have e:n=a:=by simpa using hn
  rw[e];exact ha
abbrev Bw (h:Heap) (z TI TO:Addr) (f0 f1:Value):Prop:=h.get? z=some { cls:=.type "zip",dict:=none,data:=.fields #[f0,f1,.bool false,.ref TI,.ref TO],slots:=#[] }
section
variable {prog:Program} {w:World} {A:Around} {E:Value->Shared->Prop} {s:Shared}
theorem Gr {a:Addr} {o:Obj} {Q:Option Obj->Shared->Prop} (e:s.heap.get? a=some o) (h:Q (some o) s):wpAny (model prog w) A (loadIfAlive a) Q E s:=by
 intro Γ p hp;show Sem.wp _ _ (.loadIfAlive a .pure) _ _ _ _
 simp only[Sem.wp_loadIfAlive,e];exact wpAny_pure h Γ p hp
theorem AV {z TI TO T:Addr} {b1:Bool} {o:Obj} {Q:Bool->Shared->Prop} (zr:Bw s.heap z TI TO (rawInt T) (.bool b1)) (al:s.heap.get? T=some o)
  (h:∀h',Bw h' z TI TO (rawInt T) (.bool true)->Heap.SameBut z s.heap h'->Q false { s with heap:=h' }):wpAny (model prog w) A (Builtin.SmallTypes.ownedTupleIsFree (.ref z)) Q E s:=by
 unfold Builtin.SmallTypes.ownedTupleIsFree;refine wpAny_bind (wpAny_field zr rfl (x:=rawInt T) rfl ?_);refine wpAny_bind (Gr (a:=T) al ?_);refine wpAny_bind (wpAny_field zr rfl (x:=.bool b1) rfl ?_);cases b1 with
 | true=>exact wpAny_pure (h _ zr (.refl ..))
 | false=>exact wpAny_bind (wpAny_setField_rec zr (by simp) fun h' zr' sb=>wpAny_pure (h h' zr' sb))
theorem Jn {z TI TO T i1 i2 l1 l2:Addr} {k1 k2:Nat} {us ws:Array Value} {u v:Value} {b1:Bool} {o:Obj} {Q:Value->Shared->Prop} (D:ZipApart z TI TO i1 i2 l1 l2) (zr:Bw s.heap z TI TO (rawInt T) (.bool b1)) (al:s.heap.get? T=some o)
  (pt:IsPair s.heap TI (.ref i1) (.ref i2)) (j1:s.heap.IsListIter i1 l1 k1) (j2:s.heap.IsListIter i2 l2 k2) (m1:s.heap.IsList l1 us) (m2:s.heap.IsList l2 ws) (eu:us[k1]?=some u) (ev:ws[k2]?=some v)
  (hQ:∀h',Bw h' z TI TO (rawInt T) (.bool true)->h'.IsListIter i1 l1 (k1+1)->h'.IsListIter i2 l2 (k2+1)->IsPair h' s.heap.objs.size u v->(∀c o,c≠z->c≠i1->c≠i2->s.heap.get? c=some o->h'.get? c=some o)->Q (.ref s.heap.objs.size) { s with heap:=h' }) :
  wpAny (model prog w) A (Builtin.«zip.__next__» ⟨[.ref z],[]⟩) (fun fin s'=>∃v,fin=.done (.ret v)/\Q v s') E s:=by
 change wpAny _ _ (field (Value.ref z) 2 >>= _) _ _ s
 refine wpAny_bind (wpAny_field zr rfl (x:=.bool false) rfl ?_)
 change wpAny _ _ (field (Value.ref z) 3 >>= _) _ _ s
 refine wpAny_bind (wpAny_field zr rfl (x:=.ref TI) rfl (wpAny_bind (wpAny_seqItems pt rfl ?_)))
 change wpAny _ _ (Builtin.SmallTypes.ownedTupleIsFree (Value.ref z) >>= _) _ _ s
 refine wpAny_bind (AV zr al fun g1 zr1 sb1=>?_);simp only[jG,if_false];refine wpAny_bind ?_;rw[<- Array.forIn_toList];simp only[LY,CO];have j1':=j1.extBut sb1.extBut D.i1z;have m1':=m1.extBut sb1.extBut D.l1z;refine wpAny_bind (wpAny_bind (wpAny_holding ?_))
 change wpAny _ _ (Builtin.SmallTypes.nextOf (Value.ref i1) >>= _) _ _ _
 refine wpAny_bind (wpAny_nextOf_list_item j1' m1' eu fun g2 j1a sb2=>wpAny_pure ?_);refine wpAny_pure ?_;have j2':=(j2.extBut sb1.extBut D.i2z).extBut sb2.extBut D.i12.symm;have m2':=(m2.extBut sb1.extBut D.l2z).extBut sb2.extBut D.l2i1;refine wpAny_bind (wpAny_bind (wpAny_holding ?_))
 change wpAny _ _ (Builtin.SmallTypes.nextOf (Value.ref i2) >>= _) _ _ _
 refine wpAny_bind (wpAny_nextOf_list_item j2' m2' ev fun g3 j2a sb3=>wpAny_pure ?_);refine wpAny_pure (wpAny_pure ?_);refine wpAny_bind (wpAny_newTuple (hsz:=kh rfl) ?_);have sz:g3.objs.size=s.heap.objs.size:=by rw[sb3.1,sb2.1,sb1.1]
 have up:∀c o,c≠z->c≠i1->c≠i2->s.heap.get? c=some o->g3.get? c=some o:=fun c o c1 c2 c3 e=>sb3.extBut _ _ c3 (sb2.extBut _ _ c2 (sb1.extBut _ _ c1 e))
 have zr3:Bw g3 z TI TO (rawInt T) (.bool true):=sb3.extBut _ _ D.i2z.symm (sb2.extBut _ _ D.i1z.symm zr1);refine wpAny_pure ⟨_,rfl,?_⟩
 change Q (.ref g3.objs.size) { s with heap:=g3.push { cls:=.type "tuple",data:=.seq #[u,v] } }
 have last:=hQ (g3.push { cls:=.type "tuple",data:=.seq #[u,v] }) (Heap.get?_push_of_some _ zr3) ((j1a.extBut sb3.extBut D.i12).at fun o e=>Heap.get?_push_of_some _ e) (j2a.at fun o e=>Heap.get?_push_of_some _ e)
  (by rw[<- sz];exact Heap.get?_push_size _ rfl) fun c o c1 c2 c3 e=>Heap.get?_push_of_some _ (up c o c1 c2 c3 e)
 rw[sz];exact last
theorem KZ {z TI TO T i1 i2 l1 l2:Addr} {k1:Nat} {us:Array Value} {b1:Bool} {o:Obj} {Q:PySem.Fin->Shared->Prop} (hh:A.handled=none) (D:ZipApart z TI TO i1 i2 l1 l2) (zr:Bw s.heap z TI TO (rawInt T) (.bool b1)) (al:s.heap.get? T=some o)
  (pt:IsPair s.heap TI (.ref i1) (.ref i2)) (j1:s.heap.IsListIter i1 l1 k1) (m1:s.heap.IsList l1 us) (eu:us[k1]?=none)
  (hE:∀h' e,(∀c o,c≠z->c≠i1->c≠i2->s.heap.get? c=some o->h'.get? c=some o)->(∃o,h'.get? e=some o/\o.cls=.type "StopIteration")->E (.ref e) { s with heap:=h' }) :
  wpAny (model prog w) A (Builtin.«zip.__next__» ⟨[.ref z],[]⟩) Q E s:=by
 change wpAny _ _ (field (Value.ref z) 2 >>= _) _ _ s
 refine wpAny_bind (wpAny_field zr rfl (x:=.bool false) rfl ?_)
 change wpAny _ _ (field (Value.ref z) 3 >>= _) _ _ s
 refine wpAny_bind (wpAny_field zr rfl (x:=.ref TI) rfl (wpAny_bind (wpAny_seqItems pt rfl ?_)))
 change wpAny _ _ (Builtin.SmallTypes.ownedTupleIsFree (Value.ref z) >>= _) _ _ s
 refine wpAny_bind (AV zr al fun g1 zr1 sb1=>?_);simp only[jG,if_false];refine wpAny_bind ?_;rw[<- Array.forIn_toList];simp only[LY,CO];refine wpAny_bind (wpAny_bind (wpAny_holding ?_))
 change wpAny _ _ (Builtin.SmallTypes.nextOf (Value.ref i1) >>= _) _ _ _
 exact wpAny_bind (wpAny_nextOf_list_end hh (j1.extBut sb1.extBut D.i1z) (m1.extBut sb1.extBut D.l1z) eu fun g2 e xb he=>hE g2 e (fun c o c1 c2 _ q=>xb _ _ c2 (sb1.extBut _ _ c1 q)) he)
theorem Ji {z TI TO T i1 i2 l1 l2:Addr} {k1 k2:Nat} {us ws:Array Value} {u v:Value} {b1:Bool} {o:Obj} {Q:Option Value->Shared->Prop} (D:ZipApart z TI TO i1 i2 l1 l2) (zr:Bw s.heap z TI TO (rawInt T) (.bool b1)) (al:s.heap.get? T=some o)
  (pt:IsPair s.heap TI (.ref i1) (.ref i2)) (j1:s.heap.IsListIter i1 l1 k1) (j2:s.heap.IsListIter i2 l2 k2) (m1:s.heap.IsList l1 us) (m2:s.heap.IsList l2 ws) (eu:us[k1]?=some u) (ev:ws[k2]?=some v)
  (hQ:∀h',Bw h' z TI TO (rawInt T) (.bool true)->h'.IsListIter i1 l1 (k1+1)->h'.IsListIter i2 l2 (k2+1)->IsPair h' s.heap.objs.size u v->(∀c o,c≠z->c≠i1->c≠i2->s.heap.get? c=some o->h'.get? c=some o)->Q (some (.ref s.heap.objs.size)) { s with heap:=h' }) :
  wpAny (model prog w) A (pyNext (.ref z)) Q E s:=by
 have ty:s.TypeIs (.ref z) "zip":=⟨_,zr,rfl⟩;unfold pyNext;refine wpAny_bind (wpAny_attempt (wpAny_callSpecial?_slot (name:=Str.ofString "__next__") ty sQ (wpAny_call_entry sQ ty PySem.F.entry_zip_next ?_ (Q5 _))));exact Jn D zr al pt j1 j2 m1 m2 eu ev fun h' a1 a2 a3 a4 a5=>wpAny_pure (hQ h' a1 a2 a3 a4 a5)
theorem Jh {z TI TO T i1 i2 l1 l2:Addr} {k1:Nat} {us:Array Value} {b1:Bool} {o:Obj} {Q:Option Value->Shared->Prop} (hh:A.handled=none) (D:ZipApart z TI TO i1 i2 l1 l2) (zr:Bw s.heap z TI TO (rawInt T) (.bool b1)) (al:s.heap.get? T=some o)
  (pt:IsPair s.heap TI (.ref i1) (.ref i2)) (j1:s.heap.IsListIter i1 l1 k1) (m1:s.heap.IsList l1 us) (eu:us[k1]?=none)
  (hQ:∀h',(∀c o,c≠z->c≠i1->c≠i2->s.heap.get? c=some o->h'.get? c=some o)->Q none { s with heap:=h' }):wpAny (model prog w) A (pyNext (.ref z)) Q E s:=by
 have ty:s.TypeIs (.ref z) "zip":=⟨_,zr,rfl⟩;unfold pyNext;refine wpAny_bind (wpAny_attempt (wpAny_callSpecial?_slot (name:=Str.ofString "__next__") ty sQ (wpAny_call_entry sQ ty PySem.F.entry_zip_next ?_ (Q5 _))));refine KZ hh D zr al pt j1 m1 eu fun h' e kk ⟨oe,he,hc⟩=>?_
 exact wpAny_bind (wpAny_isInstance (T:="StopIteration") (b:=true) ⟨oe,he,hc⟩ isSubtype_stop (wpAny_pure (hQ _ kk)))
end
section
variable {X:Cx} {pins:List (Addr×Obj)} {σ:St} {H:Hp} {s:Shared}
theorem Inv.moved {h':Heap} {ch:List Addr} {g':Array GenState} {d':Drawn} {t':Nat} (I:Inv X pins σ H s) (fx:∀b∈ch,lQ X pins H b) (up:∀b o,b∉ch->s.heap.get? b=some o->h'.get? b=some o) (hg:AllBare g') :
  Inv X pins σ H { s with heap:=h',gens:=g',drawn:=d',toks:=t' }:=by
 have nx:∀b o,H b=some o->b∉ch:=fun b o e hb=>by have:=(fx b hb).1;rw[this] at e;cases e
 refine I.step (ch:=ch) (fun b hb=>?_) (fun b o _ _ hb e _=>up b o hb e) (fun b o _ _ hb e _=>⟨o.slots,up b o hb e⟩) (fun b o hb e n=>n) (fun b o hb e=>⟨o,up b o hb e⟩) (fun b q e=>e) (fun b o q e=>e) (fun b q e=>⟨#[],by rw[e];simp⟩) (fun m hm=>?_) (fun b o e=>?_) hg
 ·obtain ⟨_,f1,_,f3,f4,f5⟩:=fx b hb;exact ⟨f3,f1,f4,f5⟩
 ·obtain ⟨o,es,ep,ho,r⟩:=hm;exact ⟨o,es,ep,up _ o (fun z=>(fx _ z).2.1 rfl) ho,r⟩
 ·refine (I.hok b o e).stay (fun c v' hc q=>up c v' ?_ q) (fun c q=>q) fun c xs q=>q
  rcases hc with rfl | hc
  ·exact nx _ _ e
  ·exact nx _ _ hc
theorem Inv.track {p:Addr} {o:HO} (I:Inv X pins σ H s) (fp:lQ X pins H p) (new:kb X.prog X.w (upd H p o) s.heap p o):Inv X pins σ (upd H p o) s:=by
 have nt:∀{b:Addr} {u:HO},H b=some u->b≠p:=fun e z=>by rw[z,fp.1] at e;cases e
 refine I.step (h':=s.heap) (g':=s.gens) (d':=s.drawn) (t':=s.toks) (ch:=[p]) (fun b hb=>?_) (fun b o _ _ _ e _=>e) (fun b o _ _ _ e _=>⟨o.slots,e⟩) (fun b o hb e n=>?_) (fun b o _ e=>⟨o,e⟩) (fun b q e=>by rw[bI (nt e)];exact e) (fun b o q e=>by rw[bI (nt e)];exact e)
  (fun b q e=>⟨#[],by rw[bI (nt e),e];simp⟩) (fun m hm=>hm) (fun b u e=>?_) I.bare
 ·have e:b=p:=by simpa using hb
  subst e;obtain ⟨_,f1,_,f3,f4,f5⟩:=fp;exact ⟨f3,f1,f4,f5⟩
 ·rw[bI fun z=>hb (by simp [z])];exact n
 ·by_cases hb:b=p
  ·subst hb;rw[aM] at e;cases e;exact new
  ·rw[bI hb] at e;exact (I.hok b u e).stay (fun c v _ q=>q) (fun c q=>by rw[bI (nt q)];exact q) fun c xs q=>by rw[bI (nt q)];exact q
end
def Oa (H:Hp) (p:V×V) (x:V):Prop:=∃T,x=.ref T/\H T=some (.tup [p.1,p.2])
theorem Oa.same {H H':Hp} {p:V×V} {x:V} (h:Oa H p x) (e:aL H H'):Oa H' p x:=by obtain ⟨T,q,g⟩:=h;exact ⟨T,q,e _ _ g⟩
def Zst (h:Heap) (z TI TO:Addr) (base:Nat):Prop:=(∃a b,IsPair h TO a b)/\(IsZip h z TI TO .none\/∃(T:Addr) (b1:Bool) (o:Obj),Bw h z TI TO (rawInt T) (.bool b1)/\h.get? T=some o/\@LE.le Nat instLENat base T)
theorem CP {h:Heap} {z TI TO i1 i2 l1 l2:Addr} {f0 f1 a b:Value} {k1 k2:Nat} {xs ys:Array Value} (hz:Bw h z TI TO f0 f1) (hTI:IsPair h TI (.ref i1) (.ref i2)) (hTO:IsPair h TO a b) (h1:h.IsListIter i1 l1 k1) (h2:h.IsListIter i2 l2 k2) (hl1:h.IsList l1 xs) (hl2:h.IsList l2 ys) (hT:TI≠TO) (hi:i1≠i2):ZipApart z TI TO i1 i2 l1 l2:=by
 obtain ⟨o1,g1,c1,_⟩:=h1;obtain ⟨o2,g2,c2,_⟩:=h2;obtain ⟨p1,q1,d1,_⟩:=hl1;obtain ⟨p2,q2,d2,_⟩:=hl2;have zt:Value.type "zip"≠.type "tuple":=pC (by decide);have it:Value.type "list_iterator"≠.type "tuple":=pC (by decide);have iz:Value.type "list_iterator"≠.type "zip":=pC (by decide);have lz:Value.type "list"≠.type "zip":=pC (by decide);have lt:Value.type "list"≠.type "tuple":=pC (by decide);have li:Value.type "list"≠.type "list_iterator":=pC (by decide)
 exact ⟨dm hTI hz zt.symm,dm hTO hz zt.symm,dm g1 hz (by rw[c1];exact iz),dm g2 hz (by rw[c2];exact iz),hT,dm hTI g1 (by rw[c1];exact it.symm),dm hTI g2 (by rw[c2];exact it.symm),dm hTO g1 (by rw[c1];exact it.symm),dm hTO g2 (by rw[c2];exact it.symm),hi,
  dm q1 hz (by rw[d1];exact lz),dm q1 hTO (by rw[d1];exact lt),dm q1 g1 (by rw[d1,c1];exact li),dm q1 g2 (by rw[d1,c2];exact li),dm q2 hz (by rw[d2];exact lz),dm q2 hTO (by rw[d2];exact lt),dm q2 g1 (by rw[d2,c1];exact li),dm q2 g2 (by rw[d2,c2];exact li)⟩
section
variable {X:Cx} {pins:List (Addr×Obj)} {σ:St}
theorem lQ.heap {H H':Hp} {b:Addr} (f:lQ X pins H b) (e:H' b=none):lQ X pins H' b:=⟨e,f.2⟩
structure DW where
 z:Addr
 TI:Addr
 TO:Addr
 i1:Addr
 i2:Addr
 S:Addr
 base:Nat
def DW.all (a:DW):List Addr:=[a.z,a.TI,a.TO,a.i1,a.i2,a.S]
structure DW.Ok (a:DW):Prop where
 tt:a.TI≠a.TO
 ii:a.i1≠a.i2
 Sz:a.S≠a.z
 STI:a.S≠a.TI
 STO:a.S≠a.TO
 Si1:a.S≠a.i1
 Si2:a.S≠a.i2
 lt:∀b∈a.all,@LT.lt Nat instLTNat b a.base
structure Nz (X:Cx) (pins:List (Addr×Obj)) (σ:St) (H1:Hp) (a:DW) (l1 l2:Addr) (i:Nat) (H:Hp) (s:Shared):Prop where
 inv:Inv X pins σ H s
 same:aL H1 H
 fps:∀b∈a.all,lQ X pins H b
 sz:a.base<=s.heap.objs.size
 zst:Zst s.heap a.z a.TI a.TO a.base
 pt:IsPair s.heap a.TI (.ref a.i1) (.ref a.i2)
 j1:s.heap.IsListIter a.i1 l1 i
 j2:s.heap.IsListIter a.i2 l2 i
variable {a:DW} {l1 l2:Addr} {H1 H:Hp} {s:Shared} {i:Nat} {xs ys:List V}
theorem Nz.push {h':Heap} (L:Nz X pins σ H1 a l1 l2 i H s) (O:a.Ok) (k:∀b o,b≠a.S->s.heap.get? b=some o->h'.get? b=some o) (hz:h'.objs.size=s.heap.objs.size):Nz X pins σ H1 a l1 l2 i H { s with heap:=h' }:=by
 refine ⟨L.inv.moved (g':=s.gens) (d':=s.drawn) (t':=s.toks) (ch:=[a.S]) (fun b hb=>?_) (fun b o hb e=>k b o (fun z=>hb (by simp [z])) e) L.inv.bare,L.same,L.fps,by show a.base<=h'.objs.size;rw[hz];exact L.sz,?_,k _ _ O.STI.symm L.pt,L.j1.at fun o e=>k _ o O.Si1.symm e,L.j2.at fun o e=>k _ o O.Si2.symm e⟩
 ·have e:b=a.S:=by simpa using hb
  rw[e];exact L.fps _ (by simp [DW.all])
 ·obtain ⟨⟨c,d,z0⟩,z4⟩:=L.zst;refine ⟨⟨c,d,k _ _ O.STO.symm z0⟩,?_⟩;rcases z4 with z1 | ⟨T,b1,o,z1,z2,z3⟩
  ·exact .inl (k _ _ O.Sz.symm z1)
  ·refine .inr ⟨T,b1,o,k _ _ O.Sz.symm z1,k _ _ (fun e=>?_) z2,z3⟩;have:=O.lt a.S (by simp [DW.all]);rw[<- e] at this;exact absurd this (Nat.not_lt.mpr z3)
theorem JP {A':Around} {E:Value->Shared->Prop} {Q:Option Value->Shared->Prop} (O:a.Ok) (q1:bV X.K H1 l1 xs) (q2:bV X.K H1 l2 ys) {x y:V} (ex:xs[i]?=some x) (ey:ys[i]?=some y) (L:Nz X pins σ H1 a l1 l2 i H s)
  (hQ:∀s',Nz X pins σ H1 a l1 l2 (i+1) (upd H s.heap.objs.size (.tup [x,y])) s'->(∀c o,c∉[a.z,a.TO,a.i1,a.i2]->s.heap.get? c=some o->s'.heap.get? c=some o)->H s.heap.objs.size=none->Q (some (.ref s.heap.objs.size)) s'):wpAny (model X.prog X.w) A' (pyNext (.ref a.z)) Q E s:=by
 obtain ⟨I,sm,fps,sz,zst,pt,j1,j2⟩:=id L;obtain ⟨us,ru,pu,_⟩:=I.list (sm.seq q1);obtain ⟨ws,rw',pw,_⟩:=I.list (sm.seq q2);obtain ⟨u,eu,r1⟩:=ru.get ex;obtain ⟨v,ev,r2⟩:=rw'.get ey;have fx:∀b∈[a.z,a.TO,a.i1,a.i2],lQ X pins H b:=fun b hb=>fps b (by simp only[DW.all,aG,ba,or_false] at hb ⊢;rcases hb with e | e | e | e <;> simp [e])
 have hT0:H s.heap.objs.size=none:=I.hok.fresh (ao _);have fT:lQ X pins H s.heap.objs.size:=I.fpOk (ao _) hT0;have lt:∀b∈a.all,b≠s.heap.objs.size:=fun b hb e=>by have:=O.lt b hb;rw[e] at this;exact absurd this (Nat.not_lt.mpr sz)
 have fin:∀h',(∀c o,c∉[a.z,a.TO,a.i1,a.i2]->s.heap.get? c=some o->h'.get? c=some o)->IsPair h' s.heap.objs.size u v->IsPair h' a.TI (.ref a.i1) (.ref a.i2)->h'.IsListIter a.i1 l1 (i+1)->h'.IsListIter a.i2 l2 (i+1)->Zst h' a.z a.TI a.TO a.base →
   Q (some (.ref s.heap.objs.size)) { s with heap:=h' }:=fun h' up pr pt' j1' j2' zst'=>by
  have I2:Inv X pins σ H { s with heap:=h' }:=I.moved (g':=s.gens) (d':=s.drawn) (t':=s.toks) fx up I.bare;have I3:Inv X pins σ (upd H s.heap.objs.size (.tup [x,y])) { s with heap:=h' }:=I2.track fT ⟨kh rfl,[u,v],.cons r1 (.cons r2 .nil),⟨_,pr,rfl,_,rfl⟩⟩;refine hQ _ ⟨I3,sm.trans (aL.new hT0),fun b hb=>(fps b hb).heap (by rw[bI (lt b hb)];exact (fps b hb).1),?_,zst',pt',j1',j2'⟩ up hT0;exact aj sz (aY (Heap.lt_size pr))
 obtain ⟨⟨c,d,z0⟩,z4⟩:=zst;rcases z4 with z1 | ⟨T,b1,o,z1,z2,z3⟩
 ·have D:=CP z1 pt z0 j1 j2 pu.isList pw.isList O.tt O.ii;refine wpAny_pyNext_zip_item D z1 pt z0 j1 j2 pu.isList pw.isList (x:=u) (y:=v) (by simpa using eu) (by simpa using ev) fun h' a1 a2 a3 a4 a5 a6 hk=>?_
  have up:∀c o,c∉[a.z,a.TO,a.i1,a.i2]->s.heap.get? c=some o->h'.get? c=some o:=fun c o hc e=>by
   simp only[aG,ba,or_false,not_or] at hc;exact hk c o hc.1 hc.2.1 hc.2.2.1 hc.2.2.2 e
  exact fin h' up a5 (hk _ _ D.TIz D.TITO D.TIi1 D.TIi2 pt) a3 a4 ⟨⟨_,_,a2⟩,.inr ⟨s.heap.objs.size,false,_,a1,a5,sz⟩⟩
 ·have D:=CP z1 pt z0 j1 j2 pu.isList pw.isList O.tt O.ii;refine Ji D z1 z2 pt j1 j2 pu.isList pw.isList (u:=u) (v:=v) (by simpa using eu) (by simpa using ev) fun h' a1 a3 a4 a5 hk=>?_
  have up:∀c o,c∉[a.z,a.TO,a.i1,a.i2]->s.heap.get? c=some o->h'.get? c=some o:=fun c o hc e=>by
   simp only[aG,ba,or_false,not_or] at hc;exact hk c o hc.1 hc.2.2.1 hc.2.2.2 e
  have Tn:∀b∈a.all,T≠b:=fun b hb e=>by have:=O.lt b hb;rw[<- e] at this;exact absurd this (Nat.not_lt.mpr z3)
  exact fin h' up a5 (hk _ _ D.TIz D.TIi1 D.TIi2 pt) a3 a4 ⟨⟨_,_,hk _ _ D.TOz D.TOi1 D.TOi2 z0⟩,.inr ⟨T,true,o,a1,hk _ _ (Tn _ (by simp [DW.all])) (Tn _ (by simp [DW.all])) (Tn _ (by simp [DW.all])) z2,z3⟩⟩
theorem JO {A':Around} {E:Value->Shared->Prop} {Q:Option Value->Shared->Prop} (hh:A'.handled=none) (O:a.Ok) (q1:bV X.K H1 l1 xs) (q2:bV X.K H1 l2 ys) (hi:xs.length<=i) (L:Nz X pins σ H1 a l1 l2 i H s)
  (hQ:∀s',Inv X pins σ H s'->(∀c o,c∉[a.z,a.TO,a.i1,a.i2]->s.heap.get? c=some o->s'.heap.get? c=some o)->Q none s'):wpAny (model X.prog X.w) A' (pyNext (.ref a.z)) Q E s:=by
 obtain ⟨I,sm,fps,sz,zst,pt,j1,j2⟩:=id L;obtain ⟨us,ru,pu,_⟩:=I.list (sm.seq q1);obtain ⟨ws,rw',pw,_⟩:=I.list (sm.seq q2);have lx:=ru.length;have none1:us.toArray[i]?=none:=by simp;lia
 have fx:∀b∈[a.z,a.TO,a.i1,a.i2],lQ X pins H b:=fun b hb=>fps b (by simp only[DW.all,aG,ba,or_false] at hb ⊢;rcases hb with e | e | e | e <;> simp [e])
 have fin:∀h',(∀c o,c∉[a.z,a.TO,a.i1,a.i2]->s.heap.get? c=some o->h'.get? c=some o)->Q none { s with heap:=h' }:=fun h' up=>hQ _ (I.moved (g':=s.gens) (d':=s.drawn) (t':=s.toks) fx up I.bare) up
 obtain ⟨⟨c,d,z0⟩,z4⟩:=zst;rcases z4 with z1 | ⟨T,b1,o,z1,z2,z3⟩
 ·have D:=CP z1 pt z0 j1 j2 pu.isList pw.isList O.tt O.ii;refine wpAny_pyNext_zip_end hh D z1 pt z0 j1 j2 pu.isList pw.isList (.inl none1) fun h' hk=>fin h' fun c o hc e=>?_
  simp only[aG,ba,or_false,not_or] at hc;exact hk c o hc.1 hc.2.1 hc.2.2.1 hc.2.2.2 e
 ·have D:=CP z1 pt z0 j1 j2 pu.isList pw.isList O.tt O.ii;refine Jh hh D z1 z2 pt j1 pu.isList none1 fun h' hk=>fin h' fun c o hc e=>?_
  simp only[aG,ba,or_false,not_or] at hc;exact hk c o hc.1 hc.2.2.1 hc.2.2.2 e
theorem JR {A':Around} {R:Result->Shared->Prop} (hh:A'.handled=none) (O:a.Ok) (hz:xs.length<=sizeLine) (hl:ys.length=xs.length) (q1:bV X.K H1 l1 xs) (q2:bV X.K H1 l2 ys)
  (fin:∀s' H' ts acc c,Inv X pins σ H' s'->aL H1 H'->lQ X pins H' a.S->s'.heap.get? a.S=some (lobj acc c)->cP ts acc->Paired (Oa H') (xs.zip ys) ts->R (.ok (.ret .none)) s') :
  ∀(k i:Nat) (s:Shared) (H:Hp) (ts:List V) (acc:List Value) (c:Nat),xs.length - i=k->i<=xs.length->Nz X pins σ H1 a l1 l2 i H s->s.heap.get? a.S=some (lobj acc c)->cP ts acc->Paired (Oa H) ((xs.zip ys).take i) ts →
   codeAny (model X.prog X.w) A' (.builtin "list.extend.loop" ⟨[.ref a.S,.ref a.z,.none],[]⟩) R s:=by
 have Sn:a.S∉[a.z,a.TO,a.i1,a.i2]:=fun h=>by
  simp only[aG,ba,or_false] at h;rcases h with e | e | e | e
  ·exact O.Sz e
  ·exact O.STO e
  ·exact O.Si1 e
  ·exact O.Si2 e
 intro k
 induction k with
 | zero =>
  intro i s H ts acc c hk hi L gS rv prs;have e:i=xs.length:=by lia
  refine codeAny_builtin PJ ?_;rw[Around.under_plainId nP _]
  change wpAny _ A'.in1 (pyNext (Value.ref a.z) >>= _) _ _ s
  refine wpAny_bind (JO hh O q1 q2 (by lia) L fun s' I' up=>wpAny_pure (fin s' H ts acc c I' L.same (L.fps _ (by simp [DW.all])) (up _ _ Sn gS) rv ?_));rwa [aH (by rw[BG];lia)] at prs
 | succ k ih =>
  intro i s H ts acc c hk hi L gS rv prs;have hlt:i < xs.length:=by lia
  have lt:=prs.length;have la:=rv.length;refine codeAny_builtin PJ ?_;rw[Around.under_plainId nP _]
  change wpAny _ A'.in1 (pyNext (Value.ref a.z) >>= _) _ _ s
  refine wpAny_bind (JP O q1 q2 (x:=xs[i]) (y:=ys[i]'(by lia)) (by simp [hlt]) (by simp) L fun s' L' up hT=>?_);have gS':=up _ _ Sn gS
  change wpAny _ A'.in1 (updateSeq a.S (·.push (Value.ref s.heap.objs.size)) >>= _) _ _ s'
  have small:acc.length<=sizeLine:=by
   rw[cO,BG] at lt
   lia
  refine wpAny_bind (wpAny_updateSeq gS' rfl (wpAny_pure ⟨plainId_quiet nP _,?_⟩) (by rw[aP];exact small) (by
   show (acc.toArray.push (Value.ref s.heap.objs.size)).size<=sizeLine+1
   rw[Array.size_push,aP]
   lia))
  have gS2:=nk gS' (fun b=>b.push (Value.ref s.heap.objs.size));have e2:(acc.toArray.push (Value.ref s.heap.objs.size))=(acc++[Value.ref s.heap.objs.size]).toArray:=by simp
  rw[e2] at gS2;refine ih (i+1) _ (upd H s.heap.objs.size (.tup [xs[i],ys[i]'(by lia)])) (ts++[.ref s.heap.objs.size]) (acc++[.ref s.heap.objs.size]) _ (by lia) hlt (L'.push O (fun b o hb e=>(Heap.get?_update_other _ _ (Ne.symm hb)).trans e) (Heap.size_update ..)) gS2 (rv.append (show cP [V.ref s.heap.objs.size] [Value.ref s.heap.objs.size] from .cons rfl .nil)) ?_;have zp:(xs.zip ys)[i]?=some (xs[i],ys[i]'(by lia)):=by simp [PK,hlt]
  rw[take_snoc zp];exact (Paired.imp' (fun _ _ z=>z.same (aL.new hT)) prs).snoc ⟨_,rfl,aM⟩
theorem Fh:typeLookup (.type "zip") "__len__"=pure Option.none:=by rw[typeLookup_type,builtinLookup_eq_fast];kernel_rfl
theorem Eb:typeLookup (.type "zip") "__length_hint__"=pure Option.none:=by rw[typeLookup_type,builtinLookup_eq_fast];kernel_rfl
theorem JQ {A' : Around} {R : Result → Shared → Prop} (hh : A'.handled = none) (O : a.Ok) (hz : xs.length ≤ sizeLine) (hl : ys.length = xs.length) (q1 : bV X.K H1 l1 xs) (q2 : bV X.K H1 l2 ys) (L : Nz X pins σ H1 a l1 l2 0 H s) (gS : s.heap.get? a.S = some (lobj [] 0)) (z0 : IsZip s.heap a.z a.TI a.TO .none)
    (fin : ∀ s' H' ts acc c, Inv X pins σ H' s' → aL H1 H' → lQ X pins H' a.S → s'.heap.get? a.S = some (lobj acc c) → cP ts acc → Paired (Oa H') (xs.zip ys) ts → R (.ok (.ret .none)) s') :
    wpAny (model X.prog X.w) A'.in1 (Builtin.«list.__init__» ⟨[.ref a.S, .ref a.z], []⟩) (fun fl s' => match fl with | .done f => R (.ok f) s' | .again c' => c'.quiet = true /\ codeAny (model X.prog X.w) A' c' R s') (fun e s' => R (.error e) s') s := by
  change wpAny _ A'.in1 (do let old <- Builtin.List.listItems (Value.ref a.S); Builtin.List.listUpdate (Value.ref a.S) (fun _ => #[]); letGo old.toList.reverse; Builtin.List.listExtendWith (Value.ref a.S) (Value.ref a.z) Value.none) _ _ s
  refine wpAny_bind ?_;unfold Builtin.List.listItems;refine wpAny_bind (wpAny_seqItems gS rfl (wpAny_pure ?_))
  change wpAny _ A'.in1 (updateSeq a.S (fun _ => #[]) >>= fun _ => letGo (#[] : Array Value).toList.reverse >>= fun _ => Builtin.List.listExtendWith (Value.ref a.S) (Value.ref a.z) Value.none) _ _ s
  refine wpAny_bind (wpAny_updateSeq gS rfl ?_);have g1 := nk gS (fun _ => (#[] : Array Value));obtain ⟨n1, g1⟩ : ∃ n1, (s.heap.update a.S (Obj.mapSeq fun _ => (#[] : Array Value))).get? a.S = some (lobj [] n1) := ⟨_, g1⟩;have L1 := L.push (h' := s.heap.update a.S (Obj.mapSeq fun _ => (#[] : Array Value))) O (fun b o hb e => (Heap.get?_update_other _ _ (Ne.symm hb)).trans e) (Heap.size_update ..);have z1 : IsZip (s.heap.update a.S (Obj.mapSeq fun _ => (#[] : Array Value))) a.z a.TI a.TO .none := (Heap.get?_update_other _ _ O.Sz).trans z0;refine wpAny_bind (wpAny_letGo ?_);unfold Builtin.List.listExtendWith;have ty : Shared.TypeIs { s with heap := s.heap.update a.S (Obj.mapSeq fun _ => (#[] : Array Value)) } (.ref a.z) "zip" := ⟨_, z1, rfl⟩;refine wpAny_bind (wpAny_typeOf ty ?_);have h1 : Builtin.List.listSameRef (.ref a.S) (.ref a.z) = false := by simp [Builtin.List.listSameRef, O.Sz]
  have h2 : (Value.type "zip" == Value.type "list") = false := by decide
  have h3 : (Value.type "zip" == Value.type "tuple") = false := by decide
  simp only [h1, h2, h3, Bool.or_false, jG, if_false];refine wpAny_bind (wpAny_pyIter_zip z1 (wpAny_bind (wpAny_holding ?_)));unfold Builtin.List.listLengthHint;refine wpAny_bind (wpAny_specialOf ty Fh ?_)
  change wpAny _ A'.in1 (specialOf (Value.ref a.z) (Str.ofString "__length_hint__") >>= _) _ _ _
  refine wpAny_bind (wpAny_specialOf ty Eb (wpAny_pure ?_))
  change wpAny _ A'.in1 (rule "list.extend.makes-room" >>= fun _ => Builtin.List.listTouch (Value.ref a.S) >>= fun _ => again (.builtin "list.extend.loop" ⟨[Value.ref a.S, Value.ref a.z, Value.none], []⟩)) _ _ _
  refine wpAny_bind (wpAny_rule (wpAny_bind ?_))
  change wpAny _ A'.in1 (updateSeq a.S (·.push Value.none) >>= fun _ => updateSeq a.S (·.pop)) _ _ _
  refine wpAny_bind (wpAny_updateSeq g1 rfl ?_);have g2 := nk g1 (fun b => b.push Value.none);obtain ⟨n2, g2⟩ : ∃ n2, ((s.heap.update a.S (Obj.mapSeq fun _ => (#[] : Array Value))).update a.S (Obj.mapSeq fun b => b.push Value.none)).get? a.S = some (lobj [Value.none] n2) := ⟨_, g2⟩;have L2 := L1.push (h' := (s.heap.update a.S (Obj.mapSeq fun _ => (#[] : Array Value))).update a.S (Obj.mapSeq fun b => b.push Value.none)) O (fun b o hb e => (Heap.get?_update_other _ _ (Ne.symm hb)).trans e) (Heap.size_update ..);refine wpAny_updateSeq g2 rfl ?_ (kh rfl);have g3 := nk g2 (fun b => b.pop);have L3 := L2.push (h' := ((s.heap.update a.S (Obj.mapSeq fun _ => (#[] : Array Value))).update a.S (Obj.mapSeq fun b => b.push Value.none)).update a.S (Obj.mapSeq fun b => b.pop)) O (fun b o hb e => (Heap.get?_update_other _ _ (Ne.symm hb)).trans e) (Heap.size_update ..);exact wpAny_pure ⟨plainId_quiet nP _, JR hh O hz hl q1 q2 fin _ 0 _ H [] [] _ rfl (bD _) L3 g3 .nil .nil⟩
end
section
variable {X:Cx}
theorem Od (n:Nat):DW.Ok ⟨n+4,n+2,n+3,n,n+1,n+5,n+5+1⟩:=by
 have ne:∀p q:Nat,p≠q->@Ne Addr p q:=fun _ _ h=>h
 refine ⟨ne (n+2) (n+3) (by lia),ne n (n+1) (by lia),ne (n+5) (n+4) (by lia),ne (n+5) (n+2) (by lia),ne (n+5) (n+3) (by lia),ne (n+5) n (by lia),ne (n+5) (n+1) (by lia),fun b hb=>?_⟩;have hb':b∈[n+4,n+2,n+3,n,n+1,n+5]:=hb;show @LT.lt Nat instLTNat b (n+5+1)
 simp only[aG,ba,or_false] at hb';rcases hb' with e | e | e | e | e | e <;> (rw[e];exact bF (jl _) (by lia))
def Ee (K:PySem.W.Frag) (ta:TA):TE:=fun σ H Q=>ta σ H fun vs H1=>∃(l1 l2:Addr) (xs ys:List V),vs=[.ref l1,.ref l2]/\bV K H1 l1 xs/\bV K H1 l2 ys/\ys.length=xs.length /\
 ∀L ts H',aL H1 H'->H1 L=none->H' L=some (.lst ts)->Paired (Oa H') (xs.zip ys) ts->Q (.ref L) H'
theorem FI {e1 e2:Expr} {ta:TA} {p p2 pos pos2:Pos} (hg:Gl X "list") (hm:X.mg "list"=none) (hg2:Gl X "zip") (hm2:X.mg "zip"=none) (ha:PA X [e1,e2] ta) (hc:X.calm=true:=by rfl)
  (hs:starEach [e1,e2] X.env=[(false,eval e1 X.env),(false,eval e2 X.env)]:=by rfl) (hs2:starEach [e2] X.env=[(false,eval e2 X.env)]:=by rfl)
  (hs3:starEach [Expr.Call (.Name "zip" p2) [e1,e2] [] pos2] X.env=[(false,eval (.Call (.Name "zip" p2) [e1,e2] [] pos2) X.env)]:=by rfl) :
  PE X (.Call (.Name "list" p) [.Call (.Name "zip" p2) [e1,e2] [] pos2] [] pos) (Ee X.K ta):=by
 intro pins s σ H Q I h;refine wpAny_Call_Name_kw (lM I hg hm boot_list ?_);refine PyProof.Rows.callWith_type1 ?_ (by rw[hs3];rfl) rfl;rw[hs3];show wpAny _ _ (spliced ((false,eval (.Call (.Name "zip" p2) [e1,e2] [] pos2) X.env) :: [])) _ _ s
 refine Calls.spliced_cons ?_;refine Call_ (lM I hg2 hm2 boot_zip (PyProof.Rows.callWith_type1 (gL (ha pos2 pins s σ H _ I h) fun us s1 ⟨vs,H1,I1,r1,q1⟩=>?_) (by rw[hs,hs2]) (by rw[hs2];rfl)));obtain ⟨l1,l2,xs,ys,e,qx,qy,hl,q⟩:=q1;subst e;obtain ⟨u,v,rfl,ru,rv⟩:=vals2 r1;cases ru;cases rv;obtain ⟨us,rx,px,hz⟩:=I1.list qx;obtain ⟨ws,ry,py,_⟩:=I1.list qy;refine call_zip_2 px.isList py.isList fun h' a1 a2 a3 a4 a5 a6 hk=>?_
 refine Calls.spliced_nil ?_;have I2:Inv X pins σ H1 { s1 with heap:=h' }:=I1.kept (t':=s1.toks) hk;have up:∀b o,h'.get? b=some o->(h'.push { cls:=.type "list",data:=.seq #[] }).get? b=some o:=fun b o e=>Heap.get?_push_of_some _ e
 have O:DW.Ok ⟨s1.heap.objs.size+4,s1.heap.objs.size+2,s1.heap.objs.size+3,s1.heap.objs.size,s1.heap.objs.size+1,h'.objs.size,h'.objs.size+1⟩:=by
  rw[a6];exact Od s1.heap.objs.size
 have old:∀b∈(DW.mk (s1.heap.objs.size+4) (s1.heap.objs.size+2) (s1.heap.objs.size+3) s1.heap.objs.size (s1.heap.objs.size+1) h'.objs.size (h'.objs.size+1)).all,s1.heap.objs.size<=b:=fun b hb=>by
  rw[a6] at hb;simp only[DW.all,aG,ba,or_false] at hb;rcases hb with rfl | rfl | rfl | rfl | rfl | rfl <;> first | exact zQ _ _ | exact ao _
 have gS:(h'.push { cls:=.type "list",data:=.seq #[] }).get? h'.objs.size=some (lobj [] 0):=Heap.get?_push_size _ rfl;refine callType_codes (Q₁:=fun ob t=>ob=.ref h'.objs.size/\t={ s1 with heap:=h'.push { cls:=.type "list",data:=.seq #[] } }) PySem.F.called_list (PySem.F.typeCall_list_1 _) PySem.F.entry_list_init (code_list_new _ ⟨rfl,rfl⟩) fun ob t ht=>?_
 obtain ⟨rfl,rfl⟩:=ht;refine ⟨⟨_,gS,rfl⟩,PySem.F.args_list_init_2 _ _,?_⟩
 have L:Nz X pins σ H1 ⟨s1.heap.objs.size+4,s1.heap.objs.size+2,s1.heap.objs.size+3,s1.heap.objs.size,s1.heap.objs.size+1,h'.objs.size,h'.objs.size+1⟩ l1 l2 0 H1 { s1 with heap:=h'.push { cls:=.type "list",data:=.seq #[] } } :=
  ⟨I2.kept (t':=s1.toks) up,aL.refl _,fun b hb=>I1.fpOk (old b hb) (I1.hok.fresh (old b hb)),by rw[Heap.size_push];exact ao _,⟨⟨_,_,up _ _ a3⟩,.inl (up _ _ a1)⟩,up _ _ a2,a4.at fun o e=>up _ o e,a5.at fun o e=>up _ o e⟩
 refine JQ (A':=X.A.in1) (I.ok.hd hc) O hz hl qx qy L gS (up _ _ a1) fun s' H' ts acc c I' sm fS gS' vs' prs=>⟨rfl,?_⟩
 have nS:H1 h'.objs.size=none:=I1.hok.fresh (old _ (by simp [DW.all]));have lt:=prs.length;rw[BG] at lt;exact ⟨.ref h'.objs.size,_,I'.track (o:=.lst ts) fS ⟨by lia,acc,c,vs',gS'⟩,rfl,q _ ts _ (sm.trans (aL.new fS.1)) nS aM (Paired.imp' (fun _ _ z=>z.same (aL.new fS.1)) prs)⟩
end
end L2
namespace Nm
def yS:List Int->Int->Int
 | [],m=>m
 | b :: r,m=>yS r (m*(b / g m b))
theorem xY {m b:Int} (hm:0 < m) (hb:0 < b):0 < m*(b / g m b):=pU hm (DA (t:=m) hb)
theorem Dy {m b : Int} : b ∣ m * (b / g m b) := by
  have h1 := Bf m b;refine ⟨lo m b, ?_⟩;have h2 : b / g m b * g m b = b := yU m b
  calc m * (b / g m b) = lo m b * g m b * (b / g m b) := by rw [h1]
    _ = lo m b * (b / g m b * g m b) := by rw [dI, fR (g m b)]
    _ = b * lo m b := by rw [h2, fR]
theorem Bi:∀{bs:List Int} {m:Int},0 < m->(∀b∈bs,0 < b)->0 < yS bs m
 | [],_,hm,_=>hm
 | b :: r,m,hm,h=>Bi (bs:=r) (xY hm (h b du)) fun c hc=>h c (cb _ hc)
theorem EL:∀{bs:List Int} {m:Int},m∣yS bs m
 | [],_=>Int.dvd_refl _
 | b :: r,m=>Int.dvd_trans (Int.dvd_mul_right m _) (EL (bs:=r))
theorem EK:∀{bs:List Int} {m b:Int},b∈bs->b∣yS bs m
 | c :: r,m,b,h=>by
  rcases aG.mp h with rfl | h
  ·exact Int.dvd_trans Dy (EL (bs:=r))
  ·exact EK (bs:=r) h
end Nm
namespace L2
open PySem PySem.Spec PyProof.Rows Nm
def DX (K:PySem.W.Frag) (H:Hp) (p:Addr) (ns:List (Int×Int)):Prop:=∃xs,H p=some (.lst xs)/\Paired (fun n x=>E8 K H x n) ns xs
theorem DX.same {K:PySem.W.Frag} {H H':Hp} {p:Addr} {ns:List (Int×Int)} (h:DX K H p ns) (e:aL H H'):DX K H' p ns:=by obtain ⟨xs,g,q⟩:=h;exact ⟨xs,e _ _ g,Paired.imp' (fun _ _ z=>e.num z) q⟩
def Ey (K:PySem.W.Frag) (T:String):V->Hp->VK->Prop:=fun x H Q=>IW K T x H Q\/∃a xs b,x=.ref a/\uc K H a xs/\PySem.W.kitOne K (.type "tuple") (.type T)=some b/\Q (.bl b) H
theorem Cr:∀{bs:List Int} {m b:Int},yS (bs++[b]) m=yS bs m*(b / g (yS bs m) b)
 | [],_,_=>rfl
 | c :: r,m,b=>Cr (bs:=r)
def fN (ns:List (Int×Int)) (B:Int):List Int:=ns.map fun n=>n.1*(B / n.2)
def iE (ns:List (Int×Int)):Int:=yS (ns.map (·.2)) 1
def Lz (ns ms:List (Int×Int)):Int:=(List.zipWith (·*·) (fN ns (iE ns)) (fN ms (iE ms))).sum
theorem vq {ns:List (Int×Int)} {n:Int×Int} (h:n∈ns):n.2∣iE ns:=EK (aD.mpr ⟨n,h,rfl⟩)
theorem FE {σ:St} {H:Hp} {Q:VK} {K:PySem.W.Frag} {ta:TA} (h:ta σ H fun vs H1=>∃(l1 l2:Addr) (xs ys:List V),vs=[.ref l1,.ref l2]/\bV K H1 l1 xs/\bV K H1 l2 ys/\ys.length=xs.length /\
 ∀L ts H',aL H1 H'->H1 L=none->H' L=some (.lst ts)->Paired (Oa H') (xs.zip ys) ts->Q (.ref L) H'):Ee K ta σ H Q:=h
theorem RM {m b:Int} (hb:0 < b) {k:Nat} (h:Sz k b):Sz k (g m b):=h.le (by
 have h1:(g m b).natAbs=Int.gcd m b:=by unfold g;simp
 rw[h1];exact kg (by lia) (by have:=fI (a:=m) (b:=b);exact gJ.mpr this |> fun z=>by simpa using z))
theorem L0 {ts us:List Int} {i:Nat} {pq:V×V} (h:((ts.map V.int).zip (us.map V.int))[i]?=some pq):∃t u,ts[i]?=some t/\us[i]?=some u/\pq=(.int t,.int u):=by
 rw[PK,aK,aK] at h;obtain ⟨h1,h2⟩:=h;cases e1:ts[i]? with
 | none=>rw[e1] at h1;cases h1
 | some t =>
  cases e2:us[i]? with
  | none=>rw[e2] at h2;cases h2
  | some u =>
   rw[e1] at h1;rw[e2] at h2;refine ⟨t,u,rfl,rfl,?_⟩;cases pq;simp at h1 h2;rw[h1,h2]
def IH (K:PySem.W.Frag):Sp:=fun vs H Q _=>∃x n,vs=[x]/\E8 K H x n/\zL n/\∀H',aL H H'->Q (.bl true) H'
def Cf (K:PySem.W.Frag):Sp:=fun vs H Q _=>∃(p:Addr) (ns:List (Int×Int)),vs=[.ref p,.int ns.length]/\DX K H p ns/\ns.length<=1000/\(∀n∈ns,zL n)/\∀H',aL H H'->Q (.bl true) H'
theorem Aa {X:Cx} {a:Expr} {ta:TE} {pos:Pos} {c:Str} {T:String} {p p2:Pos} (hg:Gl X "isinstance") (hm:X.mg "isinstance"=none) (hb:bootBuiltins c=some (.type T)) (hmc:X.mg c=none) (ha:PE X a ta) (hgc:Gl X c:=by rfl) (hn:c≠"__name__":=by decide)
  (hd:(c == ("__debug__":Str))=false:=by decide) (he:starEach [a,.Name c p2] X.env=[(false,eval a X.env),(false,eval (.Name c p2) X.env)]:=by rfl)
  (hpl:(backTo pos (starEach [.Name c p2] X.env)).any (·.1)=false:=by rfl) (he2:starEach [.Name c p2] X.env=[(false,eval (.Name c p2) X.env)]:=by rfl):PE X (.Call (.Name "isinstance" p) [a,.Name c p2] [] pos) (Rf (Ey X.K T) ta):=by
 intro pins s σ H Q I h;refine wpAny_Call_Name_kw (lM I hg hm PyProof.Rows.boot_isinstance ?_);have hA:PA X [a,.Name c p2] (uL ta (uL (tC (.ty T)) Ip)):=aa ha (aa (GY hgc hmc hb rfl hn hd) ai he2) (by rw[he,he2])
 have hq:uL ta (uL (tC (.ty T)) Ip) σ H (fun vs H1=>∃x,vs=[x,.ty T]/\Ey X.K T x H1 Q):=by
  show ta σ H fun x H1=>∃x',[x,V.ty T]=[x',V.ty T]/\Ey X.K T x' H1 Q
  have e:(fun x H1=>∃x',[x,V.ty T]=[x',V.ty T]/\Ey X.K T x' H1 Q)=fun x H1=>Ey X.K T x H1 Q:=by
   funext x H1;apply propext;constructor
   ·rintro ⟨x',e,q⟩;cases e;exact q
   ·intro q;exact ⟨x,rfl,q⟩
  rw[e];exact h
 refine PyProof.Rows.callWith_builtin1 (gL (hA pos pins s σ H _ I hq) fun us s1 ⟨vs,H1,I1,r1,x,e,q1⟩=>?_) (by rw[he,he2]) hpl;subst e;obtain ⟨u,w',rfl,ru,rt⟩:=vals2 r1;cases rt;rcases q1 with ⟨t,bb,ty,ek,q⟩ | ⟨ad,xs,bb,rfl,hs,ek,q⟩
 ·exact Cs I1 ru ty ek fun tk=>⟨.bl bb,H1,I1.tok tk,rfl,q⟩
 ·cases ru;obtain ⟨its,_,⟨o,g1,g2,_⟩,_⟩:=I1.tuple hs;exact dy PySem.W.kitx_tuple I1.kIn ⟨o,g1,g2⟩ ek (fun z=>nomatch z) fun tk=>⟨.bl bb,H1,I1.tok tk,rfl,q⟩
theorem Kv {H:Hp} {Q:VK} {l:Addr} {k:Nat} {x:V} (h:H l=some (.lst [x])) (hk:k<=1000) (q:∀p H',aL H H'->H p=none->H' p=some (.lst (List.replicate k x))->Q (.ref p) H'):QF (.ref l) (.int k) H Q :=
 ⟨l,k,[x],rfl,rfl,h,by lia,by lia,aY (bO (by simp;lia)),fun p hp=>q p _ (aL.new hp) hp (by rw[aM];simp)⟩
theorem Pt {xs:List V} {k:Nat} (h:k<=xs.length):wF xs none (some (k:Int))=xs.take k:=by
 unfold wF;rw[HT.Er,HT.z8,uH h];simp
theorem xo {α β:Type} {F:α->β->Prop} {x:α} {y:β} (h:F x y):∀m:Nat,Paired F (List.replicate m x) (List.replicate m y)
 | 0=>.nil
 | m+1=>.cons h (xo h m)
theorem fF {n a:Nat} (h:a < n):JF n (a:Int)=some a:=by
 unfold JF;rw[if_pos (by lia),if_pos (by lia),Int.toNat_natCast]
theorem LD {xs:List V} {k:Nat}:wF xs none (some (k:Int))=xs.take k:=by
 by_cases h:k<=xs.length
 ·exact Pt h
 ·unfold wF;rw[HT.Er,HT.z8,Nat.min_eq_right (by lia),aH (by simp),aH (by lia)];rfl
theorem uU {α β:Type} {F:α->β->Prop}:∀{l1:List α} {l2:List β} (_:Paired F l1 l2) (k:Nat),Paired F (l1.take k) (l2.take k)
 | _,_,.nil,k=>by simp;exact .nil
 | _,_,.cons h r,0=>.nil
 | _,_,.cons h r,k+1=>.cons h (uU r k)
def MP (K:PySem.W.Frag):List V->Hp->VK->Prop:=fun xs H Q=>∃p ys,xs=[.ref p]/\(bV K H p ys\/uc K H p ys)/\∀l,H l=none->Q (.ref l) (upd H l (.lst ys))
theorem fM {X:Cx} (K:PySem.W.Frag) (hK:X.K=K):uC X (.type "list") (MP K):=by subst hK;exact tP
theorem aL.none {H H':Hp} {l:Addr} (s:aL H H') (h:H' l=Option.none):H l=Option.none:=by
 cases e:H l with
 | none=>rfl
 | some o=>have:=s _ _ e;rw[h] at this;cases this
def Ob (K:PySem.W.Frag) (H:Hp) (p:Addr) (rows:List (List (Int×Int))):Prop:=∃xs,H p=some (.lst xs)/\Paired (fun ns x=>∃q,x=V.ref q/\DX K H q ns) rows xs
theorem JY {b:Int} (h:b.natAbs<=1000000):Sz 20 b:=bG h (by decide)
theorem cT.none {H H':Hp} {b l:Addr} (u:cT b H H') (B:ir H' b) (h:H' l=Option.none):H l=Option.none:=by
 cases e:H l with
 | none=>rfl
 | some o =>
  by_cases z:l=b
  ·obtain ⟨_,_,_,_,_,e2,_⟩:=B;rw[<- z,h] at e2;cases e2
  ·have:=u.1 l o e z;rw[h] at this;cases this
def Fs (K:PySem.W.Frag):Sp:=fun vs H Q _=>∃(p:Addr) (rows:List (List (Int×Int))) (m:Nat),vs=[.ref p,.int rows.length,.int m]/\Ob K H p rows/\rows.length<=1000/\m<=1000/\(∀ns∈rows,ns.length=m/\∀n∈ns,zL n)/\∀H',aL H H'->Q (.bl true) H'
end L2
namespace Nm
def nm (q:Rat):Int×Int:=(q.num,(q.den:Int))
theorem kB (q:Rat):0 < (nm q).2:=by have:=q.den_pos;show 0 < (q.den:Int);lia
theorem Du (q:Rat):Int.gcd (nm q).1 (nm q).2=1:=q.reduced
theorem O9 {p q:Rat} (h:nm p=nm q):p=q:=by
 have h1:p.num=q.num:=congrArg Prod.fst h;have h2:(p.den:Int)=q.den:=congrArg Prod.snd h;exact Rat.ext h1 (by lia)
theorem td (q : Rat) : (q.num : Rat) = q * (q.den : Rat) := by
  have h := Rat.num_divInt_den q;rw [Rat.divInt_eq_div] at h
  have hd : ((q.den : Int) : Rat) ≠ 0 := by
    intro z;have z := zO.mp z;have := q.den_pos
    lia
  have e : ((q.den : Int) : Rat) = (q.den : Rat) := aQ _
  calc (q.num : Rat) = (q.num : Rat) / ((q.den : Int) : Rat) * ((q.den : Int) : Rat) := (Rat.div_mul_cancel hd).symm
    _ = q * (q.den : Rat) := by rw [h, e]
theorem QL {a b:Int} {q:Rat} (hb:0 < b) (hg:Int.gcd a b=1) (e:q*(b:Rat)=(a:Rat)):(a,b)=nm q:=by
 have h1:a*(q.den:Int)=q.num*b:=by
  apply dN.mp;rw[aT,aT,<- e,td,aQ];grind
 obtain ⟨e1,e2⟩:=uniq hb (kB q) hg (Du q) h1;exact Prod.ext e1 e2
theorem tw {t b:Int} {q:Rat} (hb:0 < b) (e:q*(b:Rat)=(t:Rat)):(lo t b,hi t b)=nm q:=by
 refine QL (DA hb) (Bc (by lia)) ?_;have h:=Be t b;have hb':(b:Rat)≠0:=fun z=>by have:=zO.mp z;lia
 have h2:((lo t b:Int):Rat)*(b:Rat)=(t:Rat)*((hi t b:Int):Rat):=by rw[<- aT,h,aT]
 rw[<- e] at h2;have h3:(q*((hi t b:Int):Rat) - ((lo t b:Int):Rat))*(b:Rat)=0:=by grind
 rcases BE.mp h3 with h4 | h4
 ·grind
 ·exact absurd h4 hb'
def Fr (M V:Nat) (q:Rat):Prop:=∃z:Int,q*(M:Rat)=(z:Rat)/\z.natAbs<=V*M
theorem Fr.mono {M V V':Nat} {q:Rat} (h:Fr M V q) (l:V<=V'):Fr M V' q:=by obtain ⟨z,e,b⟩:=h;exact ⟨z,e,aj b (aA _ l)⟩
theorem Fr.scale {M V:Nat} {q:Rat} (h:Fr M V q) (k:Nat):Fr (M*k) V q:=by
 obtain ⟨z,e,b⟩:=h;refine ⟨z*k,?_,?_⟩
 ·rw[eJ,aT,<- e,aQ,Rat.mul_assoc]
 ·rw[cY,ck,<- cE];exact aA _ b
theorem Fr.scaleL {M V:Nat} {q:Rat} (h:Fr M V q) (k:Nat):Fr (k*M) V q:=by rw[b7];exact h.scale k
theorem Fr.dvd {M N V:Nat} {q:Rat} (h:Fr M V q) (d:M∣N):Fr N V q:=by obtain ⟨k,rfl⟩:=d;exact h.scale k
theorem Fr.add {M V W:Nat} {p q:Rat} (h:Fr M V p) (h':Fr M W q):Fr M (V+W) (p+q):=by
 obtain ⟨z,e,b⟩:=h;obtain ⟨z',e',b'⟩:=h';refine ⟨z+z',by rw[BF,<- e,<- e',Rat.add_mul],?_⟩;rw[LR];have:=Int.natAbs_add_le z z'
 lia
theorem Fr.neg {M V:Nat} {q:Rat} (h:Fr M V q):Fr M V (-q):=by
 obtain ⟨z,e,b⟩:=h;exact ⟨-z,by rw[dM,<- e,Rat.neg_mul],by rw[xi];exact b⟩
theorem Fr.sub {M V W:Nat} {p q:Rat} (h:Fr M V p) (h':Fr M W q):Fr M (V+W) (p - q):=by rw[Rat.sub_eq_add_neg];exact h.add h'.neg
theorem Fr.mul {M N V W : Nat} {p q : Rat} (h : Fr M V p) (h' : Fr N W q) : Fr (M * N) (V * W) (p * q) := by
  obtain ⟨z, e, b⟩ := h;obtain ⟨z', e', b'⟩ := h';refine ⟨z * z', ?_, ?_⟩
  · rw [eJ, aT, <- e, <- e']; grind
  · rw [cY]
    calc z.natAbs * z'.natAbs ≤ (V * M) * (W * N) := aF b b'
      _ = V * W * (M * N) := by rw [cE, Nat.mul_left_comm M, <- cE]
theorem Fr.zero {M V:Nat}:Fr M V 0:=⟨0,by simp,by simp⟩
theorem Fr.int {M V:Nat} {i:Int} (h:i.natAbs<=V):Fr M V (i:Rat):=⟨i*M,by rw[aT,aQ],by rw[cY,ck];exact aA _ h⟩
theorem Fr.one {M V:Nat} (h:1<=V):Fr M V 1:=Fr.int (i:=1) h
theorem Fr.den {M V:Nat} {q:Rat} (h:Fr M V q):(q.den:Int)∣(M:Int):=by
 obtain ⟨z,e,b⟩:=h
 have h1:q.num*(M:Int)=z*(q.den:Int):=by
  apply dN.mp;rw[aT,aT,<- e,td,aQ,aQ];grind
 have h2:(q.den:Int)∣q.num*(M:Int):=⟨z,by rw[h1,fR]⟩;exact tD (by rw[nB];exact Du q) h2
theorem Fr.den_le {M V:Nat} {q:Rat} (h:Fr M V q) (hM:0 < M):q.den<=M:=kg hM (zT.mp h.den)
theorem Fr.num_le {M V:Nat} {q:Rat} (h:Fr M V q) (hM:0 < M):q.num.natAbs<=V*M:=by
 have hd:=h.den;obtain ⟨z,e,b⟩:=h;obtain ⟨k,hk⟩:=zT.mp hd;have hk0:k≠0:=fun z=>by rw[z,Aq] at hk;lia
 have h1:z=q.num*(k:Int):=by
  apply dN.mp;rw[aT,<- e,td,aQ,hk,eJ];grind
 rw[h1] at b;exact aj (rH (by lia)) b
theorem Fr.own (q:Rat) {V:Nat} (h:q.num.natAbs<=V):Fr q.den V q:=⟨q.num,(td q).symm,aj h (dn _ q.den_pos)⟩
theorem Fr.sz {M V k j:Nat} {q:Rat} (h:Fr M V q) (hM:0 < M) (h1:M<=2^k) (h2:V<=2^j):Sz (j+k+1) (nm q).1/\Sz (k+1) (nm q).2:=by
 constructor
 ·show q.num.natAbs < 2^(j+k+1)
  have h3:=h.num_le hM;have h4:V*M<=2^j*2^k:=aF h2 h1;rw[dO,bf];have:=Nat.two_pow_pos (j+k);rw[bf] at this
  lia
 ·show (q.den:Int).natAbs < 2^(k+1)
  have h3:=h.den_le hM;rw[ck,dO];have:=Nat.two_pow_pos k
  lia
theorem Fr.sum {M V:Nat}:∀{l:List Rat},(∀x∈l,Fr M V x)->Fr M (l.length*V) l.sum
 | [],_=>by simp;exact Fr.zero
 | x :: r,h=>by
  rw[P7,bP,dA,As];exact (h x (.head _)).add (Fr.sum fun y hy=>h y (.tail _ hy))
def dh (xs ys:List Rat):Rat:=(List.zipWith (·*·) xs ys).sum
theorem Fr.dot {M N V W : Nat} {xs ys : List Rat} (h : ∀ x ∈ xs, Fr M V x) (h' : ∀ y ∈ ys, Fr N W y) : Fr (M * N) (xs.length * (V * W)) (dh xs ys) := by
  have q := Fr.sum (M := M * N) (V := V * W) (l := List.zipWith (· * ·) xs ys) fun z hz => by
    obtain ⟨i, hi, e⟩ := bS hz;rw [fu] at e;rw [<- e];exact (h _ (aJ _)).mul (h' _ (aJ _))
  exact q.mono (aA _ (by rw [b9]; lia))
theorem Ab : ∀ {bs : List Int} {m M : Int}, 0 < m → m ∣ M → (∀ b ∈ bs, 0 < b /\ b ∣ M) → yS bs m ∣ M
  | [], _, _, _, h, _ => h
  | b :: r, m, M, hm, h, hb => by
    have b1 := hb b du;refine Ab (bs := r) (xY hm b1.1) ?_ fun c hc => hb c (cb _ hc)
    have gp : 0 < g m b := Bm (by lia);have e1 := Bf m b;have e2 := yU m b;obtain ⟨u, hu⟩ := h;obtain ⟨v, hv⟩ := b1.2
    have h3 : lo m b * u = hi m b * v := by
      apply xj (show g m b ≠ 0 by lia)
      calc lo m b * u * g m b = lo m b * g m b * u := by rw [dI, fR u, <- dI]
        _ = m * u := by rw [e1]
        _ = M := hu.symm
        _ = b * v := hv
        _ = hi m b * g m b * v := by rw [e2]
        _ = hi m b * v * g m b := by rw [dI, fR (g m b), <- dI]
    have h4 : hi m b ∣ lo m b * u := ⟨v, h3⟩;have h5 : hi m b ∣ u := tD (by rw [nB]; exact Bc (by lia)) h4;obtain ⟨w, hw⟩ := h5;refine ⟨w, ?_⟩;show M = m * hi m b * w
    rw [hu, hw, dI]
theorem DC {a b:Int} {k:Nat} (hb:0 < b) (d:a∣b) (h:Sz k b):Sz k a:=h.le (kg (by lia) (gJ.mpr d))
end Nm
namespace Nm
def Dr (W:Nat) (x:Rat):Prop:=x.num.natAbs<=W/\x.den<=W
def xK:List Nat->Nat
 | []=>1
 | a :: r=>a*xK r
theorem yO:∀{l:List Nat},(∀a∈l,0 < a)->0 < xK l
 | [],_=>Nat.one_pos
 | a :: r,h=>bW (h a (.head _)) (yO fun b hb=>h b (.tail _ hb))
theorem yP:∀{l:List Nat} {a:Nat},a∈l->a∣xK l
 | b :: r,a,h=>by
  rcases aG.mp h with rfl | h
  ·exact Ii ..
  ·exact gh (yP h) (cX ..)
theorem AK {k:Nat}:∀{l:List Nat},(∀a∈l,a<=2^k)->xK l<=2^(k*l.length)
 | [],_=>by simp [xK]
 | a :: r,h=>by
  rw[bP,Nat.mul_succ,bf,b7 (2^(k*r.length))];exact aF (h a (.head _)) (AK fun b hb=>h b (.tail _ hb))
def GF (M V:Nat) (rows:List (List Rat)):Prop:=∀xs∈rows,∀x∈xs,Fr M V x
def PD (c n i:Nat) (rows:List (List Rat)):Prop:=∃M,0 < M/\M<=2^(i*(c*n+2))/\GF M (2^(20+2*i)) rows
theorem Pk {c n:Nat}:PD c n 0 []:=⟨1,by decide,by simp,fun _ h=>nomatch h⟩
theorem Pl (c n i:Nat):(i+1)*(c*n+2)=i*(c*n+2)+(c*n+2):=dA ..
theorem Nc {c n i:Nat} {rows:List (List Rat)} {xs:List Rat} (h:PD c n i rows) (hl:xs.length=n) (hd:∀x∈xs,Dr (2^c) x) (hc:c<=20):PD c n (i+1) (rows++[xs]):=by
 obtain ⟨M,h0,h1,h2⟩:=h
 have dp:0 < xK (xs.map (·.den)):=yO fun a ha=>by
  obtain ⟨x,_,rfl⟩:=aD.mp ha;exact x.den_pos
 have dl:xK (xs.map (·.den))<=2^(c*n):=by
  have:=AK (k:=c) (l:=xs.map (·.den)) fun a ha=>by
   obtain ⟨x,hx,rfl⟩:=aD.mp ha;exact (hd x hx).2
  rwa [ar,hl] at this
 refine ⟨M*xK (xs.map (·.den)),bW h0 dp,?_,fun ys hy x hx=>?_⟩
 ·rw[Pl,bf];exact aF h1 (aj dl (au (by decide) (by lia)))
 ·rcases az.mp hy with hy | hy
  ·exact ((h2 ys hy x hx).scale _).mono (au (by decide) (by lia))
  ·have e:ys=xs:=by simpa using hy
   subst e;have f:Fr x.den (2^c) x:=Fr.own x (hd x hx).1;have g:=(f.dvd (yP (aD.mpr ⟨x,hx,rfl⟩))).scaleL M;exact g.mono (au (by decide) (by lia))
def cW (rows:List (List Rat)) (w:Nat):List (List Rat):=(List.range w).map fun j=>rows.map fun xs=>xs.getD j 0
theorem dj {rows:List (List Rat)} {w:Nat}:(cW rows w).length=w:=by simp [cW]
theorem kY {rows:List (List Rat)} {w:Nat}:∀ys∈cW rows w,ys.length=rows.length:=fun ys hy=>by
 obtain ⟨j,_,rfl⟩:=aD.mp hy;exact ar ..
theorem getD_map {α:Type} {l:List α} {f:α->Rat} {i:Nat} (h:i < l.length):(l.map f).getD i 0=f l[i]:=by
 rw[ae,aK,ag h];rfl
theorem Il {rows:List (List Rat)} {w:Nat} (h:∀xs∈rows,xs.length=w):cW (cW rows w) rows.length=rows:=by
 apply eY
 ·exact dj
 ·intro i h1 h2;have e:(cW (cW rows w) rows.length)[i]=(cW rows w).map fun xs=>xs.getD i 0:=by simp [cW]
  rw[e];have hw:=h rows[i] (aJ h2);apply eY
  ·rw[ar,dj,hw]
  ·intro j h3 h4;rw[zS];have e2:(cW rows w)[j]'(by rw[dj];lia)=rows.map fun xs=>xs.getD j 0:=by simp [cW]
   rw[e2,getD_map h2,ae,ag h4];rfl
end Nm
namespace L2
open PySem PySem.Spec PyProof.Rows Nm
theorem cT.sqt {K:PySem.W.Frag} {H H':Hp} {b a:Addr} {xs:List V} (u:cT b H H') (B:ir H b) (h:uc K H a xs):uc K H' a xs:=by
 rcases h with (h | ⟨o,h⟩) | h
 ·exact .inl (.inl (u.tup B h))
 ·exact .inl (.inr ⟨o,u.other (fun z=>by obtain ⟨_,_,_,_,_,e,_⟩:=B;rw[z,e] at h;cases h) h⟩)
 ·exact .inr h
theorem J6 {K:PySem.W.Frag} {H:Hp} {a l:Addr} {xs ys:List V} {o:HO} (h:uc K H a xs) (hl:H l=some (.lst ys)):uc K (upd H l o) a xs:=by
 rcases h with (h | ⟨o,h⟩) | h
 ·exact .inl (.inl (by rw[bI fun z=>by rw[z,hl] at h;cases h];exact h))
 ·exact .inl (.inr ⟨o,by rw[bI fun z=>by rw[z,hl] at h;cases h];exact h⟩)
 ·exact .inr h
def cC (K:PySem.W.Frag) (H:Hp) (q:Rat) (x:V):Prop:=E8 K H x (nm q)
section
variable {K:PySem.W.Frag} {H H':Hp} {q:Rat} {x:V} {b l p:Addr} {qs:List Rat}
theorem cC.same (h:cC K H q x) (e:aL H H'):cC K H' q x:=e.num h
theorem cC.upto (h:cC K H q x) (u:cT b H H') (B:ir H b):cC K H' q x:=by obtain ⟨p,e,s⟩:=h;exact ⟨p,e,u.sqt B s⟩
theorem cC.updL {ys:List V} {o:HO} (h:cC K H q x) (hl:H l=some (.lst ys)):cC K (upd H l o) q x:=by obtain ⟨p,e,s⟩:=h;exact ⟨p,e,J6 s hl⟩
theorem cC.mk {r:Addr} {a c:Int} (h:H r=some (.tup [.int a,.int c])) (e:(a,c)=nm q):cC K H q (.ref r):=⟨r,rfl,by rw[<- e];exact uc.of h⟩
def cw (K:PySem.W.Frag) (H:Hp) (p:Addr) (qs:List Rat):Prop:=∃xs,H p=some (.lst xs)/\Paired (cC K H) qs xs
theorem cw.same (h:cw K H p qs) (e:aL H H'):cw K H' p qs:=by obtain ⟨xs,g,r⟩:=h;exact ⟨xs,e _ _ g,Paired.imp' (fun _ _ z=>z.same e) r⟩
theorem cw.upto (h:cw K H p qs) (u:cT b H H') (B:ir H b) (n:p≠b):cw K H' p qs:=by obtain ⟨xs,g,r⟩:=h;exact ⟨xs,u.other n g,Paired.imp' (fun _ _ z=>z.upto u B) r⟩
theorem cw.updL {ys:List V} {o:HO} (h:cw K H p qs) (hl:H l=some (.lst ys)) (n:p≠l):cw K (upd H l o) p qs:=by obtain ⟨xs,g,r⟩:=h;exact ⟨xs,by rw[bI n];exact g,Paired.imp' (fun _ _ z=>z.updL hl) r⟩
theorem uV {α β γ:Type} {F:α->β->Prop} {f:γ->α}:∀{l:List γ} {l2:List β},Paired (fun c x=>F (f c) x) l l2->Paired F (l.map f) l2
 | _,_,.nil=>.nil
 | _,_,.cons r t=>.cons r (uV t)
theorem cw.rowK (h:cw K H p qs):DX K H p (qs.map nm):=by obtain ⟨xs,g,r⟩:=h;exact ⟨xs,g,uV (F:=fun n x=>E8 K H x n) r⟩
def dB (K:PySem.W.Frag) (H0 H:Hp) (qs:List Rat) (x:V):Prop:=∃q,x=V.ref q/\H0 q=none/\cw K H q qs
def bR (K:PySem.W.Frag) (H0 H:Hp) (p:Addr) (rows:List (List Rat)):Prop:=∃xs,H p=some (.lst xs)/\Paired (dB K H0 H) rows xs/\V.ref p∉xs
theorem pN {H0:Hp} {K:PySem.W.Frag} {p:Addr} {rows:List (List Rat)} {ys:List V} (h:∃H2,H2 p=none/\Paired (dB K H0 H2) rows ys):V.ref p∉ys:=fun hm=>by
 obtain ⟨H2,e,pr⟩:=h;obtain ⟨qs,_,q,z,_,xs,g,_⟩:=dd pr hm;cases z;rw[e] at g;cases g
variable {H0:Hp} {rows:List (List Rat)}
theorem dB.same (h:dB K H0 H qs x) (e:aL H H'):dB K H0 H' qs x:=by obtain ⟨q,a,b,c⟩:=h;exact ⟨q,a,b,c.same e⟩
theorem dB.upto (h:dB K H0 H qs x) (u:cT b H H') (B:ir H b) (nb:H0 b≠none):dB K H0 H' qs x:=by obtain ⟨q,a,c,d⟩:=h;exact ⟨q,a,c,d.upto u B fun z=>nb (by rw[<- z];exact c)⟩
theorem dB.weak (h:dB K H0 H qs x) {H1:Hp} (e:aL H1 H0):dB K H1 H qs x:=by obtain ⟨q,a,b,c⟩:=h;exact ⟨q,a,e.none b,c⟩
theorem bR.same (h:bR K H0 H p rows) (e:aL H H'):bR K H0 H' p rows:=by obtain ⟨xs,g,r,n⟩:=h;exact ⟨xs,e _ _ g,Paired.imp' (fun _ _ z=>z.same e) r,n⟩
theorem bR.upto (h:bR K H0 H p rows) (u:cT b H H') (B:ir H b) (n:p≠b) (nb:H0 b≠none):bR K H0 H' p rows:=by obtain ⟨xs,g,r,nn⟩:=h;exact ⟨xs,u.other n g,Paired.imp' (fun _ _ z=>z.upto u B nb) r,nn⟩
theorem bR.weak (h:bR K H0 H p rows) {H1:Hp} (e:aL H1 H0):bR K H1 H p rows:=by obtain ⟨xs,g,r,n⟩:=h;exact ⟨xs,g,Paired.imp' (fun _ _ z=>z.weak e) r,n⟩
theorem bR.gridK (h:bR K H0 H p rows):Ob K H p (rows.map (List.map nm)):=by obtain ⟨xs,g,r,_⟩:=h;exact ⟨xs,g,uV (F:=fun ns x=>∃q,x=V.ref q/\DX K H q ns) (Paired.imp' (fun _ _ ⟨q,a,_,c⟩=>⟨q,a,c.rowK⟩) r)⟩
end
def HE:Kind Rat:=QM.via nm (fun _ _ e=>O9 e) (fun K H x q=>cC K H q x) id
def NT:Kind (List Rat):=RK HE
theorem cw.kind {K:PySem.W.Frag} {H:Hp} {p:Addr} {qs:List Rat} (h:cw K H p qs):NT.R K H (.ref p) qs:=by obtain ⟨xs,g,q⟩:=h;exact ⟨p,xs,rfl,bV.of g,q⟩
def rW (x:Rat):Prop:=Sz 4000 (nm x).1/\Sz 4000 (nm x).2
def Fits (l:List Rat):Prop:=∃M V:Nat,0 < M/\M<=2^900/\V<=2^900/\∀x∈l,Fr M V x
theorem Fits.szn {l:List Rat} (h:Fits l) {x:Rat} (hx:x∈l):rW x:=by
 obtain ⟨M,V,h0,h1,h2,h3⟩:=h;obtain ⟨a,b⟩:=(h3 x hx).sz h0 h1 h2;exact ⟨a.mono (by decide),b.mono (by decide)⟩
theorem Fits.ok {l:List Rat} (h:Fits l) {x:Rat} (hx:x∈l):zL (nm x):=⟨kB x,Du x,(h.szn hx).1.mono (by decide),(h.szn hx).2.mono (by decide)⟩
theorem Gg {M V:Nat} {x:Rat} (h0:0 < M) (h1:M<=2^1800) (h2:V<=2^1810) (h:Fr M V x):rW x:=by
 obtain ⟨a,b⟩:=h.sz h0 h1 h2;exact ⟨a.mono (by decide),b.mono (by decide)⟩
theorem JX {x:Rat} (h:rW x):zL (nm x):=⟨kB x,Du x,h.1.mono (by decide),h.2.mono (by decide)⟩
def uN (K:PySem.W.Frag) (f:Rat->Rat->Rat):Sp:=fun vs H Q _=>∃(u v:V) (x y:Rat),vs=[u,v]/\cC K H x u/\cC K H y v/\rW x/\rW y/\∀r H',aL H H'->cC K H' (f x y) (.ref r)->Q (.ref r) H'
section
variable {K:PySem.W.Frag} {vs:List V} {H:Hp} {Q:VK} {E:XK}
theorem FK {f:Rat->Rat->Rat} {F:Int->Int->Int->Int->Int} (hf:∀x y:Rat,(f x y)*(((nm x).2*(nm y).2:Int):Rat)=((F (nm x).1 (nm x).2 (nm y).1 (nm y).2:Int):Rat)) (h:uN K f vs H Q E):GR K F vs H Q E:=by
 obtain ⟨u,v,x,y,rfl,⟨p,rfl,hp⟩,⟨q,rfl,hq⟩,⟨s1,s2⟩,⟨s3,s4⟩,k⟩:=h;refine ⟨p,q,_,_,_,_,rfl,hp,hq,kB x,kB y,s1,s2,s3,s4,fun r H' s g=>k r H' s (cC.mk g ?_)⟩;exact tw (pU (kB x) (kB y)) (hf x y)
theorem xu (x:Rat):(((nm x).1:Int):Rat)=x*(((nm x).2:Int):Rat):=by
 show (x.num:Rat)=x*(((x.den:Nat):Int):Rat)
 rw[td,aQ]
theorem Ia (h:uN K (fun x y=>x+y) vs H Q E):GR K N5 vs H Q E:=FK (fun x y=>by
 unfold N5;rw[BF,aT,aT,aT,xu,xu];grind) h
theorem z7 (h:uN K (fun x y=>x - y) vs H Q E):GR K Lr vs H Q E:=FK (fun x y=>by
 unfold Lr;rw[Rat.intCast_sub,aT,aT,aT,xu,xu];grind) h
theorem Hq (h:uN K (fun x y=>x*y) vs H Q E):GR K Lq vs H Q E:=FK (fun x y=>by
 unfold Lq;rw[aT,aT,xu,xu];grind) h
end
def Gv (M:Int) (ns:List (Int×Int)):Prop:=0 < M/\Sz 4400 M/\∀n∈ns,0 < n.2/\n.2∣M/\Sz 4400 n.1
theorem Gv.bot {M:Int} {ns:List (Int×Int)} (h:Gv M ns):0 < iE ns/\Sz 4400 (iE ns):=by
 have hb:∀b∈ns.map (·.2),0 < b/\b∣M:=fun b hb=>by
  obtain ⟨n,hn,rfl⟩:=aD.mp hb;exact ⟨(h.2.2 n hn).1,(h.2.2 n hn).2.1⟩
 exact ⟨Bi (by decide) fun b q=>(hb b q).1,DC h.1 (Ab (by decide) (Int.one_dvd _) hb) h.2.1⟩
def Ow (K:PySem.W.Frag):Sp:=fun vs H Q _=>∃(p:Addr) (bs:List Int) (M:Int),vs=[.ref p]/\bV K H p (bs.map V.int)/\0 < M/\Sz 4400 M/\(∀b∈bs,0 < b/\b∣M)/\Q (.int (yS bs 1)) H
def Ox (K:PySem.W.Frag):Sp:=fun vs H Q _=>∃(p:Addr) (ns:List (Int×Int)) (M:Int),vs=[.ref p]/\DX K H p ns/\ns.length<=1000/\Gv M ns/\∀H',aL H H'->Q (.int (iE ns)) H'
def J8 (K:PySem.W.Frag):Sp:=fun vs H Q _=>∃(p:Addr) (ns:List (Int×Int)) (M:Int) (B:Int),vs=[.ref p,.int B]/\DX K H p ns/\ns.length<=1000/\Gv M ns/\0 < B/\Sz 4400 B /\
 ∀r H',H r=none->aL H H'->H' r=some (.lst ((fN ns B).map V.int))->Q (.ref r) H'
theorem Ed {M:Int} {ns:List (Int×Int)} {B t:Int} (h:Gv M ns) (hB:0 < B) (sB:Sz 4400 B) (ht:t∈fN ns B):Sz 8800 t:=by
 obtain ⟨n,hn,rfl⟩:=aD.mp ht;have hp:=h.2.2 n hn
 have sq:Sz 4400 (B / n.2):=sB.le (by
  rw[PL (by lia)];exact Nat.div_le_self ..)
 exact (hp.2.2.mul sq).mono (by lia)
theorem uK {x:Rat} {B:Int} (h:(nm x).2∣B):(((nm x).1*(B / (nm x).2):Int):Rat)=x*(B:Rat):=by
 obtain ⟨k,rfl⟩:=h;have hp:=kB x;rw[Int.mul_ediv_cancel_left _ (by lia),aT,aT,xu];grind
theorem ET {B C : Int} : ∀ {xs ys : List Rat}, (∀ x ∈ xs, (nm x).2 ∣ B) → (∀ y ∈ ys, (nm y).2 ∣ C) → (((List.zipWith (· * ·) (fN (xs.map nm) B) (fN (ys.map nm) C)).sum : Int) : Rat) = dh xs ys * ((B : Rat) * (C : Rat))
  | [], ys, _, _ => by simp [fN, dh]
  | x :: xs, [], _, _ => by simp [fN, dh]
  | x :: xs, y :: ys, h1, h2 => by
    have ih := ET (B := B) (C := C) (xs := xs) (ys := ys) (fun z hz => h1 z (.tail _ hz)) (fun z hz => h2 z (.tail _ hz));have e1 := uK (h1 x (.head _));have e2 := uK (h2 y (.head _));have e3 : (List.zipWith (· * ·) (fN ((x :: xs).map nm) B) (fN ((y :: ys).map nm) C)).sum = ((nm x).1 * (B / (nm x).2)) * ((nm y).1 * (C / (nm y).2)) + (List.zipWith (· * ·) (fN (xs.map nm) B) (fN (ys.map nm) C)).sum := rfl;have e4 : dh (x :: xs) (y :: ys) = x * y + dh xs ys := rfl;rw [e3, e4, BF, aT, ih, e1, e2];grind
theorem Nn {xs ys:List Rat} (h1:0 < iE (xs.map nm)) (h2:0 < iE (ys.map nm)):(lo (Lz (xs.map nm) (ys.map nm)) (iE (xs.map nm)*iE (ys.map nm)),hi (Lz (xs.map nm) (ys.map nm)) (iE (xs.map nm)*iE (ys.map nm)))=nm (dh xs ys):=by
 refine tw (pU h1 h2) ?_;unfold Lz;rw[ET (fun x hx=>vq (aD.mpr ⟨x,hx,rfl⟩)) (fun x hx=>vq (aD.mpr ⟨x,hx,rfl⟩)),aT]
def J7 (K:PySem.W.Frag):Sp:=fun vs H Q _=>∃(p:Addr) (w:Nat) (H0:Hp) (rows:List (List Rat)),vs=[.ref p,.int w]/\bR K H0 H p rows/\rows.length<=1000/\w<=1000/\(∀xs∈rows,xs.length=w) /\
 ∀r H',H r=none->aL H H'->bR K H H' r (cW rows w)->Q (.ref r) H'
def Fq (K:PySem.W.Frag):Sp:=fun vs H Q _=>∃(b:Addr) (w:Nat),vs=[.ref b,.int w]/\ir H b/\1<=w/\w<=1000000/\∀r x H',Dr (max w 6) x->cC K H' x (.ref r)->ir H' b->cT b H H'->Q (.ref r) H'
def Ki (K:PySem.W.Frag):Sp:=fun vs H Q _=>∃(b:Addr) (m w:Nat),vs=[.ref b,.int m,.int w]/\ir H b/\m<=1000/\1<=w/\w<=1000000 /\
 ∀r xs H',H r=none->cw K H' r xs->xs.length=m->(∀x∈xs,Dr (max w 6) x)->ir H' b->cT b H H'->Q (.ref r) H'
def Ka (K:PySem.W.Frag):Sp:=fun vs H Q _=>∃(p q:Addr) (xs ys:List Rat),vs=[.ref p,.ref q]/\cw K H p xs/\cw K H q ys/\ys.length=xs.length/\xs.length<=1000/\(∀x∈xs,rW x)/\(∀y∈ys,rW y) /\
 ∀r H',H r=none->aL H H'->cw K H' r (List.zipWith (fun x y=>x+y) xs ys)->Q (.ref r) H'
def Oy (K:PySem.W.Frag):Sp:=fun vs H Q _=>∃(u:V) (q:Addr) (c:Rat) (ys:List Rat),vs=[u,.ref q]/\cC K H c u/\rW c/\cw K H q ys/\ys.length<=1000/\(∀y∈ys,rW y) /\
 ∀r H',H r=none->aL H H'->cw K H' r (ys.map fun y=>c*y)->Q (.ref r) H'
def Fv (K:PySem.W.Frag):Sp:=fun vs H Q _=>∃(p:Addr) (H0:Hp) (rows:List (List Rat)),vs=[.ref p]/\bR K H0 H p rows/\rows.length<=1000/\(∀xs∈rows,xs.length<=1000)/\∀r H',H r=none->aL H H'->bR K H H' r rows->Q (.ref r) H'
section
variable {K:PySem.W.Frag} {a:Addr} {xs:List V} {g:TG} {tf:TT} {te:TE} {Q:VK} {σ₀:St} {H:Hp} {α β:Type}
theorem fB {as:List α} {F:Hp->α->V->Prop} (G:Hp->β->V->Prop) (f:α->β) (hx:H a=some (.lst xs)) (pf:Paired (F H) as xs) (hl:as.length<=1000)
  (hF:∀{H H' c x},F H c x->aL H H'->F H' c x) (hG:∀{H H' c x},G H c x->aL H H'->G H' c x)
  (hs:∀(i:Nat) c x H' NY NN,as[i]?=some c->aL H H'->F H' c x->(∀y H2,aL H' H2->G H2 (f c) y->NY y H2)->wG σ₀ g tf te x H' NY NN)
  (hd:∀ys H' p,H p=none->aL H H'->H' p=some (.lst ys)->Paired (G H') (as.map f) ys->(∃H2,H2 p=none/\Paired (G H2) (as.map f) ys)->Q (.ref p) H'):xh (NA K a) σ₀ g tf te Q H:=by
 have lx:=pf.length;refine fY (K:=K) (xs:=xs) (fun i ys H'=>aL H H'/\Paired (G H') ((as.take i).map f) ys) (aY (bO (by lia))) ⟨aL.refl _,.nil⟩ (fun i ys H' _ ⟨s,_⟩=>bV.of (s _ _ hx)) ?_ ?_
 ·rintro i x ys H' hx' hlen ⟨s,pr⟩;obtain ⟨c,ec,hc⟩:=cF pf hx';refine hs i c x H' _ _ ec s (hF hc s) fun y H2 s2 gy=>⟨s.trans s2,?_⟩
  rw[take_snoc ec,cV];exact b6 (Paired.imp' (fun _ _ z=>hG z s2) pr) (.cons gy .nil)
 ·rintro ys H' hy ⟨s,pr⟩ p hp;rw[aH (by lia)] at pr;exact hd ys _ p (s.none hp) (s.trans (aL.new hp)) aM (Paired.imp' (fun _ _ z=>hG z (aL.new hp)) pr) ⟨H',hp,pr⟩
theorem fX {n:Nat} (G:Hp->β->V->Prop) (f:Nat->β) (hl:n<=1000) (hG:∀{H H' c x},G H c x->aL H H'->G H' c x)
  (hs:∀(i:Nat) H' NY NN,i < n->aL H H'->(∀y H2,aL H' H2->G H2 (f i) y->NY y H2)->wG σ₀ g tf te (.int i) H' NY NN)
  (hd:∀ys H' p,H p=none->aL H H'->H' p=some (.lst ys)->Paired (G H') ((List.range n).map f) ys->(∃H2,H2 p=none/\Paired (G H2) ((List.range n).map f) ys)->Q (.ref p) H'):xh (Fd 0 n) σ₀ g tf te Q H:=by
 refine xA (fun i ys H'=>aL H H'/\Paired (G H') ((List.range i).map f) ys) (aY (bO (by lia))) ⟨aL.refl _,.nil⟩ ?_ ?_
 ·rintro i ys H' hi hlen ⟨s,pr⟩;rw[Ij];refine hs i H' _ _ hi s fun y H2 s2 gy=>⟨s.trans s2,?_⟩
  rw[LW,cV];exact b6 (Paired.imp' (fun _ _ z=>hG z s2) pr) (.cons gy .nil)
 ·rintro ys H' hy ⟨s,pr⟩ p hp;exact hd ys _ p (s.none hp) (s.trans (aL.new hp)) aM (Paired.imp' (fun _ _ z=>hG z (aL.new hp)) pr) ⟨H',hp,pr⟩
theorem yY {n:Nat} {b:Addr} (G:Hp->β->V->Prop) (C:β->Prop) (hB:ir H b) (hl:n<=1000) (hG:∀{H' H'' c x},G H' c x->cT b H' H''->ir H' b->G H'' c x)
  (hs:∀(i:Nat) H' NY NN,i < n->cT b H H'->ir H' b->(∀y c H2,cT b H' H2->ir H2 b->C c->G H2 c y->NY y H2)->wG σ₀ g tf te (.int i) H' NY NN)
  (hd:∀ys cs H' p,H p=none->cT b H H'->ir H' b->H' p=some (.lst ys)->cs.length=n->(∀c∈cs,C c)->Paired (G H') cs ys->(∃H2,H2 p=none/\Paired (G H2) cs ys)->Q (.ref p) H'):xh (Fd 0 n) σ₀ g tf te Q H:=by
 refine xA (fun i ys H'=>cT b H H'/\ir H' b/\∃cs,cs.length=i/\(∀c∈cs,C c)/\Paired (G H') cs ys) (aY (bO (by lia))) ⟨(aL.refl _).upto,hB,[],rfl,(fun _ z=>nomatch z),.nil⟩ ?_ ?_
 ·rintro i ys H' hi hlen ⟨u,B,cs,lc,hc,pr⟩;rw[Ij];refine hs i H' _ _ hi u B fun y c H2 u2 B2 cc gy=>⟨u.trans u2,B2,cs++[c],by simp [lc],DR hc cc,b6 (Paired.imp' (fun _ _ z=>hG z u2 B) pr) (.cons gy .nil)⟩
 ·rintro ys H' hy ⟨u,B,cs,lc,hc,pr⟩ p hp;have s:aL H' (upd H' p (.lst ys)):=aL.new hp;exact hd ys cs _ p (u.none B hp) (u.same s) (B.same s) aM lc hc (Paired.imp' (fun _ _ z=>hG z s.upto B) pr) ⟨H',hp,pr⟩
end
section
variable {X:Cx}
theorem eG {n:Nat} {g:TG} {tb:TS} {D:Ends} {σ:St} {H:Hp} (Pv:Nat->St->Hp->Prop) (h0:Pv 0 σ H)
  (hs:∀(i:Nat) σ H,i < n->Pv i σ H->g (.int i) σ H fun σ2 H2=>tb { D with nx:=Pv (i+1),ct:=Pv (i+1),bk:=D.nx } σ2 H2) (hd:∀σ H,Pv n σ H->D.nx σ H) :
  ∃W:Nat->Nat->St->Hp->Prop,(∃m,W 0 m σ H)/\∀i m σ H,W i m σ H →
   ((Fd 0 n).stop i H/\D.nx σ H)\/((Fd 0 n).go i H/\∃N:St->Hp->Prop,(∀σ' H',N σ' H'->∃m',m' < m/\W (i+1) m' σ' H')/\∀x H',(Fd 0 n).yld i H x H'->g x σ H' fun σ2 H2=>tb { D with nx:=N,ct:=N,bk:=D.nx } σ2 H2) :=
 Ct (lo:=0) Pv h0 (fun i σ H hi p=>by rw[Ij];exact hs i σ H hi p) hd
theorem sH:uC X (.type "int") (fun xs H Q=>∃b:Bool,xs=[.bl b]/\Q (.int (if b=true then 1 else 0)) H):=by
 intro pins s σ H xs us Q I r h;obtain ⟨b,rfl,q⟩:=h;obtain ⟨u,rfl,ru⟩:=vals1 r;cases ru;exact call_int_bool ⟨.int _,H,I.tok _,⟨_,rfl⟩,q⟩
theorem BW (K:PySem.W.Frag) (hK:X.K=K):uC X (.builtin "len") (fun xs H Q=>∃p ys,xs=[.ref p]/\(bV K H p ys\/uc K H p ys)/\Q (.int ys.length) H):=by subst hK;exact bu
theorem KE {st:Stmt}:PS X st (fun _ _ _=>False):=fun _ _ _ _ _ _ h=>h.elim
end
theorem K6 {t b:Int} {W:Nat} (hb:0 < b) (h1:t.natAbs<=W) (h2:b.natAbs<=W):∃q:Rat,(lo t b,hi t b)=nm q/\Dr W q/\q*(b:Rat)=(t:Rat):=by
 have hb':(b:Rat)≠0:=fun z=>by have:=zO.mp z;lia
 have e:(t:Rat) / (b:Rat)*(b:Rat)=t:=Rat.div_mul_cancel hb';have h:=tw hb e;refine ⟨_,h,⟨?_,?_⟩,e⟩
 ·have:=congrArg Prod.fst h;have z:=lo_le (t:=t) (b:=b) (by lia);show ((nm ((t:Rat) / (b:Rat))).1).natAbs<=W
  rw[<- this];exact aj z h1
 ·have:=congrArg Prod.snd h;have z:=N2 (t:=t) (b:=b) (by lia);have hd:(((t:Rat) / (b:Rat)).den:Int)=hi t b:=this.symm;have hp:=DA (t:=t) hb
  lia
theorem Jr {K:PySem.W.Frag} {H:Hp} {qs:List Rat} {xs:List V} (h:Paired (cC K H) qs xs) {j:Nat} (hj:j < qs.length):∃v,Gn xs (j:Int)=some v/\cC K H (qs.getD j 0) v:=by
 have hl:=h.length;refine ⟨xs[j]'(by lia),eC (by simp),?_⟩;have:=lH h (i:=j) hj (by lia);rwa [ae,ag hj]
theorem Cu {xs ys:List Rat} {i:Nat} (h1:i < xs.length) (h2:i < ys.length):dh (xs.take (i+1)) (ys.take (i+1))=dh (xs.take i) (ys.take i)+xs.getD i 0*ys.getD i 0:=by
 have e1:xs[i]?=some (xs.getD i 0):=by rw[ae,ag h1];rfl
 have e2:ys[i]?=some (ys.getD i 0):=by rw[ae,ag h2];rfl
 unfold dh;rw[take_snoc e1,take_snoc e2,D7 (by simp;lia),List.sum_append];simp [nh]
theorem getD_mem {xs:List Rat} {i:Nat} (h:i < xs.length):xs.getD i 0∈xs:=by
 rw[ae,ag h];exact aJ h
theorem BZ {xs ys:List Rat} (h:ys.length=xs.length):List.zipWith (fun x y=>x+y) xs ys=(List.range xs.length).map fun i=>xs.getD i 0+ys.getD i 0:=by
 apply il;intro i;rw[bY,aK];by_cases hi:i < xs.length
 ·rw[dC hi,ag hi,ag (show i < ys.length by lia)];simp [ae,ag hi,ag (show i < ys.length by lia)]
 ·rw[aR (show (List.range xs.length).length<=i by simp;lia),aR (show xs.length<=i by lia)];rfl
theorem dB.updL {K:PySem.W.Frag} {H0 H:Hp} {qs:List Rat} {x:V} {l:Addr} {ys:List V} {o:HO} (h:dB K H0 H qs x) (hl:H l=some (.lst ys)) (nl:H0 l≠none):dB K H0 (upd H l o) qs x:=by obtain ⟨q,a,b,c⟩:=h;exact ⟨q,a,b,c.updL hl fun z=>nl (by rw[<- z];exact b)⟩
theorem ir.at {H:Hp} {b:Addr} (B:ir H b):H b≠none:=by obtain ⟨_,_,_,_,_,e,_⟩:=B;rw[e];simp
theorem Inner.at {H:Hp} {b q:Addr} (B:ir H b) (i:Inner H b q):H q≠none:=by
 obtain ⟨q',i',xs,e⟩:=B.inner;rw[<- Inner.inj i' i,e];simp
theorem lJ {α β:Type} {F:α->β->Prop} {l1:List α} {l2:List β} {i:Nat} (h:Paired F l1 l2) (hi:i < l1.length):∃x y,l1[i]?=some x/\l2[i]?=some y/\x∈l1/\F x y:=by
 have hl:=h.length;exact ⟨l1[i],l2[i]'(by lia),by simp,by simp,aJ _,lH h hi (by lia)⟩
theorem DM {i j:Int} (h1:-(2^64) < i) (h2:i < 2^64):jk i j:=.inl (.inl ⟨h1,h2⟩)
theorem HU {i j:Int} (h1:-(2^64) < j) (h2:j < 2^64):jk i j:=.inl (.inr ⟨h1,h2⟩)
def PX (K : PySem.W.Frag) (l : Addr) : It :=
  ⟨fun i H => ∃ xs x, bV K H l xs /\ xs[i]? = some x,
   fun i H v H' => ∃ p x, v = .ref p /\ H p = none /\ H' = upd H p (.tup [.int i, x]) /\ ∀ xs, bV K H l xs → xs[i]? = some x,
   fun i H => ∃ xs, bV K H l xs /\ xs.length ≤ i⟩
def tnE (e it l:Addr) (i:Nat) (h:Heap):Prop:=(∃old,IsEnum h e it i old)/\h.IsListIter it l i
theorem Io {P:Program} {w:World} {K:PySem.W.Frag} {elts:List Expr} {kk:Nat} {tpos:Pos} (e it l:Addr) (hei:e≠it):Turn P w K (.Tuple elts kk tpos) (PX K l) [e,it] e (tnE e it l) where
 mem:=by simp
 obj:=fun i h st b hb=>by
  obtain ⟨⟨old,he⟩,⟨o1,g1,c1,d1⟩⟩:=st;simp only[aG,ba,or_false] at hb;rcases hb with rfl | rfl
  ·exact ⟨_,he,fun v q=>nomatch q⟩
  ·exact ⟨o1,g1,fun v q=>by rw[d1] at q;cases q⟩
 keep:=fun i h h' st k=>by
  obtain ⟨⟨old,he⟩,h1⟩:=st;exact ⟨⟨old,k e (by simp) _ he⟩,h1.at fun o q=>k it (by simp) o q⟩
 item:=by
  intro X hP hw hK hc i pins s σ H E I hf st hg;subst hP hw hK;obtain ⟨⟨old,he⟩,h1⟩:=st;obtain ⟨xs,x,qx,ex⟩:=hg;obtain ⟨us,rx,px,_⟩:=I.list qx;obtain ⟨u,eu,ru⟩:=rx.get ex;refine wpAny_pyNext_enum_item he h1 px.isList (x:=u) (by simpa using eu) hei fun h' a1 a2 a3 a4 hk=>?_
  refine ⟨_,rfl,wpAny_letOwnedTupleGo_enum a1 fun h'' he'' hs=>?_⟩;have hT0:H s.heap.objs.size=none:=I.hok.fresh (ao _);have ene:s.heap.objs.size≠e:=Ih (Heap.lt_size he)
  have up:∀b o,b∉[e,it]->s.heap.get? b=some o->h''.get? b=some o:=fun b o hb q=>by
   simp only[aG,ba,or_false,not_or] at hb;exact (hs.2 b hb.1).trans (hk b o hb.1 hb.2 q)
  have tup:h''.get? s.heap.objs.size=some { cls:=.type "tuple",data:=.seq #[.int i s.toks,u] }:=(hs.2 _ ene).trans a3;have I1:Inv X pins σ H { s with heap:=h'',toks:=s.toks+1 }:=I.moved (g':=s.gens) (d':=s.drawn) (t':=s.toks+1) (ch:=[e,it]) hf up I.bare;have fT:lQ X pins H s.heap.objs.size:=I.fpOk (ao _) hT0;have I2:=I1.track (o:=.tup [.int i,x]) fT ⟨kh rfl,[.int i s.toks,u],.cons ⟨_,rfl⟩ (.cons ru .nil),⟨_,tup,rfl,_,rfl⟩⟩;refine ⟨.ref s.heap.objs.size,_,I2,rfl,⟨_,x,rfl,hT0,rfl,fun xs' q=>by rw[I.list_inj q qx];exact ex⟩,?_,fun b hb=>?_⟩
  ·exact ⟨⟨_,by simpa using he''⟩,a2.at fun o q=>(hs.2 _ hei.symm).trans q⟩
  ·rw[bI]
   ·exact (hf b hb).1
   ·obtain ⟨o1,g1,_⟩:=h1;simp only[aG,ba,or_false] at hb;rcases hb with rfl | rfl
    ·exact ene.symm
    ·exact cg (Heap.lt_size g1)
 done:=by
  intro X hP hw hK hc i pins s σ H E I hf st hg;subst hP hw hK;obtain ⟨⟨old,he⟩,h1⟩:=st;obtain ⟨xs,qx,hend⟩:=hg;obtain ⟨us,rx,px,_⟩:=I.list qx;have lx:=rx.length;refine wpAny_pyNext_enum_end (I.ok.hd hc) he h1 px.isList (by simp;lia) fun h' hk=>⟨rfl,?_⟩
  exact I.moved (g':=s.gens) (d':=s.drawn) (t':=s.toks) (ch:=[e,it]) hf (fun b o hb q=>hk b o (fun z=>hb (by simp [z])) q) I.bare
 self:=fun _ _ _ _ _ st h=>let ⟨⟨_,he⟩,_⟩:=st;wpAny_pyIter_enum he h
section
variable {X:Cx}
def NZ (K:PySem.W.Frag) (ta:TA):TI:=fun σ H R=>ta σ H fun vs H1=>∃l,vs=[.ref l]/\(∃xs,bV K H1 l xs)/\R (PX K l) H1
theorem MV {a:Expr} {ta:TA} {p pos tpos:Pos} {elts:List Expr} {kk:Nat} (hg:Gl X "enumerate") (hm:X.mg "enumerate"=none) (ha:PA X [a] ta) (hs:starEach [a] X.env=[(false,eval a X.env)]:=by rfl) :
  PI X (.Tuple elts kk tpos) (.Call (.Name "enumerate" p) [a] [] pos) (NZ X.K ta):=by
 intro pins s σ H R I h;refine Call_ (lM I hg hm boot_enumerate (PyProof.Rows.callWith_type1 (gL (ha pos pins s σ H _ I h) fun us s1 ⟨vs,H1,I1,r1,q1⟩=>?_) (by rw[hs];rfl) rfl));obtain ⟨l,e,⟨xs,qx⟩,q⟩:=q1;subst e;obtain ⟨u,rfl,ru⟩:=vals1 r1;cases ru;obtain ⟨us,rx,px,_⟩:=I1.list qx;refine call_enumerate_list px.isList fun h' a1 a2 a3 hk=>wpAny_pyIter_enum a1 ?_
 have I2:Inv X pins σ H1 { s1 with heap:=h' }:=I1.kept (t':=s1.toks) hk;refine ⟨_,[s1.heap.objs.size+1,s1.heap.objs.size],_,_,H1,rfl,I2,Io (s1.heap.objs.size+1) s1.heap.objs.size l (Nat.succ_ne_self _),⟨⟨_,a1⟩,a2⟩,fun b hb=>?_,q⟩
 have hb':s1.heap.objs.size<=b:=by
  simp only[aG,ba,or_false] at hb;rcases hb with rfl | rfl <;> first | exact uE _ | exact ao _
 exact I1.fpOk hb' (I1.hok.fresh hb')
end
theorem Kz {K:PySem.W.Frag} {ta:TA} {R:It->Hp->Prop} {σ:St} {H:Hp} (h:ta σ H fun vs H1=>∃l,vs=[.ref l]/\(∃xs,bV K H1 l xs)/\R (PX K l) H1):NZ K ta σ H R:=h
theorem Lo {K:PySem.W.Frag} {l:Addr} {xs:List V} {g:TG} {tb:TS} {D:Ends} {σ:St} {H:Hp} (Pv:Nat->St->Hp->Prop) (h0:Pv 0 σ H) (hl:∀i σ H,i<=xs.length->Pv i σ H->bV K H l xs)
  (hs:∀i x σ H p,xs[i]?=some x->Pv i σ H->H p=none->g (.ref p) σ (upd H p (.tup [.int i,x])) fun σ2 H2=>tb { D with nx:=Pv (i+1),ct:=Pv (i+1),bk:=D.nx } σ2 H2) (hd:∀σ H,Pv xs.length σ H->D.nx σ H) :
  ∃W:Nat->Nat->St->Hp->Prop,(∃m,W 0 m σ H)/\∀i m σ H,W i m σ H →
   ((PX K l).stop i H/\D.nx σ H)\/((PX K l).go i H/\∃N:St->Hp->Prop,(∀σ' H',N σ' H'->∃m',m' < m/\W (i+1) m' σ' H')/\∀x H',(PX K l).yld i H x H'->g x σ H' fun σ2 H2=>tb { D with nx:=N,ct:=N,bk:=D.nx } σ2 H2):=by
 refine ⟨fun i m σ H=>m=xs.length - i/\i<=xs.length/\Pv i σ H,⟨xs.length,by simp,bD _,h0⟩,?_⟩;rintro i m σ H ⟨rfl,hi,p⟩;have q1:=hl i σ H hi p;by_cases hlt:i < xs.length
 ·refine .inr ⟨⟨xs,xs[i],q1,by simp [hlt]⟩,Pv (i+1),fun σ' H' p'=>⟨xs.length - (i+1),by lia,rfl,hlt,p'⟩,fun x H' y=>?_⟩;obtain ⟨r,x',rfl,hr,rfl,e1⟩:=y;exact hs i x' σ _ r (e1 xs q1) p hr
 ·have e:i=xs.length:=by lia
  subst e;exact .inl ⟨⟨xs,q1,ao _⟩,hd σ H p⟩
section
variable {X:Cx}
theorem GX (K:PySem.W.Frag) {e:Expr} {f:Str} {pos:Pos} {ta:TE} (he:PE X e ta) (hb:attributeBase e f X.env (eval e X.env)=eval e X.env) (hK:X.K=K:=by rfl):PE X (.Attribute e f pos) (Ol K ta f):=by subst hK;exact kx he hb
end
theorem OV {K:PySem.W.Frag} {ta:TE} {f:Str} {σ:St} {H:Hp} {Q:VK} (h:ta σ H fun x H1=>∃a C dx fs v,x=.ref a/\H1 a=some (.ins C dx fs)/\JK K C/\kO K C f/\fs.lookup f=some v/\Q v H1):Ol K ta f σ H Q:=h
theorem Mv {K:PySem.W.Frag} {ta tv:TE} {f:Str} {D:Ends} {σ:St} {H:Hp} (h:tv σ H fun y H1=>ta σ H1 fun x H2=>∃a C dx fs,x=.ref a/\H2 a=some (.ins C dx fs)/\JK K C/\kO K C f/\fs.length < 1000 /\
 D.nx σ (upd H2 a (.ins C dx (cy f y fs)))):Qs K ta tv f D σ H:=h
theorem Mz {C:Addr} {m:Str} {sp:Sp} {E:XK} {ta:TE} {t:TA} {σ:St} {H:Hp} {Q:VK} (h:ta σ H fun x H1=>∃a dx fs,x=.ref a/\H1 a=some (.ins C dx fs)/\fs.lookup m=none /\
 t σ H1 fun vs H2=>sp (x :: vs) H2 Q E):NH C m sp [] E ta t σ H Q:=by
 have e:(fun (x:V) H1=>∃a dx fs,x=.ref a/\H1 a=some (.ins C dx fs)/\fs.lookup m=none/\t σ H1 fun vs H2=>sp (x :: (vs++[])) H2 Q E)=fun x H1=>∃a dx fs,x=.ref a/\H1 a=some (.ins C dx fs)/\fs.lookup m=none/\t σ H1 fun vs H2=>sp (x :: vs) H2 Q E:=by
  funext x H1;simp only[oY]
 show ta σ H (fun (x:V) H1=>∃a dx fs,x=.ref a/\H1 a=some (.ins C dx fs)/\fs.lookup m=none/\t σ H1 fun vs H2=>sp (x :: (vs++[])) H2 Q E)
 rw[e];exact h
theorem MB {C:Addr} {sp:Sp} {E:XK} {t:TA} {σ:St} {H:Hp} {Q:VK} (h:t σ H fun vs H1=>∀x dx,H1 x=none->H1 dx=none->dx≠x →
 sp (.ref x :: vs) (upd (upd H1 dx (.own x)) x (.ins C dx [])) (fun v H2=>v=.non/\Q (.ref x) H2) E):NI C sp [] E t σ H Q:=by
 have e:(fun vs (H1:Hp)=>∀x dx,H1 x=none->H1 dx=none->dx≠x->sp (.ref x :: (vs++[])) (upd (upd H1 dx (.own x)) x (.ins C dx [])) (fun v H2=>v=.non/\Q (.ref x) H2) E)=fun vs H1=>∀x dx,H1 x=none->H1 dx=none->dx≠x->sp (.ref x :: vs) (upd (upd H1 dx (.own x)) x (.ins C dx [])) (fun v H2=>v=.non/\Q (.ref x) H2) E:=by
  funext vs H1;simp only[oY]
 show t σ H (fun vs (H1:Hp)=>∀x dx,H1 x=none->H1 dx=none->dx≠x->sp (.ref x :: (vs++[])) (upd (upd H1 dx (.own x)) x (.ins C dx [])) (fun v H2=>v=.non/\Q (.ref x) H2) E)
 rw[e];exact h
def D5 (x:Addr) (H H':Hp):Prop:=∀b o,H b=some o->b≠x->H' b=some o
theorem D5.upd {x:Addr} {H:Hp} {o:HO}:D5 x H (L2.upd H x o):=fun b u h n=>by rw[bI n];exact h
def xg (H:Hp) (x:Addr):Prop:=∃C dx fs,H x=some (.ins C dx fs)
section
variable {K:PySem.W.Frag} {H H' H0:Hp} {q:Rat} {v:V} {x p:Addr} {qs:List Rat} {rows:List (List Rat)}
theorem cC.exc (h:cC K H q v) (e:D5 x H H') (hx:xg H x):cC K H' q v:=by
 obtain ⟨C,dx,fs,hx⟩:=hx;obtain ⟨r,er,s⟩:=h;refine ⟨r,er,?_⟩;rcases s with (h | ⟨o,h⟩) | h
 ·exact .inl (.inl (e _ _ h fun z=>by rw[z,hx] at h;cases h))
 ·exact .inl (.inr ⟨o,e _ _ h fun z=>by rw[z,hx] at h;cases h⟩)
 ·exact .inr h
theorem cw.exc (h:cw K H p qs) (e:D5 x H H') (hx:xg H x):cw K H' p qs:=by
 obtain ⟨xs,g,r⟩:=h;have hx':=hx;obtain ⟨C,dx,fs,hx⟩:=hx;exact ⟨xs,e _ _ g (fun z=>by rw[z,hx] at g;cases g),Paired.imp' (fun _ _ z=>z.exc e hx') r⟩
theorem dB.exc (h:dB K H0 H qs v) (e:D5 x H H') (hx:xg H x):dB K H0 H' qs v:=by obtain ⟨q,a,b,c⟩:=h;exact ⟨q,a,b,c.exc e hx⟩
theorem bR.exc (h:bR K H0 H p rows) (e:D5 x H H') (hx:xg H x):bR K H0 H' p rows:=by
 obtain ⟨xs,g,r,n⟩:=h;have hx':=hx;obtain ⟨C,dx,fs,hx⟩:=hx;exact ⟨xs,e _ _ g (fun z=>by rw[z,hx] at g;cases g),Paired.imp' (fun _ _ z=>z.exc e hx') r,n⟩
end
def uv (a b c:Addr) (n i o:Nat):List (Str×V):=cy "outs" (.int o) (cy "look" (.ref c) (cy "ins" (.int i) (cy "put" (.ref b) (cy "states" (.int n) (cy "move" (.ref a) [])))))
section
variable {a b c:Addr} {n i o:Nat}
theorem GK:(uv a b c n i o).lookup ("ins":Str)=some (.int i):=by
 unfold uv;rw[bK,if_neg (by decide +kernel),bK,if_neg (by decide +kernel),bK,if_pos rfl]
theorem CW:(uv a b c n i o).lookup ("put":Str)=some (.ref b):=by
 unfold uv;rw[bK,if_neg (by decide +kernel),bK,if_neg (by decide +kernel),bK,if_neg (by decide +kernel),bK,if_pos rfl]
theorem xk:(uv a b c n i o).lookup ("states":Str)=some (.int n):=by
 unfold uv;rw[bK,if_neg (by decide +kernel),bK,if_neg (by decide +kernel),bK,if_neg (by decide +kernel),bK,if_neg (by decide +kernel),bK,if_pos rfl]
theorem Eh:(uv a b c n i o).lookup ("move":Str)=some (.ref a):=by
 unfold uv;rw[bK,if_neg (by decide +kernel),bK,if_neg (by decide +kernel),bK,if_neg (by decide +kernel),bK,if_neg (by decide +kernel),bK,if_neg (by decide +kernel),bK,if_pos rfl]
theorem Oo {m:Str} (h1:¬m="outs") (h2:¬m="look") (h3:¬m="ins") (h4:¬m="put") (h5:¬m="states") (h6:¬m="move"):(uv a b c n i o).lookup m=none:=by
 unfold uv;rw[bK,if_neg h1,bK,if_neg h2,bK,if_neg h3,bK,if_neg h4,bK,if_neg h5,bK,if_neg h6];rfl
theorem Iq:(uv a b c n i o).lookup ("moved":Str)=none:=Oo (by decide +kernel) (by decide +kernel) (by decide +kernel) (by decide +kernel) (by decide +kernel) (by decide +kernel)
end
theorem eH {k:Str} {v:V}:∀{l:List (Str×V)},(cy k v l).length<=l.length+1
 | []=>ao _
 | (x,y) :: r=>by
  unfold cy
  split
  ·simp
  ·have:=eH (k:=k) (v:=v) (l:=r);simp only[bP]
   lia
structure fz (mv pt lk:List (List Rat)):Prop where
 n8:mv.length<=8
 i4:pt.length<=4
 o4:lk.length<=4
 mw:∀xs∈mv,xs.length=mv.length
 pw:∀xs∈pt,xs.length=mv.length
 lw:∀xs∈lk,xs.length=mv.length
def By (mv pt lk:List (List Rat)):Prop:=∃M V:Nat,0 < M/\M<=2^800/\V<=2^400/\GF M V mv/\GF M V pt/\GF M V lk
def nW (K:PySem.W.Frag) (H0 H:Hp) (C p:Addr) (mv pt lk:List (List Rat)):Prop:=∃dx a b c,H p=some (.ins C dx (uv a b c mv.length pt.length lk.length))/\H0 a=none/\H0 b=none/\H0 c=none/\bR K H0 H a mv/\bR K H0 H b pt/\bR K H0 H c lk
section
variable {K:PySem.W.Frag} {H H' H0 H1:Hp} {C p b:Addr} {mv pt lk:List (List Rat)}
theorem nW.same (h:nW K H0 H C p mv pt lk) (e:aL H H'):nW K H0 H' C p mv pt lk:=by obtain ⟨dx,a,b,c,g,n1,n2,n3,g1,g2,g3⟩:=h;exact ⟨dx,a,b,c,e _ _ g,n1,n2,n3,g1.same e,g2.same e,g3.same e⟩
theorem nW.upto (h:nW K H0 H C p mv pt lk) (u:cT b H H') (B:ir H b) (nb:H0 b≠none):nW K H0 H' C p mv pt lk:=by
 obtain ⟨dx,a,b',c,g,n1,n2,n3,g1,g2,g3⟩:=h;refine ⟨dx,a,b',c,u.other (fun z=>by obtain ⟨_,_,_,_,_,e,_⟩:=B;rw[z,e] at g;cases g) g,n1,n2,n3,g1.upto u B (fun z=>nb (by rw[<- z];exact n1)) nb,g2.upto u B (fun z=>nb (by rw[<- z];exact n2)) nb,g3.upto u B (fun z=>nb (by rw[<- z];exact n3)) nb⟩
theorem nW.weak (h:nW K H0 H C p mv pt lk) (e:aL H1 H0):nW K H1 H C p mv pt lk:=by obtain ⟨dx,a,b,c,g,n1,n2,n3,g1,g2,g3⟩:=h;exact ⟨dx,a,b,c,g,e.none n1,e.none n2,e.none n3,g1.weak e,g2.weak e,g3.weak e⟩
theorem By.fits (h:By mv pt lk) {l:List Rat} (hl:∀x∈l,(∃xs∈mv,x∈xs)\/(∃xs∈pt,x∈xs)\/(∃xs∈lk,x∈xs)\/x=0):Fits l:=by
 obtain ⟨M,V,h0,h1,h2,h3,h4,h5⟩:=h;refine ⟨M,V,h0,aj h1 (au (by decide) (by decide)),aj h2 (au (by decide) (by decide)),fun x hx=>?_⟩;rcases hl x hx with ⟨xs,a,b⟩ | ⟨xs,a,b⟩ | ⟨xs,a,b⟩ | rfl
 ·exact h3 xs a x b
 ·exact h4 xs a x b
 ·exact h5 xs a x b
 ·exact Fr.zero
end
def Iu:Sp:=fun vs H Q _=>∃i:Int,vs=[.int i]/\Q (.bl true) H
def IG (K:PySem.W.Frag):Sp:=fun vs H Q _=>∃x n,vs=[x]/\E8 K H x n/\zL n/\∀H',aL H H'->Q (.bl true) H'
def L8:Sp:=fun vs H Q _=>∃(p:Addr) (xs:List V) (a m:Int),vs=[.ref p,.int a,.int m]/\H p=some (.lst xs)/\(xs.length:Int)<=m/\Q .non H
def Mg (K:PySem.W.Frag):Sp:=fun vs H Q _=>∃(p:Addr) (H0:Hp) (rows:List (List Rat)) (w:Nat),vs=[.ref p,.int w]/\bR K H0 H p rows/\rows.length<=1000/\w<=1000/\(∀xs∈rows,xs.length=w/\∀x∈xs,zL (nm x))/\∀r H',H r=none->aL H H'->bR K H H' r rows->Q (.ref r) H'
def PY (rows:List (List Rat)):Prop:=∀xs∈rows,∀x∈xs,zL (nm x)
def Md (K:PySem.W.Frag) (C:Addr):Sp:=fun vs H Q _=>∃(x dx p q r:Addr) (Hb H0 H1 H2:Hp) (mv pt lk:List (List Rat)),vs=[.ref x,.ref p,.ref q,.ref r]/\Hb x=none/\Hb dx=none/\dx≠x/\H=upd (upd Hb dx (.own x)) x (.ins C dx []) /\
 bR K H0 Hb p mv/\bR K H1 Hb q pt/\bR K H2 Hb r lk/\fz mv pt lk/\PY mv/\PY pt/\PY lk/\∀H',aL Hb H'->nW K Hb H' C x mv pt lk->Q .non H'
def fw (mv pt:List (List Rat)) (st pu:List Rat):List Rat:=List.zipWith (fun line col=>dh (line++col) (st++pu)) mv (cW pt mv.length)
theorem By.ok {mv pt lk:List (List Rat)} (h:By mv pt lk):PY mv/\PY pt/\PY lk :=
 ⟨fun xs hx x hx'=>(h.fits (l:=xs) fun y hy=>.inl ⟨xs,hx,hy⟩).ok hx',fun xs hx x hx'=>(h.fits (l:=xs) fun y hy=>.inr (.inl ⟨xs,hx,hy⟩)).ok hx',fun xs hx x hx'=>(h.fits (l:=xs) fun y hy=>.inr (.inr (.inl ⟨xs,hx,hy⟩))).ok hx'⟩
def fP (K:PySem.W.Frag) (A:Addr->Prop) (H:Hp) (n:Nat) (C:Rat->Prop) (x:V):Prop:=∃q qs,x=V.ref q/\A q/\cw K H q qs/\qs.length=n/\∀y∈qs,C y
section
variable {K:PySem.W.Frag} {A A':Addr->Prop} {H H' H0:Hp} {n:Nat} {C C':Rat->Prop} {x v:V} {q b l p:Addr} {xs zs:List V} {y:Rat} {o:HO}
theorem fP.same (h:fP K A H n C x) (e:aL H H'):fP K A H' n C x:=by obtain ⟨q,qs,a,c,r,z⟩:=h;exact ⟨q,qs,a,c,r.same e,z⟩
theorem fP.upto (h:fP K A H n C x) (u:cT b H H') (B:ir H b) (nb:¬A b):fP K A H' n C x:=by obtain ⟨q,qs,a,c,r,z⟩:=h;exact ⟨q,qs,a,c,r.upto u B (fun e=>nb (by rw[<- e];exact c)),z⟩
theorem fP.other (h:fP K A H n C x) (hl:H l=some (.lst zs)) (nl:¬A l):fP K A (upd H l o) n C x:=by obtain ⟨q,qs,a,c,r,z⟩:=h;exact ⟨q,qs,a,c,r.updL hl (fun e=>nl (by rw[<- e];exact c)),z⟩
theorem fP.weak (h:fP K A H n C x) (w:∀q,A q->A' q) (wc:∀y,C y->C' y):fP K A' H n C' x:=by obtain ⟨q,qs,a,c,r,l,z⟩:=h;exact ⟨q,qs,a,w q c,r,l,fun y hy=>wc y (z y hy)⟩
theorem xn {α β:Type} {F:α->β->Prop} {a:α} {b:β} (h:F a b):∀{l1:List α} {l2:List β} (j:Nat),Paired F l1 l2->Paired F (l1.set j a) (l2.set j b)
 | _,_,_,.nil=>.nil
 | _,_,0,.cons _ t=>.cons h t
 | _,_,j+1,.cons r t=>.cons r (xn h j t)
theorem fP.put (h:fP K A H n C x) (hq:H q=some (.lst zs)) (hv:cC K H y v) (hc:C y) (j:Nat):fP K A (upd H q (.lst (zs.set j v))) n C x:=by
 obtain ⟨q1,qs,rfl,a,⟨zs1,g1,pr⟩,l1,c1⟩:=h;by_cases e:q1=q
 ·subst e;rw[hq] at g1;cases g1;refine ⟨q1,qs.set j y,rfl,a,⟨_,aM,xn (hv.updL hq) j (Paired.imp' (fun _ _ z=>z.updL hq) pr)⟩,by rw[dP];exact l1,fun z hz=>?_⟩;rcases cv hz with hz | rfl
  ·exact c1 z hz
  ·exact hc
 ·exact ⟨q1,qs,rfl,a,⟨zs1,by rw[bI e];exact g1,Paired.imp' (fun _ _ z=>z.updL hq) pr⟩,l1,c1⟩
theorem fP.at (h:fP K A H n C x):∃q zs qs,x=V.ref q/\A q/\H q=some (.lst zs)/\zs.length=n/\Paired (cC K H) qs zs/\qs.length=n/\∀y∈qs,C y:=by obtain ⟨q,qs,a,c,⟨zs,g,pr⟩,l,z⟩:=h;exact ⟨q,zs,qs,a,c,g,by rw[<- pr.length];exact l,pr,l,z⟩
end
theorem vm {W:Nat} {i:Int} (h:i.natAbs<=W) (hW:1<=W):Dr W (i:Rat):=⟨h,hW⟩
def Ig (K:PySem.W.Frag) (A:Addr->Prop) (H:Hp) (n:Nat) (C:Rat->Prop) (p:Addr) (m:Nat):Prop:=∃us,H p=some (.lst us)/\us.length=m/\¬A p/\∀x∈us,fP K A H n C x
structure Mix (K:PySem.W.Frag) (A:Addr->Prop) (H:Hp) (n:Nat) (C:Rat->Prop) (m p l b q0:Addr) (i o:Nat):Prop where
 bag:ir H b
 inn:Inner H b q0
 gm:Ig K A H n C m n
 gp:Ig K A H n C p i
 gl:Ig K A H n C l o
structure E9 (A:Addr->Prop) (m p l b q0:Addr):Prop where
 am:¬A m
 ap:¬A p
 al:¬A l
 ab:¬A b
 aq:¬A q0
 mb:m≠b
 pb:p≠b
 lb:l≠b
 mp:m≠p
 ml:m≠l
 mq:m≠q0
theorem HI {M:Nat} {z:Int} (h:z.natAbs<=2):Fr 1 2 (z:Rat):=Fr.int h
theorem DB {M W:Nat} {a c:Rat} {z:Int} (hz:z.natAbs<=2) (ha:Fr M W a) (hc:Fr M W c):Fr M (3*W) (a+(z:Rat)*c):=by
 have h:=(HI (M:=M) hz).mul hc;rw[uD] at h;exact (ha.add h).mono (by lia)
theorem CV {z:Int} (h:z.natAbs<=1000):rW (z:Rat):=Gg (M:=1) (V:=1000) (by decide) (jE) (aj (show 1000<=2^10 by decide) (au (by decide) (by decide))) (Fr.int h)
theorem Ax {M W:Nat} {c:Rat} {z:Int} (hz:z.natAbs<=2) (hc:Fr M W c) (h0:0 < M) (h1:M<=2^800) (hW:W<=2^140):rW ((z:Rat)*c):=by
 have h:=(HI (M:=M) hz).mul hc;rw[uD] at h;refine Gg h0 (aj h1 (au (by decide) (by decide))) (aj (aN 2 hW) ?_) h;rw[show 2*2^140=2^141 by rw[dO,b7]];exact au (by decide) (by decide)
def iG (A:Addr->Prop) (b m:Addr) (H H':Hp):Prop:=∀c u,H c=some u->c≠b->¬A c->c≠m->H' c=some u
theorem iG.same {A:Addr->Prop} {b m:Addr} {H H1 H2:Hp} (h:iG A b m H H1) (s:aL H1 H2):iG A b m H H2:=fun c u e n1 n2 n3=>s _ _ (h c u e n1 n2 n3)
theorem iG.upto {A:Addr->Prop} {b m:Addr} {H H1 H2:Hp} (h:iG A b m H H1) (s:cT b H1 H2):iG A b m H H2:=fun c u e n1 n2 n3=>s.1 _ _ (h c u e n1 n2 n3) n1
theorem iG.upd {A:Addr->Prop} {b m q:Addr} {H H1:Hp} {o:HO} (h:iG A b m H H1) (hq:A q\/q=m):iG A b m H (L2.upd H1 q o):=fun c u e n1 n2 n3=>by
 rw[bI]
 ·exact h c u e n1 n2 n3
 ·rintro rfl;rcases hq with hq | hq
  ·exact n2 hq
  ·exact n3 hq
theorem iG.new {A:Addr->Prop} {b m r:Addr} {H H1:Hp} (h:iG A b m H H1) (hA:∀q,H q=none->A q) (B:ir H1 b) (hm:H1 m≠none) (hr:H1 r=none):A r:=by
 by_cases z:A r
 ·exact z
 ·cases e:H r with
  | none=>exact hA r e
  | some u =>
   have:=h r u e (fun y=>B.at (by rw[<- y];exact hr)) z (fun y=>hm (by rw[<- y];exact hr));rw[hr] at this;cases this
structure Ie (K:PySem.W.Frag) (A:Addr->Prop) (n:Nat) (C:Rat->Prop) (r p b q0:Addr) (us:List V) (H0 H:Hp):Prop where
 gr:H r=some (.lst us)
 ru:∀x∈us,fP K A H n C x
 rp:fP K A H n C (.ref p)
 bag:ir H b
 inn:Inner H b q0
 up:cT b H0 H
section
variable {K:PySem.W.Frag} {A:Addr->Prop} {n:Nat} {C:Rat->Prop} {r p b q0:Addr} {us:List V} {H0 H H':Hp} {y:Rat} {v:V}
theorem Ie.same (h:Ie K A n C r p b q0 us H0 H) (e:aL H H'):Ie K A n C r p b q0 us H0 H':=⟨e _ _ h.gr,fun x hx=>(h.ru x hx).same e,h.rp.same e,h.bag.same e,(e.upto (p:=b)).2 _ h.inn,h.up.same e⟩
theorem Ie.upto (h:Ie K A n C r p b q0 us H0 H) (u:cT b H H') (B:ir H' b) (nb:¬A b) (rb:r≠b):Ie K A n C r p b q0 us H0 H':=⟨u.other rb h.gr,fun x hx=>(h.ru x hx).upto u h.bag nb,h.rp.upto u h.bag nb,B,u.2 _ h.inn,h.up.trans u⟩
theorem Ie.put (h:Ie K A n C r p b q0 us H0 H) (ap:A p) (nr:¬A r) (nb:¬A b) (nq:¬A q0) (hp:H0 p=none) (hv:cC K H y v) (hc:C y) (j:Nat):∃zs,H p=some (.lst zs)/\zs.length=n/\Ie K A n C r p b q0 us H0 (upd H p (.lst (zs.set j v))):=by
 obtain ⟨q,zs,qs,e,a,g,l,_⟩:=h.rp.at;cases e;have ne:∀{z},¬A z->z≠p:=fun h e=>h (by rw[e];exact ap)
 exact ⟨zs,g,l,by rw[bI (ne nr)];exact h.gr,fun x hx=>(h.ru x hx).put g hv hc j,h.rp.put g hv hc j,h.bag.upd h.inn (ne nb).symm (ne nq).symm,h.inn.upd (ne nb).symm,h.up.after hp⟩
end
theorem AH {K:PySem.W.Frag} {A:Addr->Prop} {H:Hp} {n:Nat} {C:Rat->Prop} {us:List V} (h:∀x∈us,fP K A H n C x):∃rows:List (List Rat),Paired (fun qs x=>∃q,x=V.ref q/\A q/\cw K H q qs) rows us/\rows.length=us.length/\∀qs∈rows,qs.length=n/\∀y∈qs,C y:=by
 induction us with
 | nil=>exact ⟨[],.nil,rfl,fun _ z=>nomatch z⟩
 | cons u us ih =>
  obtain ⟨rows,pr,l,hr⟩:=ih fun x hx=>h x (.tail _ hx)
  obtain ⟨q,qs,e,a,r,l1,c⟩:=h u (.head _);refine ⟨qs :: rows,.cons ⟨q,e,a,r⟩ pr,by simp [l],fun zs hz=>?_⟩;rcases aG.mp hz with rfl | hz
  ·exact ⟨l1,c⟩
  ·exact hr zs hz
theorem FD {K:PySem.W.Frag} {A:Addr->Prop} {H:Hp} {n:Nat} {C:Rat->Prop} {us:List V} {rows:List (List Rat)} (pr:Paired (fun qs x=>∃q,x=V.ref q/\A q/\cw K H q qs) rows us) (h:∀qs∈rows,qs.length=n/\∀y∈qs,C y):∀x∈us,fP K A H n C x:=fun x hx=>by
 obtain ⟨qs,hq,q,e,a,r⟩:=dd pr hx;exact ⟨q,qs,e,a,r,(h qs hq).1,(h qs hq).2⟩
theorem sG {n:Nat}:∀{rows:List (List Rat)},(∀xs∈rows,xs.length=n)->rows.flatten.length=rows.length*n
 | [],_=>by simp
 | xs :: rows,h=>by
  rw[ik,av,h xs (.head _),sG fun ys hy=>h ys (.tail _ hy),bP,dA,As]
theorem Mr {c n:Nat} {rows:List (List Rat)} (h:∀qs∈rows,qs.length=n/\∀y∈qs,Dr (2^c) y):∃M:Nat,0 < M/\M<=2^(c*(rows.length*n))/\∀qs∈rows,∀y∈qs,Fr M (2^c) y:=by
 have fl:rows.flatten.length=rows.length*n:=sG fun ys hy=>(h ys hy).1
 have hm:∀a∈rows.flatten.map (·.den),0 < a/\a<=2^c:=fun a ha=>by
  obtain ⟨y,hy,rfl⟩:=aD.mp ha;obtain ⟨qs,hq,hy⟩:=eX.mp hy;exact ⟨y.den_pos,((h qs hq).2 y hy).2⟩
 refine ⟨xK (rows.flatten.map (·.den)),yO fun a ha=>(hm a ha).1,?_,fun qs hq y hy=>?_⟩
 ·have:=AK (k:=c) (l:=rows.flatten.map (·.den)) fun a ha=>(hm a ha).2
  rwa [ar,fl] at this
 ·exact (Fr.own y ((h qs hq).2 y hy).1).dvd (yP (aD.mpr ⟨y,eX.mpr ⟨qs,hq,hy⟩,rfl⟩))
theorem lN {K:PySem.W.Frag} {A:Addr->Prop} {H H0:Hp} {n m:Nat} {C:Rat->Prop} {p:Addr} (h:Ig K A H n C p m) (w:∀q,A q->H0 q=none):∃rows,bR K H0 H p rows/\rows.length=m/\∀qs∈rows,qs.length=n/\∀y∈qs,C y:=by
 obtain ⟨us,g,l,a,r⟩:=h;obtain ⟨rows,pr,lr,hr⟩:=AH r;refine ⟨rows,⟨us,g,Paired.imp' (fun _ _ ⟨q,e,aq,rq⟩=>⟨q,e,w q aq,rq⟩) pr,fun hm=>?_⟩,by rw[lr,l],hr⟩;obtain ⟨q,_,e,aq,_⟩:=r _ hm;cases e;exact a aq
theorem iG.trans {A:Addr->Prop} {b m:Addr} {H H1 H2:Hp} (h:iG A b m H H1) (h':iG A b m H1 H2):iG A b m H H2:=fun c u e n1 n2 n3=>h' c u (h c u e n1 n2 n3) n1 n2 n3
structure PtI (K:PySem.W.Frag) (A:Addr->Prop) (n:Nat) (C:Rat->Prop) (m p l b q0:Addr) (i o:Nat) (ws vs:List V) (H0 H:Hp):Prop where
 mix:Mix K A H n C m p l b q0 i o
 gp:H p=some (.lst ws)
 gl:H l=some (.lst vs)
 kp:iG A b m H0 H
theorem Ks {K:PySem.W.Frag} {A:Addr->Prop} {H0 H:Hp} {n:Nat} {C:Rat->Prop} {us:List V} {rows:List (List Rat)} (pr:Paired (dB K H0 H) rows us) (h:∀qs∈rows,qs.length=n/\∀y∈qs,C y) (w:∀q,V.ref q∈us->H0 q=none->H q≠none->A q):∀x∈us,fP K A H n C x:=fun x hx=>by
 obtain ⟨qs,hq,q,e,a,r⟩:=dd pr hx;subst e;exact ⟨q,qs,rfl,w q hx a (by obtain ⟨_,g,_⟩:=r;rw[g];simp),r,(h qs hq).1,(h qs hq).2⟩
def Iz:Sp:=fun vs H Q _=>∃b,vs=[.ref b]/\ir H b/\∀r (n i o w:Nat) H',H' r=some (.tup [.int n,.int i,.int o,.int w])->n<=5->i<=4->o<=4->(w=4\/w=9\/(w=1000000/\n<=2))->(n=5->i<=2/\o<=2)->ir H' b->cT b H H'->Q (.ref r) H'
def ee (K:PySem.W.Frag) (H0 H:Hp) (r:Addr) (mv pt lk:List (List Rat)):Prop:=∃m p l,H r=some (.tup [.ref m,.ref p,.ref l])/\H0 m=none/\H0 p=none/\H0 l=none/\bR K H0 H m mv/\bR K H0 H p pt/\bR K H0 H l lk
section
variable {K:PySem.W.Frag} {H H' H0 H1:Hp} {r b:Addr} {mv pt lk:List (List Rat)}
theorem ee.same (h:ee K H0 H r mv pt lk) (e:aL H H'):ee K H0 H' r mv pt lk:=by obtain ⟨m,p,l,g,n1,n2,n3,g1,g2,g3⟩:=h;exact ⟨m,p,l,e _ _ g,n1,n2,n3,g1.same e,g2.same e,g3.same e⟩
theorem ee.upto (h:ee K H0 H r mv pt lk) (u:cT b H H') (B:ir H b) (nb:H0 b≠none):ee K H0 H' r mv pt lk:=by
 obtain ⟨m,p,l,g,n1,n2,n3,g1,g2,g3⟩:=h;exact ⟨m,p,l,u.tup B g,n1,n2,n3,g1.upto u B (fun z=>nb (by rw[<- z];exact n1)) nb,g2.upto u B (fun z=>nb (by rw[<- z];exact n2)) nb,g3.upto u B (fun z=>nb (by rw[<- z];exact n3)) nb⟩
theorem ee.weak (h:ee K H0 H r mv pt lk) (e:∀q,H0 q=none->H1 q=none):ee K H1 H r mv pt lk:=by
 obtain ⟨m,p,l,g,n1,n2,n3,⟨x1,y1,z1,w1⟩,⟨x2,y2,z2,w2⟩,⟨x3,y3,z3,w3⟩⟩:=h;exact ⟨m,p,l,g,e _ n1,e _ n2,e _ n3,⟨x1,y1,Paired.imp' (fun _ _ ⟨q,a,b,c⟩=>⟨q,a,e _ b,c⟩) z1,w1⟩,⟨x2,y2,Paired.imp' (fun _ _ ⟨q,a,b,c⟩=>⟨q,a,e _ b,c⟩) z2,w2⟩,⟨x3,y3,Paired.imp' (fun _ _ ⟨q,a,b,c⟩=>⟨q,a,e _ b,c⟩) z3,w3⟩⟩
end
def Fn (K:PySem.W.Frag) (C:Addr):Sp:=fun vs H Q _=>∃(r:Addr) (H0:Hp) (mv pt lk:List (List Rat)),vs=[.ref r]/\ee K H0 H r mv pt lk/\fz mv pt lk/\By mv pt lk/\∀x H',H x=none->aL H H'->nW K H H' C x mv pt lk->Q (.ref x) H'
def nextK (mv pt:List (List Rat)) (st pu:List Rat) (k:Nat):List Rat:=List.zipWith (fun line col=>dh (line++col.take k) (st++pu.take k)) mv (cW pt mv.length)
theorem j8 {mv pt:List (List Rat)} {st pu:List Rat} {k:Nat}:(nextK mv pt st pu k).length=mv.length:=by unfold nextK;rw[b9,dj];lia
theorem vR {mv pt:List (List Rat)} {st pu:List Rat} {k:Nat} (h1:pt.length<=k) (h2:pu.length<=k):nextK mv pt st pu k=fw mv pt st pu:=by
 unfold nextK fw;apply il;intro i;rw[bY,bY];cases e1:mv[i]? with
 | none=>rfl
 | some line =>
  cases e2:(cW pt mv.length)[i]? with
  | none=>rfl
  | some col =>
   have:=kY col (ay e2);show some _=some _
   rw[aH (by lia),aH h2]
theorem GH {rows:List (List Rat)} {w i:Nat} (h:i < w):(cW rows w)[i]?=some (rows.map fun xs=>xs.getD i 0):=by
 unfold cW;rw[aK,dC h];rfl
theorem FQ {mv pt:List (List Rat)} {st pu:List Rat}:nextK mv pt st pu 0=mv.map fun xs=>dh xs st:=by
 unfold nextK;apply il;intro i;rw[bY,aK];by_cases hi:i < mv.length
 ·rw[GH hi,ag hi];simp
 ·rw[aR (by lia)];rfl
theorem A3 {mv pt:List (List Rat)} {st pu:List Rat} {k i:Nat} (hi:i < mv.length):(nextK mv pt st pu k).getD i 0=dh (mv[i]++(pt.map fun xs=>xs.getD i 0).take k) (st++pu.take k):=by
 rw[ae];unfold nextK;rw[bY,ag hi,GH hi];rfl
theorem vn {as bs xs ys:List Rat} (h:as.length=xs.length):dh (as++bs) (xs++ys)=dh as xs+dh bs ys:=by
 unfold dh;rw[D7 h,List.sum_append]
theorem FR {mv pt:List (List Rat)} {st pu:List Rat} {k:Nat} (hm:∀xs∈mv,xs.length=st.length) (h1:k < pt.length) (h2:k < pu.length) (hw:(pt[k]).length=mv.length) :
  List.zipWith (fun x y=>x+y) (nextK mv pt st pu k) ((pt[k]).map fun y=>pu[k]*y)=nextK mv pt st pu (k+1):=by
 have l1:((pt[k]).map fun y=>pu[k]*y).length=mv.length:=by rw[ar,hw]
 rw[BZ (by rw[l1,j8])];apply il;intro i;rw[aK,j8];by_cases hi:i < mv.length
 ·have e0:(nextK mv pt st pu (k+1))[i]?=some ((nextK mv pt st pu (k+1)).getD i 0):=by
   rw[ae,ag (by rw[j8];exact hi)];rfl
  rw[dC hi,e0,A3 hi];have ll:=hm mv[i] (aJ hi);have ec:(pt.map fun xs=>xs.getD i 0)[k]?=some ((pt[k]).getD i 0):=by rw[aK,ag h1];rfl
  have ep:pu[k]?=some pu[k]:=ag h2
  have e3:((pt[k]).map fun y=>pu[k]*y).getD i 0=pu[k]*(pt[k]).getD i 0:=by
   rw[getD_map (by rw[hw];exact hi),ae,ag (by rw[hw];exact hi)];rfl
  show some ((nextK mv pt st pu k).getD i 0+((pt[k]).map fun y=>pu[k]*y).getD i 0)=some _
  rw[A3 hi,e3,take_snoc ec,take_snoc ep,vn ll,vn ll,vn (by rw[cO,cO,ar];lia)];have:dh [(pt[k]).getD i 0] [pu[k]]=(pt[k]).getD i 0*pu[k]:=by simp [dh,nh]
  rw[this];congr 1;grind
 ·rw[aR (by simpa using hi),aR (by rw[j8];lia)];rfl
theorem nW.weakN {K:PySem.W.Frag} {H H0 H1:Hp} {C p:Addr} {mv pt lk:List (List Rat)} (h:nW K H0 H C p mv pt lk) (e:∀q,H0 q=none->H1 q=none):nW K H1 H C p mv pt lk:=by
 obtain ⟨dx,a,b,c,g,n1,n2,n3,⟨x1,y1,z1,w1⟩,⟨x2,y2,z2,w2⟩,⟨x3,y3,z3,w3⟩⟩:=h;exact ⟨dx,a,b,c,g,e _ n1,e _ n2,e _ n3,⟨x1,y1,Paired.imp' (fun _ _ ⟨q,a,b,c⟩=>⟨q,a,e _ b,c⟩) z1,w1⟩,⟨x2,y2,Paired.imp' (fun _ _ ⟨q,a,b,c⟩=>⟨q,a,e _ b,c⟩) z2,w2⟩,⟨x3,y3,Paired.imp' (fun _ _ ⟨q,a,b,c⟩=>⟨q,a,e _ b,c⟩) z3,w3⟩⟩
theorem Jl {mv pt:List (List Rat)} {st pu:List Rat}:(fw mv pt st pu).length=mv.length:=by unfold fw;rw[b9,dj];lia
structure Both (K:PySem.W.Frag) (C:Addr) (H0 H:Hp) (x r:Addr) (mv pt lk:List (List Rat)):Prop where
 sys:nW K H0 H C x mv pt lk
 par:ee K H0 H r mv pt lk
 dim:fz mv pt lk
 fit:By mv pt lk
def sL (k j:Nat) (l:List Rat):Prop:=∃M V:Nat,0 < M/\M<=2^k/\V<=2^j/\∀x∈l,Fr M V x
theorem Nd {M V:Nat} {x:Rat} (h0:0 < M) (h1:M<=2^2000) (h2:V<=2^1950) (h:Fr M V x):rW x:=by
 obtain ⟨a,b⟩:=h.sz h0 h1 h2;exact ⟨a.mono (by decide),b.mono (by decide)⟩
section
variable {k j k' j':Nat} {l xs ys:List Rat} {x y:Rat}
theorem sL.szn (h:sL k j l) (hx:x∈l) (hk:k+j<=3950:=by decide):rW x:=by
 obtain ⟨M,V,h0,h1,h2,h3⟩:=h;obtain ⟨a,b⟩:=(h3 x hx).sz h0 h1 h2;exact ⟨a.mono (by lia),b.mono (by lia)⟩
theorem sL.rowM (h:sL k j l) (hk:k+j<=4200:=by decide):∃M,Gv M (l.map nm):=by
 obtain ⟨M,V,h0,h1,h2,h3⟩:=h;refine ⟨M,by lia,?_,fun n hn=>?_⟩
 ·show ((M:Nat):Int).natAbs < 2^4400
  rw[ck];exact bG h1 (dX (by decide) (by lia))
 ·obtain ⟨x,hx,rfl⟩:=aD.mp hn;obtain ⟨a,_⟩:=(h3 x hx).sz h0 h1 h2;exact ⟨kB x,(h3 x hx).den,a.mono (by lia)⟩
theorem sL.one (h:sL k j l) (hx:x∈l):sL k j [x]:=by
 obtain ⟨M,V,h0,h1,h2,h3⟩:=h;exact ⟨M,V,h0,h1,h2,fun y hy=>by rw[bT.mp hy];exact h3 x hx⟩
theorem Ly (h:sL k j xs) (h':sL k' j' ys) (hl:xs.length<=1000) (i:Nat) (hk:(k+k')+(j+j')<=3930:=by decide):rW (dh (xs.take i) (ys.take i)):=by
 obtain ⟨M,V,h0,h1,h2,h3⟩:=h;obtain ⟨N,W,k0,k1,k2,k3⟩:=h'
 have e:1000*(V*W)<=2^(10+(j+j')):=by
  rw[bf 2 10];exact aF (by decide) (aj (aF h2 k2) (by rw[<- bf];exact ao _))
 obtain ⟨a,b⟩:=((Fr.dot (fun x hx=>h3 x (cz hx)) (fun y hy=>k3 y (cz hy))).mono (aA _ (show (xs.take i).length<=1000 by rw[cO];lia))).sz (bW h0 k0) (aj (aF h1 k1) (by rw[<- bf];exact ao _)) e;exact ⟨a.mono (by lia),b.mono (by lia)⟩
theorem KU (hx:sL k j [x]) (hy:sL k' j' [y]) (hk:(k+k')+(j+j')<=3930:=by decide):rW (x*y):=by
 obtain ⟨M,V,h0,h1,h2,h3⟩:=hx;obtain ⟨N,W,k0,k1,k2,k3⟩:=hy;obtain ⟨a,b⟩:=((h3 x (.head _)).mul (k3 y (.head _))).sz (bW h0 k0) (aj (aF h1 k1) (by rw[<- bf];exact ao _)) (aj (aF h2 k2) (by rw[<- bf];exact ao _));exact ⟨a.mono (by lia),b.mono (by lia)⟩
def yx (xs ys:List Rat):Prop:=∃k j k' j':Nat,sL k j xs/\sL k' j' ys/\(k+k')+(j+j')<=3930
theorem yx.sys (h:sL 400 120 xs) (h':sL 1500 1800 ys):yx xs ys:=⟨_,_,_,_,h,h',by decide⟩
end
def JH (mv pt lk:List (List Rat)):Prop:=∃M V:Nat,0 < M/\M<=2^400/\V<=2^120/\GF M V mv/\GF M V pt/\GF M V lk
section
variable {mv pt lk:List (List Rat)}
theorem JH.fits (h:JH mv pt lk) {l:List Rat} (hl:∀x∈l,(∃xs∈mv,x∈xs)\/(∃xs∈pt,x∈xs)\/(∃xs∈lk,x∈xs)\/x=0):sL 400 120 l:=by
 obtain ⟨M,V,h0,h1,h2,g1,g2,g3⟩:=h;refine ⟨M,V,h0,h1,h2,fun x hx=>?_⟩;rcases hl x hx with ⟨xs,a,b⟩ | ⟨xs,a,b⟩ | ⟨xs,a,b⟩ | rfl
 ·exact g1 xs a x b
 ·exact g2 xs a x b
 ·exact g3 xs a x b
 ·exact Fr.zero
theorem JH.sf (h:JH mv pt lk):By mv pt lk:=by obtain ⟨M,V,a,b,c,d⟩:=h;exact ⟨M,V,a,aj b (au (by decide) (by decide)),aj c (au (by decide) (by decide)),d⟩
end
def GQ (K:PySem.W.Frag):Sp:=fun vs H Q _=>∃(p q:Addr) (xs ys:List Rat),vs=[.ref p,.ref q]/\cw K H p xs/\cw K H q ys/\ys.length=xs.length/\xs.length<=1000/\yx xs ys /\
 ∀r H',aL H H'->cC K H' (dh xs ys) (.ref r)->Q (.ref r) H'
def GO (K:PySem.W.Frag):Sp:=fun vs H Q _=>∃(p q:Addr) (H0:Hp) (rows:List (List Rat)) (ys:List Rat),vs=[.ref p,.ref q]/\bR K H0 H p rows/\cw K H q ys/\rows.length<=1000/\ys.length<=1000/\(∀xs∈rows,xs.length=ys.length/\yx xs ys) /\
 ∀r H',H r=none->aL H H'->cw K H' r (rows.map fun xs=>dh xs ys)->Q (.ref r) H'
def IC (K:PySem.W.Frag) (C:Addr):Sp:=fun vs H Q _=>∃(x p q:Addr) (H0:Hp) (mv pt lk:List (List Rat)) (st pu:List Rat),vs=[.ref x,.ref p,.ref q]/\nW K H0 H C x mv pt lk/\fz mv pt lk/\JH mv pt lk/\cw K H p st/\cw K H q pu/\st.length=mv.length/\pu.length=pt.length/\sL 1500 1800 (st++pu) /\
 ∀r H',H r=none->aL H H'->cw K H' r (fw mv pt st pu)->Q (.ref r) H'
def kX (mv pt:List (List Rat)) (st:List Rat) (pus:List (List Rat)) (k:Nat):List Rat:=(pus.take k).foldl (fw mv pt) st
def qL (mv pt:List (List Rat)) (st:List Rat) (pus:List (List Rat)):List (List Rat):=(List.range (pus.length+1)).map (kX mv pt st pus)
section
variable {mv pt lk pus:List (List Rat)} {st:List Rat} {k:Nat}
theorem nC {pu:List Rat} (h:pus[k]?=some pu):kX mv pt st pus (k+1)=fw mv pt (kX mv pt st pus k) pu:=by
 unfold kX;rw[take_snoc h,List.foldl_append];rfl
theorem jz (h:st.length=mv.length):∀{k:Nat},k<=pus.length->(kX mv pt st pus k).length=mv.length
 | 0,_=>h
 | k+1,hk=>by rw[nC (ag (show k < pus.length by lia)),Jl]
theorem xy:(qL mv pt st pus).length=pus.length+1:=by unfold qL;rw[ar,cK]
theorem vZ (h:k<=pus.length):(qL mv pt st pus)[k]?=some (kX mv pt st pus k):=by
 unfold qL;rw[aK,dC (by lia)];rfl
def Fc (mv pt:List (List Rat)) (st:List Rat) (pus:List (List Rat)):Prop:=∀k,k<=pus.length->∃N W:Nat,0 < N/\N<=2^1500/\W<=2^1800/\(∀x∈kX mv pt st pus k,Fr N W x)/\∀xs∈pus,∀x∈xs,Fr N W x
theorem Fc.both (h:Fc mv pt st pus) (hk:k<=pus.length) {pu:List Rat} (hp:pu∈pus):sL 1500 1800 (kX mv pt st pus k++pu):=by
 obtain ⟨N,W,a,b,c,d,e⟩:=h k hk;exact ⟨N,W,a,b,c,fun x hx=>(az.mp hx).elim (d x) (e pu hp x)⟩
theorem Fc.state (h:Fc mv pt st pus) (hk:k<=pus.length):sL 1500 1800 (kX mv pt st pus k):=by
 obtain ⟨N,W,a,b,c,d,e⟩:=h k hk;exact ⟨N,W,a,b,c,d⟩
end
def za (K:PySem.W.Frag) (H:Hp) (l:Addr) (H':Hp) (xs:List Rat) (x:V):Prop:=∃q,x=.ref q/\H q=none/\q≠l/\cw K H' q xs
section
variable {K:PySem.W.Frag} {H H' H2:Hp} {l:Addr} {xs:List Rat} {x:V}
theorem za.same (h:za K H l H' xs x) (e:aL H' H2):za K H l H2 xs x:=by obtain ⟨q,a,b,c,d⟩:=h;exact ⟨q,a,b,c,d.same e⟩
theorem za.upd {ys:List V} {o:HO} (h:za K H l H' xs x) (hl:H' l=some (.lst ys)):za K H l (upd H' l o) xs x:=by obtain ⟨q,a,b,c,d⟩:=h;exact ⟨q,a,b,c,d.updL hl c⟩
theorem za.rowF (h:za K H l H' xs x):dB K H H' xs x:=by obtain ⟨q,a,b,_,d⟩:=h;exact ⟨q,a,b,d⟩
theorem IS {o:HO} (e:aL H H') (n:H l=none):aL H (upd H' l o):=fun b u h=>by
 rw[bI (fun z=>by rw[z,n] at h;cases h)];exact e b u h
theorem AI:∀{rows:List (List Rat)} {ys:List V},Paired (za K H l H') rows ys->V.ref l∉ys
 | _,_,.nil=>by simp
 | _,_,.cons ⟨q,a,_,c,_⟩ r=>by
  intro hm;rcases aG.mp hm with e | hm
  ·rw[a] at e;cases e;exact c rfl
  ·exact AI r hm
end
def Fu (K:PySem.W.Frag) (C:Addr):Sp:=fun vs H Q _=>∃(x s p:Addr) (H0 H1:Hp) (mv pt lk pus:List (List Rat)) (st:List Rat),vs=[.ref x,.ref s,.ref p]/\nW K H0 H C x mv pt lk/\fz mv pt lk/\JH mv pt lk/\cw K H s st/\st.length=mv.length/\bR K H1 H p pus/\pus.length<=100/\(∀xs∈pus,xs.length=pt.length)/\Fc mv pt st pus /\
 ∀r H',H r=none->aL H H'->bR K H H' r (qL mv pt st pus)->Q (.ref r) H'
theorem Jx {c:Nat} {l:List Rat} (h:∀x∈l,Dr (2^c) x) (hc:c<=20):∃B:Nat,0 < B/\B<=2^(c*l.length+2)/\∀x∈l,Fr B (2^22) x:=by
 obtain ⟨M,h0,h1,h2⟩:=Nc (c:=c) (n:=l.length) (i:=0) (rows:=[]) Pk rfl h hc;refine ⟨M,h0,?_,h2 l (by simp)⟩;rw[Nat.zero_add,uD] at h1;exact h1
theorem EO {i:Nat}:∀{pus:List (List Rat)},(∀xs∈pus,xs.length=i)->pus.flatten.length=pus.length*i
 | [],_=>by simp
 | x :: r,h=>by
  rw[ik,av,h x (.head _),EO (fun xs hx=>h xs (.tail _ hx)),bP,dA]
  lia
theorem Qq {i:Int} (h:i=0\/i=1):Fr 1 1 (i:Rat):=Fr.int (by rcases h with rfl | rfl <;> decide)
theorem wJ {α β:Type} {F:α->β->Prop}:∀{l1:List α} {l2:List β} (_:Paired F l1 l2) (k:Nat),Paired F (l1.drop k) (l2.drop k)
 | _,_,h,0=>h
 | _,_,.nil,_+1=>.nil
 | _,_,.cons _ r,k+1=>wJ r k
theorem Nq {xs:List V} {t n:Nat} (h:t+n<=xs.length):wF xs (some (t:Int)) (some ((t:Int)+(n:Int)))=(xs.drop t).take n:=by
 unfold wF;rw[show ((t:Int)+(n:Int))=((t+n:Nat):Int) by lia,HT.z8,HT.z8,uH (show t<=xs.length by lia),uH h,Q7]
end L2
namespace L2
abbrev iJ:=Nat->Rat
def BH (F:List iJ->Rat) (r:Nat):List iJ->List iJ->Rat->Rat
 | _,[],_=>0
 | pre,v :: post,s=>s*v r*F (pre++post)+BH F r (pre++[v]) post (-s)
def jJ:List Nat->List iJ->Rat
 | [],[]=>1
 | [],_ :: _=>0
 | r :: rs,vs=>BH (fun ws=>jJ rs ws) r [] vs 1
theorem DF {a b:List iJ} {x:iJ}:jJ [] (a++x :: b)=0:=by
 cases a <;> rfl
theorem Dw {F:List iJ->Rat} {r:Nat} {f g h:iJ} {x y:Rat} (hF:∀a b,F (a++h :: b)=x*F (a++f :: b)+y*F (a++g :: b)):∀(b p q:List iJ) (s:Rat),BH F r (p++h :: q) b s=x*BH F r (p++f :: q) b s+y*BH F r (p++g :: q) b s
 | [],p,q,s=>by simp only[BH,mZ,nh]
 | v :: b,p,q,s=>by
  have i1:=hF p (q++b);have i2:=Dw (r:=r) hF b p (q++[v]) (-s);simp only[BH,cD,e8] at i1 i2 ⊢;rw[i1,i2];grind
theorem Hu {F:List iJ->Rat} {r:Nat} {f g h:iJ} {x y:Rat} (hF:∀a b,F (a++h :: b)=x*F (a++f :: b)+y*F (a++g :: b)) (hr:h r=x*f r+y*g r):∀(a pre b:List iJ) (s:Rat),BH F r pre (a++h :: b) s=x*BH F r pre (a++f :: b) s+y*BH F r pre (a++g :: b) s
 | [],pre,b,s=>by
  have i2:=Dw (r:=r) hF b pre [] (-s);simp only[BH,cU] at i2 ⊢;rw[i2,hr];grind
 | v :: a,pre,b,s=>by
  have i1:=hF (pre++a) b;have i2:=Hu hF hr a (pre++[v]) b (-s);simp only[BH,cD,e8] at i1 i2 ⊢;rw[i1,i2];grind
theorem vh {f g h:iJ} {x y:Rat}:∀{rs:List Nat},(∀r∈rs,h r=x*f r+y*g r)->∀a b,jJ rs (a++h :: b)=x*jJ rs (a++f :: b)+y*jJ rs (a++g :: b)
 | [],_,a,b=>by rw[DF,DF,DF];grind
 | r :: rs,hr,a,b=>Hu (fun a b=>vh (fun r' h'=>hr r' (.tail _ h')) a b) (hr r (.head _)) a [] b 1
theorem Lv {f h:iJ} {rs:List Nat} (hr:∀r∈rs,h r=f r) (a b:List iJ):jJ rs (a++h :: b)=jJ rs (a++f :: b):=by
 rw[vh (f:=f) (g:=f) (x:=1) (y:=0) (fun r h'=>by rw[hr r h'];grind) a b];grind
theorem HL {h:iJ} {rs:List Nat} (hr:∀r∈rs,h r=0) (a b:List iJ):jJ rs (a++h :: b)=0:=by
 rw[vh (f:=h) (g:=h) (x:=0) (y:=0) (fun r h'=>by rw[hr r h'];grind) a b];grind
theorem Hv {F:List iJ->Rat} {r:Nat} {x:iJ} (hF:∀a b,F (a++x :: x :: b)=0):∀(b p q:List iJ) (s:Rat),BH F r (p++x :: x :: q) b s=0
 | [],p,q,s=>rfl
 | v :: b,p,q,s=>by
  have i1:=hF p (q++b);have i2:=Hv (r:=r) hF b p (q++[v]) (-s);simp only[BH,cD,e8] at i1 i2 ⊢;rw[i1,i2];grind
theorem Hw {F:List iJ->Rat} {r:Nat} {x:iJ} (hF:∀a b,F (a++x :: x :: b)=0):∀(a pre b:List iJ) (s:Rat),BH F r pre (a++x :: x :: b) s=0
 | [],pre,b,s=>by
  have i2:=Hv (r:=r) hF b pre [] (- -s);simp only[BH,cU,cD,e8] at i2 ⊢;rw[i2];grind
 | v :: a,pre,b,s=>by
  have i1:=hF (pre++a) b;have i2:=Hw (r:=r) hF a (pre++[v]) b (-s);simp only[BH,cD,e8] at i1 i2 ⊢;rw[i1,i2];grind
theorem Bp {x:iJ}:∀{rs:List Nat} (a b:List iJ),jJ rs (a++x :: x :: b)=0
 | [],a,b=>DF
 | r :: rs,a,b=>Hw (fun a b=>Bp a b) a [] b 1
theorem Nj {x y:iJ} {rs:List Nat} (a b:List iJ):jJ rs (a++x :: y :: b)=- jJ rs (a++y :: x :: b):=by
 have hr:∀r∈rs,(fun r=>1*x r+1*y r) r=1*x r+1*y r:=fun _ _=>rfl
 have h0:=Bp (x:=fun r=>1*x r+1*y r) (rs:=rs) a b;have h1:=vh hr a ((fun r=>1*x r+1*y r) :: b);have h2:=vh hr (a++[x]) b;have h3:=vh hr (a++[y]) b;have h4:=Bp (x:=x) (rs:=rs) a b;have h5:=Bp (x:=y) (rs:=rs) a b;simp only[cD,e8,cU] at h0 h1 h2 h3 h4 h5;rw[h1,h2,h3,h4,h5] at h0;grind
theorem DH {x:iJ} {rs:List Nat}:∀(b a c:List iJ),jJ rs (a++x :: (b++x :: c))=0
 | [],a,c=>Bp a c
 | y :: b,a,c=>by
  have:=DH (x:=x) (rs:=rs) b (a++[y]) c;simp only[cD,e8,cU] at this;rw[e8,Nj,this];rfl
def bX:Nat->(Nat->Rat)->Rat
 | 0,_=>0
 | k+1,f=>bX k f+f k
theorem bB {f g:Nat->Rat}:∀{k:Nat},(∀j,j < k->f j=g j)->bX k f=bX k g
 | 0,_=>rfl
 | k+1,h=>by
  show bX k f+f k=bX k g+g k
  rw[bB fun j hj=>h j (by lia),h k (by lia)]
theorem uM {f g:Nat->Rat}:∀{k:Nat},bX k (fun j=>f j+g j)=bX k f+bX k g
 | 0=>by show (0:Rat)=0+0;grind
 | k+1=>by
  show bX k (fun j=>f j+g j)+_=(bX k f+f k)+(bX k g+g k)
  rw[uM];grind
theorem dk {f:Nat->Rat} {c:Rat}:∀{k:Nat},bX k (fun j=>c*f j)=c*bX k f
 | 0=>by show (0:Rat)=c*0;grind
 | k+1=>by
  show bX k (fun j=>c*f j)+_=c*(bX k f+f k)
  rw[dk];grind
theorem dH {f:Nat->Rat}:∀{k:Nat},(∀j,j < k->f j=0)->bX k f=0
 | 0,_=>rfl
 | k+1,h=>by
  show bX k f+f k=0
  rw[dH fun j hj=>h j (by lia),h k (by lia)];grind
theorem js {f:Nat->Rat} {i:Nat}:∀{k:Nat},i < k->(∀j,j < k->j≠i->f j=0)->bX k f=f i
 | k+1,hi,h=>by
  show bX k f+f k=f i
  by_cases e:i=k
  ·subst e;rw[dH fun j hj=>h j (by lia) (by lia)];grind
  ·rw[js (by lia) fun j hj=>h j (by lia),h k (by lia) (fun z=>e z.symm)];grind
theorem jM {f:Nat->Nat->Rat} {m:Nat}:∀{k:Nat},bX k (fun i=>bX m (f i))=bX m (fun j=>bX k fun i=>f i j)
 | 0=>(dH fun _ _=>rfl).symm
 | k+1=>by
  show bX k (fun i=>bX m (f i))+bX m (f k)=bX m (fun j=>bX k (fun i=>f i j)+f k j)
  rw[jM,uM]
theorem DD {rs:List Nat} {W:iJ} {v:Nat->iJ} {c:Nat->Rat} (a b:List iJ):∀{k:Nat} {W:iJ},(∀r∈rs,W r=bX k fun j=>c j*v j r)->jJ rs (a++W :: b)=bX k fun j=>c j*jJ rs (a++v j :: b)
 | 0,W,h=>HL h a b
 | k+1,W,h=>by
  rw[vh (f:=fun r=>bX k fun j=>c j*v j r) (g:=v k) (x:=1) (y:=c k) (fun r hr=>by rw[h r hr];show bX k _+_=_;grind) a b,DD a b (k:=k) (W:=fun r=>bX k fun j=>c j*v j r) fun r _=>rfl];show _=bX k _+_
  grind
end L2
namespace L2
open Nm
def nY (f:Nat->Nat):Nat->List Nat
 | 0=>[]
 | k+1=>f k :: nY f k
def jr (v:Nat->iJ):Nat->List iJ
 | 0=>[]
 | k+1=>v k :: jr v k
def Gi (v:Nat->iJ) (i:Nat):Nat->List iJ
 | 0=>[]
 | k+1=>if k<=i then [] else v k :: Gi v i k
theorem xm {f:Nat->Nat}:∀{k:Nat},(nY f k).length=k
 | 0=>rfl
 | k+1=>by show (nY f k).length+1=_;rw[xm]
theorem cw_len {v:Nat->iJ}:∀{k:Nat},(jr v k).length=k
 | 0=>rfl
 | k+1=>by show (jr v k).length+1=_;rw[cw_len]
theorem pG {f:Nat->Nat} {r:Nat}:∀{k:Nat},r∈nY f k->∃t,t < k/\r=f t
 | k+1,h=>by
  rcases aG.mp h with h | h
  ·exact ⟨k,by lia,h⟩
  ·obtain ⟨t,a,b⟩:=pG h;exact ⟨t,by lia,b⟩
theorem Et {f g:Nat->Nat}:∀{k:Nat},(∀j,j < k->f j=g j)->nY f k=nY g k
 | 0,_=>rfl
 | k+1,h=>by
  show f k :: nY f k=g k :: nY g k
  rw[h k (by lia),Et fun j hj=>h j (by lia)]
theorem cw_congr {f g:Nat->iJ}:∀{k:Nat},(∀j,j < k->f j=g j)->jr f k=jr g k
 | 0,_=>rfl
 | k+1,h=>by
  show f k :: jr f k=g k :: jr g k
  rw[h k (by lia),cw_congr fun j hj=>h j (by lia)]
theorem cw_mem {v:Nat->iJ} {j:Nat}:∀{k:Nat},j < k->v j∈jr v k
 | k+1,h=>by
  by_cases e:j=k
  ·subst e;exact .head _
  ·exact .tail _ (cw_mem (by lia))
theorem cw_in {v:Nat->iJ} {x:iJ}:∀{k:Nat},x∈jr v k->∃t,t < k/\x=v t
 | k+1,h=>by
  rcases aG.mp h with h | h
  ·exact ⟨k,by lia,h⟩
  ·obtain ⟨t,a,b⟩:=cw_in h;exact ⟨t,by lia,b⟩
theorem LC {v:Nat->iJ} {i j:Nat} (h1:i < j):∀{k:Nat},j < k->v j∈Gi v i k
 | k+1,h=>by
  show v j∈if k<=i then [] else v k :: Gi v i k
  rw[if_neg (by lia)];by_cases e:j=k
  ·subst e;exact .head _
  ·exact .tail _ (LC h1 (by lia))
theorem EU {v:Nat->iJ} {i:Nat} {x:iJ}:∀{k:Nat},x∈Gi v i k->∃t,t < k/\x=v t
 | k+1,h=>by
  have h:x∈if k<=i then [] else v k :: Gi v i k:=h
  split at h
  ·cases h
  ·rcases aG.mp h with h | h
   ·exact ⟨k,by lia,h⟩
   ·obtain ⟨t,a,b⟩:=EU h;exact ⟨t,by lia,b⟩
theorem cw_split {v:Nat->iJ} {i:Nat}:∀{k:Nat},i < k->jr v k=Gi v i k++v i :: jr v i
 | k+1,h=>by
  show v k :: jr v k=(if k<=i then [] else v k :: Gi v i k)++_
  by_cases e:i=k
  ·subst e;rw[if_pos (ao _)];rfl
  ·rw[if_neg (by lia),cw_split (k:=k) (i:=i) (by lia)];rfl
theorem yX {rs:List Nat} {v:Nat->iJ} {c:Nat->Rat} {W:iJ} {k i:Nat} (hi:i < k) (hW:∀r∈rs,W r=bX k fun j=>c j*v j r):jJ rs (Gi v i k++W :: jr v i)=c i*jJ rs (jr v k):=by
 rw[DD (v:=v) (c:=c) (W:=W) _ _ hW,js hi fun j hj ne=>?_,cw_split hi];rcases cR j i with h | h
 ·obtain ⟨s,t,e⟩:=Ff (cw_mem (v:=v) h);rw[e,DH];grind
 ·obtain ⟨s,t,e⟩:=Ff (LC (v:=v) (show i < j by lia) hj);have:=DH (x:=v j) (rs:=rs) t s (jr v i);rw[e,cD,e8,this];grind
theorem Pq {rs:List Nat} {v:Nat->iJ} {c:Nat->Rat} {W:iJ} {k:Nat} (hW:∀r∈rs,W r=bX k fun j=>c j*v j r):jJ rs (W :: jr v k)=0:=by
 have:=DD (v:=v) (c:=c) (W:=W) [] (jr v k) hW;rw[cU] at this;rw[this];refine dH fun j hj=>?_
 obtain ⟨s,t,e⟩:=Ff (cw_mem (v:=v) hj);have:=DH (x:=v j) (rs:=rs) s [] t;rw[cU] at this;rw[e,cU,this];grind
theorem Jw {rs:List Nat} {v:Nat->iJ} {c:Nat->Rat} {W:iJ} {k i:Nat} {s:Rat} (hi:i∉rs) (h1:W i=bX k (fun j=>c j*v j i)+s) (hW:∀r∈rs,W r=bX k fun j=>c j*v j r):jJ (i :: rs) (W :: jr v k)=s*jJ rs (jr v k):=by
 have e:=vh (rs:=i :: rs) (h:=W) (f:=fun r=>bX k fun j=>c j*v j r) (g:=fun r=>if r=i then 1 else 0) (x:=1) (y:=s) (fun r hr=>by
  rcases aG.mp hr with rfl | hr
  ·rw[h1,if_pos rfl];grind
  ·rw[hW r hr,if_neg (fun z=>hi (by rw[<- z];exact hr))];grind) [] (jr v k)
 rw[cU,cU,cU,Pq (c:=c) fun r _=>rfl] at e
 have e2:jJ (i :: rs) ((fun r=>if r=i then (1:Rat) else 0) :: jr v k)=jJ rs (jr v k):=by
  show 1*(if i=i then (1:Rat) else 0)*jJ rs ([]++jr v k)+BH (fun ws=>jJ rs ws) i ([]++[fun r=>if r=i then (1:Rat) else 0]) (jr v k) (-1)=_
  have hF:∀a b,(fun ws=>jJ rs ws) (a++(fun r=>if r=i then (1:Rat) else 0) :: b)=0*(fun ws=>jJ rs ws) (a++(fun r=>if r=i then (1:Rat) else 0) :: b)+0*(fun ws=>jJ rs ws) (a++(fun r=>if r=i then (1:Rat) else 0) :: b):=fun a b=>by
   have:=HL (h:=fun r=>if r=i then (1:Rat) else 0) (rs:=rs) (fun r hr=>if_neg fun z=>hi (by rw[<- z];exact hr)) a b
   dsimp only
   rw[this];grind
  have:=Dw (r:=i) hF (jr v k) [] [] (-1);rw[this,if_pos rfl,cU];grind
 rw[e2] at e;rw[e];grind
theorem K5 {F:List iJ->Rat} {r B W:Nat}:∀{post pre:List iJ} {s:Rat},(∀ws,(∀w∈ws,w∈pre++post)->ws.length+1=(pre++post).length->Fr 1 B (F ws))->(∀w∈post,Fr 1 W (w r))->Fr 1 1 s->Fr 1 (post.length*(W*B)) (BH F r pre post s)
 | [],pre,s,_,_,_=>by show Fr 1 _ 0;exact Fr.zero
 | v :: post,pre,s,hF,hw,hs=>by
  have t1:Fr 1 (W*B) (s*v r*F (pre++post)):=by
   have:=(hs.mul (hw v (.head _))).mul (hF (pre++post) (fun w h=>by
    rcases az.mp h with h | h
    ·exact dY _ h
    ·exact bC _ (.tail _ h)) (by simp only[av,bP];lia))
   simpa using this
  have t2:=K5 (F:=F) (r:=r) (B:=B) (W:=W) (post:=post) (pre:=pre++[v]) (s:=-s) (fun ws h h'=>hF ws (fun w hw=>by simpa using h w hw) (by simpa using h')) (fun w h=>hw w (.tail _ h)) (by simpa using hs.neg);exact (t1.add t2).mono (by rw[bP,dA];lia)
theorem Bo {W N:Nat}:∀{rs:List Nat} {vs:List iJ},vs.length<=N->(∀v∈vs,∀r∈rs,Fr 1 W (v r))->Fr 1 ((N*W)^rs.length) (jJ rs vs)
 | [],[],_,_=>by show Fr 1 1 1;exact (Fr.int (i:=1) (by decide))
 | [],_ :: _,_,_=>by show Fr 1 _ 0;exact Fr.zero
 | r :: rs,vs,hl,h=>by
  have:=K5 (F:=fun ws=>jJ rs ws) (r:=r) (B:=(N*W)^rs.length) (W:=W) (post:=vs) (pre:=[]) (s:=1) (fun ws h1 h2=>Bo (by rw[cU] at h2;lia) fun v hv r' hr'=>h v (by simpa using h1 v hv) r' (.tail _ hr')) (fun w hw=>h w hw r (.head _)) (Fr.int (i:=1) (by decide));refine this.mono ?_;rw[bP,dO,b7 ((N*W)^rs.length),cE N];exact aA _ hl
structure Ao (a:Nat->Nat->Rat) (m k:Nat) (pm p:Nat->Nat) (l:Nat->Nat->Rat) (d:Rat):Prop where
 inj:∀i j,i < m->j < m->pm i=pm j->i=j
 rng:∀i,i < m->pm i < m
 km:k<=m
 d0:d≠0
 det:d=jJ (nY pm k) (jr (fun j r=>a r (p j)) k)
 eqs:∀i,i < m->∀c,d*a (pm i) c=bX k (fun j=>a (pm i) (p j)*l j c)+if i < k then 0 else l i c
 unit:∀i,i < m->∀j,j < k->l i (p j)=if i=j then d else 0
section
variable {a l:Nat->Nat->Rat} {m k:Nat} {pm p:Nat->Nat} {d:Rat}
theorem Ao.start (h:∀i,i < m->pm i=i):Ao a m 0 pm p a 1 where
 inj i j hi hj e:=by rw[h i hi,h j hj] at e;exact e
 rng i hi:=by rw[h i hi];exact hi
 km:=bD _
 d0:=by decide
 det:=rfl
 eqs i hi c:=by
  rw[h i hi,if_neg (by lia)];show 1*a i c=0+a i c
  grind
 unit i _ j hj:=absurd hj (by lia)
theorem Ao.coef (B:Ao a m k pm p l d) {i c:Nat} (hi:i < m):a (pm i) c=bX k (fun j=>(l j c / d)*a (pm i) (p j))+if i < k then 0 else l i c / d:=by
 have h:=B.eqs i hi c;have d0:=B.d0
 have e:bX k (fun j=>(l j c / d)*a (pm i) (p j))=(1 / d)*bX k (fun j=>a (pm i) (p j)*l j c):=by
  rw[<- dk];exact bB fun j _=>by grind
 rw[e]
 split at h
 ·rw[if_pos (by assumption)];grind
 ·rw[if_neg (by assumption)];grind
theorem Ao.old (B:Ao a m k pm p l d) {i c:Nat} (hi:i < k):l i c=jJ (nY pm k) (Gi (fun j r=>a r (p j)) i k++(fun r=>a r c) :: jr (fun j r=>a r (p j)) i):=by
 have km:=B.km;have d0:=B.d0;rw[yX (v:=fun j r=>a r (p j)) (c:=fun j=>l j c / d) hi fun r hr=>?_,<- B.det]
 ·grind
 ·obtain ⟨t,ht,rfl⟩:=pG hr;have:=B.coef (i:=t) (c:=c) (by lia);rw[if_pos ht] at this;rw[this];grind
theorem Ao.new (B:Ao a m k pm p l d) {i c:Nat} (h1:k<=i) (hi:i < m):l i c=jJ (pm i :: nY pm k) ((fun r=>a r c) :: jr (fun j r=>a r (p j)) k):=by
 have km:=B.km;have d0:=B.d0
 have hn:pm i∉nY pm k:=fun hm=>by
  obtain ⟨t,ht,e⟩:=pG hm;have:=B.inj i t hi (by lia) e
  lia
 have e1:a (pm i) c=bX k (fun j=>(l j c / d)*a (pm i) (p j))+l i c / d:=by
  have:=B.coef (i:=i) (c:=c) hi;rwa [if_neg (by lia)] at this
 have e2:∀r∈nY pm k,a r c=bX k (fun j=>(l j c / d)*a r (p j)):=fun r hr=>by
  obtain ⟨t,ht,rfl⟩:=pG hr;have:=B.coef (i:=t) (c:=c) (by lia);rw[if_pos ht] at this;rw[this];grind
 rw[Jw (v:=fun j r=>a r (p j)) (c:=fun j=>l j c / d) (W:=fun r=>a r c) (s:=l i c / d) hn e1 e2,<- B.det];grind
theorem Ao.fr {W N:Nat} (B:Ao a m k pm p l d) (hN:k < N) (hW:1<=W) (ha:∀i,i < m->∀c,Fr 1 W (a i c)) {i c:Nat} (hi:i < m):Fr 1 ((N*W)^(k+1)) (l i c):=by
 have km:=B.km;have mono:∀t,t<=k+1->(N*W)^t<=(N*W)^(k+1):=fun t ht=>au (bW (by lia) hW) ht
 have ha':∀r∈nY pm k,∀c,Fr 1 W (a r c):=fun r hr c=>by
  obtain ⟨t,ht,rfl⟩:=pG hr;exact ha _ (B.rng t (by lia)) c
 by_cases h:i < k
 ·rw[B.old h];refine (Bo (W:=W) (N:=N) ?_ ?_).mono (mono _ (by rw[xm];lia))
  ·have:=congrArg List.length (cw_split (v:=fun j r=>a r (p j)) h);rw[av,bP,cw_len] at this;rw[av,bP]
   lia
  ·intro v hv r hr;rcases az.mp hv with hv | hv
   ·obtain ⟨t,_,rfl⟩:=EU hv;exact ha' r hr _
   ·rcases aG.mp hv with rfl | hv
    ·exact ha' r hr _
    ·obtain ⟨t,_,rfl⟩:=cw_in hv;exact ha' r hr _
 ·rw[B.new (by lia) hi];refine (Bo (W:=W) (N:=N) ?_ ?_).mono (mono _ (by rw[bP,xm];lia))
  ·rw[bP,cw_len]
   lia
  ·intro v hv r hr
   have hr':∀c,Fr 1 W (a r c):=fun c=>by
    rcases aG.mp hr with rfl | hr
    ·exact ha _ (B.rng i hi) c
    ·exact ha' r hr c
   rcases aG.mp hv with rfl | hv
   ·exact hr' _
   ·obtain ⟨t,_,rfl⟩:=cw_in hv;exact hr' _
theorem Ao.dfr {W N:Nat} (B:Ao a m k pm p l d) (hN:k<=N) (ha:∀i,i < m->∀c,Fr 1 W (a i c)):Fr 1 ((N*W)^k) d:=by
 have km:=B.km;rw[B.det]
 have:=Bo (W:=W) (N:=N) (rs:=nY pm k) (vs:=jr (fun j r=>a r (p j)) k) (by rw[cw_len];exact hN) fun v hv r hr=>by
  obtain ⟨t,ht,rfl⟩:=pG hr;obtain ⟨t',_,rfl⟩:=cw_in hv;exact ha _ (B.rng t (by lia)) _
 rwa [xm] at this
def yF (k t i:Nat):Nat:=if i=k then t else if i=t then k else i
theorem xE {k t m i:Nat} (hk:k < m) (ht:t < m) (hi:i < m):yF k t i < m:=by
 unfold yF
 split
 ·exact ht
 ·split
  ·exact hk
  ·exact hi
theorem Oq {k t i j:Nat} (h:yF k t i=yF k t j):i=j:=by
 unfold yF at h
 split at h <;> split at h <;> (try split at h) <;> (try split at h) <;> lia
theorem yD {k t i:Nat} (h:k<=t) (hi:i < k):yF k t i=i:=by
 unfold yF;rw[if_neg (by lia),if_neg (by lia)]
theorem z6 {k t i:Nat} (h:k<=t) (hi:k<=i):k<=yF k t i:=by
 unfold yF
 split
 ·exact h
 ·split <;> lia
theorem Ao.swap (B:Ao a m k pm p l d) {t:Nat} (h:k<=t) (ht:t < m):Ao a m k (fun i=>pm (yF k t i)) p (fun i=>l (yF k t i)) d where
 inj i j hi hj e:=Oq (B.inj _ _ (xE (by lia) ht hi) (xE (by lia) ht hj) e)
 rng i hi:=B.rng _ (xE (by lia) ht hi)
 km:=B.km
 d0:=B.d0
 det:=by rw[B.det,Et (f:=pm) (g:=fun i=>pm (yF k t i)) fun j hj=>by rw[yD h hj]]
 eqs i hi c:=by
  have e:=B.eqs (yF k t i) (xE (by lia) ht hi) c;have e1:bX k (fun j=>a (pm (yF k t i)) (p j)*l (yF k t j) c)=bX k (fun j=>a (pm (yF k t i)) (p j)*l j c):=bB fun j hj=>by rw[yD h hj]
  rw[e1];by_cases hk:i < k
  ·rw[yD h hk] at e ⊢;exact e
  ·rw[if_neg hk];rw[if_neg (by have:=z6 h (show k<=i by lia);lia)] at e;exact e
 unit i hi j hj:=by
  rw[B.unit _ (xE (by lia) ht hi) j hj];by_cases hk:i < k
  ·rw[yD h hk]
  ·have:=z6 h (show k<=i by lia);rw[if_neg (by lia),if_neg (by lia)]
theorem Ao.step (B:Ao a m k pm p l d) {c0:Nat} (hk:k < m) (h0:l k c0≠0):Ao a m (k+1) pm (fun j=>if j=k then c0 else p j) (fun i c=>if i=k then l k c else (l k c0*l i c - l i c0*l k c) / d) (l k c0) where
 inj:=B.inj
 rng:=B.rng
 km:=hk
 d0:=h0
 det:=by
  rw[B.new (ao _) hk];show _=jJ (pm k :: nY pm k) ((fun r=>a r (if k=k then c0 else p k)) :: jr _ k)
  rw[if_pos rfl];congr 2;exact cw_congr fun j hj=>by rw[if_neg (show j≠k by lia)]
 eqs i hi c:=by
  have d0:=B.d0;have e1:=B.eqs i hi c;have e2:=B.eqs i hi c0;show l k c0*a (pm i) c=(bX k _+_)+_
  have s1:bX k (fun j=>a (pm i) (if j=k then c0 else p j)*(if j=k then l k c else (l k c0*l j c - l j c0*l k c) / d))=(l k c0 / d)*bX k (fun j=>a (pm i) (p j)*l j c)+(- l k c / d)*bX k (fun j=>a (pm i) (p j)*l j c0):=by
   rw[<- dk,<- dk,<- uM];refine bB fun j hj=>?_
   rw[if_neg (show j≠k by lia),if_neg (show j≠k by lia)];grind
  rw[s1];simp only[if_true];generalize bX k (fun j=>a (pm i) (p j)*l j c)=S1 at e1 ⊢;generalize bX k (fun j=>a (pm i) (p j)*l j c0)=S2 at e2 ⊢;rcases yA i k with h | h | h
  ·rw[if_pos h] at e1 e2;rw[if_pos (by lia)];grind
  ·subst h;rw[if_neg (by lia)] at e1 e2;rw[if_pos (by lia)];grind
  ·rw[if_neg (by lia)] at e1 e2;rw[if_neg (by lia),if_neg (by lia)];grind
 unit i hi j hj:=by
  have d0:=B.d0;by_cases e:j=k
  ·subst e;simp only[if_true];by_cases ei:i=j
   ·rw[if_pos ei,if_pos ei]
   ·rw[if_neg ei,if_neg ei];grind
  ·have hj':j < k:=by lia
   rw[if_neg e];by_cases ei:i=k
   ·rw[if_pos ei,B.unit k hk j hj',if_neg (by lia),if_neg (by lia)]
   ·rw[if_neg ei,B.unit i hi j hj',B.unit k hk j hj',if_neg (show k≠j by lia)]
    split
    ·grind
    ·grind
end
def fD (m:Nat) (a:Nat->Nat->Rat) (x:Nat->Rat):Prop:=∃w:Nat->Rat,∀c,x c=bX m fun t=>w t*a t c
section
variable {m m' k n:Nat} {a b:Nat->Nat->Rat} {x y:Nat->Rat}
theorem fD.row {i:Nat} (hi:i < m):fD m a (a i):=⟨fun t=>if t=i then 1 else 0,fun c=>by
 rw[js hi fun j _ ne=>by dsimp only;rw[if_neg ne];grind]
 dsimp only
 rw[if_pos rfl];grind⟩
theorem fD.lin (α β:Rat) (hx:fD m a x) (hy:fD m a y):fD m a fun c=>α*x c+β*y c:=by
 obtain ⟨w,hw⟩:=hx;obtain ⟨v,hv⟩:=hy;refine ⟨fun t=>α*w t+β*v t,fun c=>?_⟩
 dsimp only
 rw[hw c,hv c,<- dk,<- dk,<- uM];exact bB fun j _=>by grind
theorem fD.congr (h:∀c,x c=y c) (hx:fD m a x):fD m a y:=by obtain ⟨w,hw⟩:=hx;exact ⟨w,fun c=>by rw[<- h c];exact hw c⟩
theorem fD.trans (h:∀t,t < m'->fD m a (b t)) (hx:fD m' b x):fD m a x:=by
 obtain ⟨v,hv⟩:=hx
 have h2:∀t,∃w:Nat->Rat,t < m'->∀c,b t c=bX m fun s=>w s*a s c:=fun t=>by
  by_cases ht:t < m'
  ·obtain ⟨w,hw⟩:=h t ht;exact ⟨w,fun _=>hw⟩
  ·exact ⟨fun _=>0,fun z=>absurd z ht⟩
 have hc:=Classical.axiomOfChoice h2;obtain ⟨w,hw⟩:=hc;refine ⟨fun s=>bX m' fun t=>v t*w t s,fun c=>?_⟩;rw[hv c];have e1:bX m' (fun t=>v t*b t c)=bX m' (fun t=>bX m fun s=>v t*(w t s*a s c)):=bB fun t ht=>by rw[hw t ht c,<- dk]
 rw[e1,jM];refine bB fun s _=>?_
 have:bX m' (fun t=>v t*w t s)*a s c=a s c*bX m' (fun t=>v t*w t s):=fj ..;rw[this,<- dk];exact bB fun t _=>by grind
theorem fD.zero (h:∀c,x c=0):fD m a x:=⟨fun _=>0,fun c=>by rw[h c,dH fun _ _=>by grind]⟩
end
structure E7 (m n:Nat) (a:Nat->Nat->Rat) (k:Nat) (p:Nat->Nat) (R:Nat->Nat->Rat):Prop where
 inc:∀i j,i < j->j < k->p i < p j
 low:∀j,j < k->p j < n
 unit:∀i,i < k->∀j,j < k->R i (p j)=if i=j then 1 else 0
 lead:∀i,i < k->∀c,c < p i->R i c=0
 span:∀i,i < m->fD k R (a i)
 back:∀i,i < k->fD m a (R i)
section
variable {m m' k k' n:Nat} {a a' R R':Nat->Nat->Rat} {p p':Nat->Nat} {x:Nat->Rat}
theorem E7.coef (h:E7 m n a k p R) (hx:fD k R x) (c:Nat):x c=bX k fun j=>x (p j)*R j c:=by
 obtain ⟨w,hw⟩:=hx;rw[hw c];refine bB fun j hj=>?_
 rw[hw (p j),js hj fun t ht ne=>by rw[h.unit t ht j hj,if_neg ne];grind,h.unit j hj j hj,if_pos rfl];grind
theorem E7.lead_in (h:E7 m n a k p R) (hx:fD k R x) {c:Nat} (h1:x c≠0) (h0:∀c',c' < c->x c'=0):∃j,j < k/\p j=c:=by
 refine Classical.byContradiction fun hn=>h1 ?_
 rw[h.coef hx c];refine dH fun j hj=>?_
 rcases yA (p j) c with z | z | z
 ·rw[h0 _ z];grind
 ·exact absurd ⟨j,hj,z⟩ hn
 ·rw[h.lead j hj c z];grind
theorem inc_le (h1:∀i j,i < j->j < k->p i < p j) (h2:∀i j,i < j->j < k'->p' i < p' j) (hs:∀j,j < k'->∃i,i < k/\p i=p' j):∀{j:Nat},j < k'->∀{i:Nat},i < k->p i=p' j->j<=i
 | 0,_,_,_,_=>bD _
 | j+1,hj,i,hi,e=>by
  obtain ⟨i0,hi0,e0⟩:=hs j (by lia);have:=inc_le h1 h2 hs (j:=j) (by lia) hi0 e0;have lt:=h2 j (j+1) (by lia) hj;rcases yA i0 i with z | z | z
  ·lia
  ·subst z;lia
  ·have:=h1 i i0 z hi0;lia
theorem Lb (h1:∀i j,i < j->j < k->p i < p j) {i j:Nat} (h:i<=j) (hj:j < k):p i<=p j:=by
 rcases cR i j with z | z
 ·exact aY (h1 i j z hj)
 ·have:i=j:=by lia
  rw[this];exact ao _
theorem HG (h1:∀i j,i < j->j < k->p i < p j) (h2:∀i j,i < j->j < k'->p' i < p' j) (hs:∀j,j < k'->∃i,i < k/\p i=p' j):k'<=k/\∀j,j < k'->p j<=p' j:=by
 refine ⟨?_,fun j hj=>?_⟩
 ·rcases gA k' with z | z
  ·lia
  ·obtain ⟨i,hi,e⟩:=hs (k' - 1) (by lia);have:=inc_le h1 h2 hs (j:=k' - 1) (by lia) hi e
   lia
 ·obtain ⟨i,hi,e⟩:=hs j hj;rw[<- e];exact Lb h1 (inc_le h1 h2 hs hj hi e) hi
theorem E7.uniq (h:E7 m n a k p R) (h':E7 m' n a' k' p' R') (s1:∀i,i < m->fD m' a' (a i)) (s2:∀i,i < m'->fD m a (a' i)):k=k'/\(∀j,j < k->p j=p' j)/\∀i,i < k->∀c,R i c=R' i c:=by
 have x1:∀i,i < k->fD k' R' (R i):=fun i hi=>fD.trans (fun t ht=>h'.span t ht) (fD.trans s1 (h.back i hi))
 have x2:∀i,i < k'->fD k R (R' i):=fun i hi=>fD.trans (fun t ht=>h.span t ht) (fD.trans s2 (h'.back i hi))
 have y1:∀j,j < k->∃i,i < k'/\p' i=p j:=fun j hj=>h'.lead_in (x1 j hj) (by rw[h.unit j hj j hj,if_pos rfl];decide) (h.lead j hj)
 have y2:∀j,j < k'->∃i,i < k/\p i=p' j:=fun j hj=>h.lead_in (x2 j hj) (by rw[h'.unit j hj j hj,if_pos rfl];decide) (h'.lead j hj)
 obtain ⟨z1,w1⟩:=HG h'.inc h.inc y1;obtain ⟨z2,w2⟩:=HG h.inc h'.inc y2;have ek:k=k':=Nat.le_antisymm z1 z2;subst ek;have ep:∀j,j < k->p j=p' j:=fun j hj=>Nat.le_antisymm (w2 j hj) (w1 j hj)
 refine ⟨rfl,ep,fun i hi c=>?_⟩;rw[h.coef (x2 i hi) c,js hi fun j hj ne=>by rw[ep j hj,h'.unit i hi j hj,if_neg (fun z=>ne z.symm)];grind,ep i hi,h'.unit i hi i hi,if_pos rfl];grind
end
structure pW (a:Nat->Nat->Rat) (m k P:Nat) (p:Nat->Nat) (l:Nat->Nat->Rat) (d:Rat):Prop where
 km:k<=m
 d0:d≠0
 unit:∀i,i < m->∀j,j < k->l i (p j)=if i=j then d else 0
 inc:∀i j,i < j->j < k->p i < p j
 low:∀j,j < k->p j < P
 zero:∀i,k<=i->i < m->∀c,c < P->l i c=0
 lead:∀j,j < k->∀c,c < p j->l j c=0
 there:∀i,i < m->fD m l (a i)
 back:∀i,i < m->fD m a (l i)
section
variable {m k n P:Nat} {a l l':Nat->Nat->Rat} {p:Nat->Nat} {d d':Rat}
theorem pW.start:pW a m 0 0 p a 1 where
 km:=bD _
 d0:=by decide
 unit _ _ j hj:=absurd hj (by lia)
 inc _ j _ hj:=absurd hj (by lia)
 low j hj:=absurd hj (by lia)
 zero _ _ _ c hc:=absurd hc (by lia)
 lead j hj:=absurd hj (by lia)
 there i hi:=fD.row hi
 back i hi:=fD.row hi
theorem pW.skip (E:pW a m k P p l d) (h:∀i,k<=i->i < m->l i P=0):pW a m k (P+1) p l d :=
 ⟨E.km,E.d0,E.unit,E.inc,fun j hj=>Nat.lt_succ_of_lt (E.low j hj),fun i h1 h2 c hc=>by
  by_cases e:c=P
  ·rw[e];exact h i h1 h2
  ·exact E.zero i h1 h2 c (by lia),E.lead,E.there,E.back⟩
theorem Qn {k t i:Nat}:yF k t (yF k t i)=i:=by
 unfold yF
 split
 ·split <;> (try split) <;> lia
 ·split
  ·rw[if_pos rfl];lia
  ·rfl
theorem pW.swap (E:pW a m k P p l d) {t:Nat} (h:k<=t) (ht:t < m):pW a m k P p (fun i=>l (yF k t i)) d where
 km:=E.km
 d0:=E.d0
 unit i hi j hj:=by
  rw[E.unit _ (xE (by lia) ht hi) j hj];by_cases hk:i < k
  ·rw[yD h hk]
  ·have:=z6 h (show k<=i by lia);rw[if_neg (by lia),if_neg (by lia)]
 inc:=E.inc
 low:=E.low
 zero i h1 h2 c hc:=E.zero _ (z6 h h1) (xE (by lia) ht h2) c hc
 lead j hj c hc:=by rw[yD h hj];exact E.lead j hj c hc
 there i hi:=fD.trans (fun s hs=>fD.congr (fun c=>by rw[Qn]) (fD.row (a:=fun i=>l (yF k t i)) (i:=yF k t s) (xE (by lia) ht hs))) (E.there i hi)
 back i hi:=E.back _ (xE (by lia) ht hi)
theorem pW.step (E : pW a m k P p l d) (hk : k < m) (h0 : d' ≠ 0) (unit' : ∀ i, i < m → ∀ j, j < k + 1 → l' i (if j = k then P else p j) = if i = j then d' else 0)
    (hl : ∀ i, i < m → ∃ β γ : Rat, β ≠ 0 /\ (i = k → γ = 0) /\ ∀ c, l' i c = β * l i c + γ * l k c) : pW a m (k + 1) (P + 1) (fun j => if j = k then P else p j) l' d' where
  km := hk
  d0 := h0
  unit := unit'
  inc i j hij hj := by
    by_cases e : j = k
    · rw [if_pos e, if_neg (by lia)];exact E.low i (by lia)
    · rw [if_neg e, if_neg (by lia)];exact E.inc i j hij (by lia)
  low j hj := by
    by_cases e : j = k
    · rw [if_pos e]; lia
    · rw [if_neg e];exact Nat.lt_succ_of_lt (E.low j (by lia))
  zero i h1 h2 c hc := by
    by_cases e : c = P
    · have := unit' i h2 k (by lia);rw [if_pos rfl, if_neg (by lia)] at this;rw [e]; exact this
    · obtain ⟨β, γ, _, _, q⟩ := hl i h2;rw [q c, E.zero i (by lia) h2 c (by lia), E.zero k (ao _) hk c (by lia)];grind
  lead j hj c hc := by
    have km := E.km;obtain ⟨β, γ, _, _, q⟩ := hl j (by lia);by_cases e : j = k
    · rw [if_pos e] at hc;rw [q c, e, E.zero k (ao _) hk c hc];grind
    · rw [if_neg e] at hc;have := E.low j (by lia);rw [q c, E.lead j (by lia) c hc, E.zero k (ao _) hk c (by lia)];grind
  there i hi := by
    refine fD.trans (fun s hs => ?_) (E.there i hi);obtain ⟨β, γ, b0, _, q⟩ := hl s hs;obtain ⟨βk, γk, bk0, gk, qk⟩ := hl k hk;have g0 := gk rfl;refine fD.congr (fun c => ?_) (fD.lin (1 / β) (-(γ / β) / βk) (fD.row (a := l') hs) (fD.row (a := l') hk));rw [q c, qk c, g0];grind
  back i hi := by
    obtain ⟨β, γ, _, _, q⟩ := hl i hi;exact fD.congr (fun c => (q c).symm) (fD.lin β γ (E.back i hi) (E.back k hk))
theorem pW.done (E:pW a m k n p l d) (ha:∀i,i < m->∀c,n<=c->a i c=0):E7 m n a k p (fun i c=>l i c / d) where
 inc:=E.inc
 low:=E.low
 unit i hi j hj:=by
  have d0:=E.d0;have km:=E.km;rw[E.unit i (by lia) j hj]
  split
  ·grind
  ·grind
 lead i hi c hc:=by
  rw[E.lead i hi c hc];grind
 span i hi:=by
  have d0:=E.d0;refine fD.trans (fun s hs=>?_) (E.there i hi);by_cases z:s < k
  ·refine fD.congr (fun c=>?_) (fD.lin d 0 (fD.row (a:=fun i c=>l i c / d) z) (fD.row (a:=fun i c=>l i c / d) z));grind
  ·refine fD.zero fun c=>?_
   by_cases hc:c < n
   ·exact E.zero s (by lia) hs c hc
   ·obtain ⟨w,hw⟩:=E.back s hs;rw[hw c,dH fun t ht=>by rw[ha t ht c (by lia)];grind]
 back i hi:=by
  have km:=E.km;have d0:=E.d0;refine fD.congr (fun c=>?_) (fD.lin (1 / d) 0 (E.back i (by lia)) (E.back i (by lia)));grind
end
def eV (ls:List (List Int)) (i c:Nat):Rat:=(((ls.getD i []).getD c 0:Int):Rat)
def cS (rows:List (List Rat)) (i c:Nat):Rat:=(rows.getD i []).getD c 0
def sS (ls:List (List Int)) (k t:Nat):List (List Int):=(ls.set k (ls.getD t [])).set t (ls.getD k [])
def EW (ls:List (List Int)) (k c:Nat) (b:Int):List (List Int):=(ls.map fun zs=>List.zipWith (fun x y=>((ls.getD k []).getD c 0*x - zs.getD c 0*y).fdiv b) zs (ls.getD k [])).set k (ls.getD k [])
section
variable {ls ls0:List (List Int)} {k t n P c:Nat} {b d:Int} {ps:List Nat}
theorem vg {α:Type} {l:List α} {i j:Nat} {x e:α} (hi:i < l.length):(l.set i x).getD j e=if j=i then x else l.getD j e:=by
 rw[ae,ae,List.getElem?_set];by_cases h:j=i
 ·subst h;rw[if_pos rfl,if_pos hi,if_pos rfl];rfl
 ·rw[if_neg (fun z=>h z.symm),if_neg h]
theorem yE:(sS ls k t).length=ls.length:=by unfold sS;rw[dP,dP]
theorem LG:(EW ls k c b).length=ls.length:=by unfold EW;rw[dP,ar]
theorem getD_in {α:Type} {l:List α} {i:Nat} {e:α} (h:i < l.length):l.getD i e∈l:=by
 rw[ae,ag h];exact aJ h
theorem GN (w:∀zs∈ls,zs.length=n) (hk:k < ls.length) (ht:t < ls.length):∀zs∈sS ls k t,zs.length=n:=fun zs hz=>by
 unfold sS at hz;rcases cv hz with h | h
 ·rcases cv h with h | h
  ·exact w zs h
  ·rw[h];exact w _ (getD_in ht)
 ·rw[h];exact w _ (getD_in hk)
theorem HV (w:∀zs∈ls,zs.length=n) (hk:k < ls.length):∀zs∈EW ls k c b,zs.length=n:=fun zs hz=>by
 unfold EW at hz;rcases cv hz with h | h
 ·obtain ⟨y,hy,rfl⟩:=aD.mp h;rw[b9,w y hy,w _ (getD_in hk)]
  lia
 ·rw[h];exact w _ (getD_in hk)
theorem yb (hk:k < ls.length) (ht:t < ls.length) (i c:Nat):eV (sS ls k t) i c=eV ls (yF k t i) c:=by
 unfold eV sS yF;rw[vg (by rw[dP];exact ht),vg hk];by_cases h1:i=t
 ·rw[if_pos h1];by_cases h2:i=k
  ·rw[if_pos h2,<- h1,<- h2]
  ·rw[if_neg h2,if_pos h1]
 ·rw[if_neg h1];by_cases h2:i=k
  ·rw[if_pos h2,if_pos h2]
  ·rw[if_neg h2,if_neg h2,if_neg h1]
theorem Bn (w:∀zs∈ls,zs.length=n) {i c:Nat} (hc:n<=c):eV ls i c=0:=by
 unfold eV;by_cases h:i < ls.length
 ·have:=w _ (getD_in (e:=[]) h);rw[ae (l:=ls.getD i []),aR (by lia)];rfl
 ·rw[ae (l:=ls),aR (by lia)];rfl
theorem vp {x:Int} (h:(x:Rat)=0):x=0:=by
 have:(x:Rat)=((0:Int):Rat):=h;exact dN.mp this
theorem Gh {x b:Int} {q:Rat} (hb:b≠0) (hq:∃z:Int,q=(z:Rat)) (e:(x:Rat)=(b:Rat)*q):((x.fdiv b:Int):Rat)=q:=by
 obtain ⟨z,rfl⟩:=hq;rw[<- aT] at e;have:=dN.mp e;rw[this,Int.mul_fdiv_cancel_left _ hb]
theorem Ae {W:Nat} {q:Rat} (h:Fr 1 W q):∃z:Int,q=(z:Rat):=by
 obtain ⟨z,e,_⟩:=h;exact ⟨z,by rw[<- e];simp⟩
theorem yW {W:Nat} {z:Int} (h:Fr 1 W (z:Rat)):z.natAbs<=W:=by
 obtain ⟨y,e,b⟩:=h;have:(z:Rat)=(y:Rat):=by rw[<- e];simp
 rw[dN.mp this];simpa using b
theorem Lp (w:∀zs∈ls,zs.length=n) (hk:k < ls.length) (hb:b≠0) {i:Nat} (hi:i < ls.length) (hz:∀c,∃z:Int,(eV ls k P*eV ls i c - eV ls i P*eV ls k c) / (b:Rat)=(z:Rat)) (c:Nat) :
  eV (EW ls k P b) i c=if i=k then eV ls k c else (eV ls k P*eV ls i c - eV ls i P*eV ls k c) / (b:Rat):=by
 by_cases e:i=k
 ·rw[if_pos e];unfold eV EW;rw[vg (by rw[ar];exact hk),if_pos e]
 ·rw[if_neg e];by_cases hc:c < n
  ·have hb':(b:Rat)≠0:=fun z=>hb (vp z)
   have lk:=w _ (getD_in (e:=[]) hk);have li:=w _ (getD_in (e:=[]) hi)
   have e1:eV (EW ls k P b) i c=(((((ls.getD k []).getD P 0*(ls.getD i []).getD c 0 - (ls.getD i []).getD P 0*(ls.getD k []).getD c 0).fdiv b:Int)):Rat):=by
    unfold EW;rw[eV,vg (by rw[ar];exact hk),if_neg e];rw[ae (l:=List.map _ ls),aK,ag hi];show ((((List.zipWith _ ls[i] (ls.getD k [])).getD c 0:Int)):Rat)=_
    have ei:ls.getD i []=ls[i]:=by rw[ae,ag hi];rfl
    rw[<- ei];rw[ae (l:=List.zipWith _ _ _),bY,ae (l:=ls.getD i []) (i:=c),ae (l:=ls.getD k []) (i:=c),ag (show c < (ls.getD i []).length by lia),ag (show c < (ls.getD k []).length by lia)];rfl
   rw[e1];refine Gh hb (hz c) ?_;rw[Rat.intCast_sub,aT,aT];show _=(b:Rat)*((eV ls k P*eV ls i c - eV ls i P*eV ls k c) / (b:Rat))
   show eV ls k P*eV ls i c - eV ls i P*eV ls k c=_
   grind
  ·rw[Bn (HV w hk) (show n<=c by lia),Bn w (i:=i) (show n<=c by lia),Bn w (i:=k) (show n<=c by lia)];grind
end
section
variable {m k n P:Nat} {a l l2:Nat->Nat->Rat} {pm p p2:Nat->Nat} {d:Rat}
theorem Ao.congr (B:Ao a m k pm p l d) (hp:∀j,j < k->p2 j=p j) (hl:∀i,i < m->∀c,l2 i c=l i c):Ao a m k pm p2 l2 d where
 inj:=B.inj
 rng:=B.rng
 km:=B.km
 d0:=B.d0
 det:=by rw[B.det,cw_congr (f:=fun j r=>a r (p j)) (g:=fun j r=>a r (p2 j)) fun j hj=>by rw[hp j hj]]
 eqs i hi c:=by
  have km:=B.km;rw[B.eqs i hi c,hl i hi c];congr 1;exact bB fun j hj=>by rw[hp j hj,hl j (by lia) c]
 unit i hi j hj:=by rw[hp j hj,hl i hi];exact B.unit i hi j hj
theorem fD.rows {x:Nat->Rat} (h:∀i,i < m->∀c,l2 i c=l i c) (hx:fD m l x):fD m l2 x:=by obtain ⟨w,hw⟩:=hx;exact ⟨w,fun c=>by rw[hw c];exact bB fun t ht=>by rw[h t ht c]⟩
theorem pW.congr (E:pW a m k P p l d) (hp:∀j,j < k->p2 j=p j) (hl:∀i,i < m->∀c,l2 i c=l i c):pW a m k P p2 l2 d where
 km:=E.km
 d0:=E.d0
 unit i hi j hj:=by rw[hp j hj,hl i hi];exact E.unit i hi j hj
 inc i j hij hj:=by rw[hp i (by lia),hp j hj];exact E.inc i j hij hj
 low j hj:=by rw[hp j hj];exact E.low j hj
 zero i h1 h2 c hc:=by rw[hl i h2];exact E.zero i h1 h2 c hc
 lead j hj c hc:=by
  have km:=E.km;rw[hp j hj] at hc;rw[hl j (by lia)];exact E.lead j hj c hc
 there i hi:=(E.there i hi).rows hl
 back i hi:=(E.back i hi).congr fun c=>(hl i hi c).symm
theorem pW.kP (E:pW a m k P p l d):k<=P:=by
 have:∀j,j < k->j<=p j:=by
  intro j
  induction j with
  | zero=>intro _;exact bD _
  | succ j ih =>
   intro hj;have:=ih (by lia);have:=E.inc j (j+1) (by lia) hj
   lia
 rcases gA k with z | z
 ·lia
 ·have h1:=this (k - 1) (by lia);have h2:=E.low (k - 1) (by lia)
  lia
end
structure CL (ls0:List (List Int)) (n P:Nat) (ls:List (List Int)) (ps:List Nat) (d:Int):Prop where
 len:ls.length=ls0.length
 wide:∀zs∈ls,zs.length=n
 bar:∃pm,Ao (eV ls0) ls0.length ps.length pm (fun j=>ps.getD j 0) (eV ls) d
 el:pW (eV ls0) ls0.length ps.length P (fun j=>ps.getD j 0) (eV ls) d
section
variable {ls0 ls:List (List Int)} {n P:Nat} {ps:List Nat} {d:Int}
theorem CL.start (w:∀zs∈ls0,zs.length=n):CL ls0 n 0 ls0 [] 1:=⟨rfl,w,⟨fun i=>i,Ao.start fun _ _=>rfl⟩,pW.start⟩
theorem CL.d0 (h:CL ls0 n P ls ps d):d≠0:=fun z=>h.el.d0 (by rw[z];rfl)
theorem CL.skip (h:CL ls0 n P ls ps d) (hz:∀i,ps.length<=i->i < ls.length->eV ls i P=0):CL ls0 n (P+1) ls ps d:=⟨h.len,h.wide,h.bar,h.el.skip fun i h1 h2=>hz i h1 (by rw[h.len];exact h2)⟩
theorem getD_snoc {l:List Nat} {x j:Nat} (hj:j < l.length+1):(l++[x]).getD j 0=if j=l.length then x else l.getD j 0:=by
 rw[ae,ae];by_cases e:j=l.length
 ·rw[if_pos e,e,aZ (ao _),fQ];rfl
 ·rw[if_neg e,bE (by lia)]
theorem CL.int {W:Nat} (h:CL ls0 n P ls ps d) (hW:1<=W) (h0:∀i,i < ls0.length->∀c,Fr 1 W (eV ls0 i c)) {t:Nat} (ht:ps.length<=t) (ht2:t < ls.length) (hne:eV ls t P≠0) :
  ∀i,i < ls.length->i≠ps.length->∀c,∃z:Int,(eV (sS ls ps.length t) ps.length P*eV (sS ls ps.length t) i c - eV (sS ls ps.length t) i P*eV (sS ls ps.length t) ps.length c) / (d:Rat)=(z:Rat):=fun i hi ne c=>by
 obtain ⟨pm,B⟩:=h.bar;have hl:=h.len;have hk:ps.length < ls.length:=by lia
 have B1:=(B.swap ht (by lia)).congr (p2:=fun j=>ps.getD j 0) (l2:=eV (sS ls ps.length t)) (fun _ _=>rfl) (fun i _ c=>yb hk ht2 i c)
 have h1:eV (sS ls ps.length t) ps.length P≠0:=by
  rw[yb hk ht2];unfold yF;rw[if_pos rfl];exact hne
 have B2:=B1.step (c0:=P) (by lia) h1;have:=B2.fr (W:=W) (N:=ps.length+2) (by lia) hW h0 (i:=i) (c:=c) (by lia);rw[if_neg ne] at this;exact Ae this
theorem CL.step {W:Nat} (h:CL ls0 n P ls ps d) (hW:1<=W) (h0:∀i,i < ls0.length->∀c,Fr 1 W (eV ls0 i c)) {t:Nat} (ht:ps.length<=t) (ht2:t < ls.length) (hne:eV ls t P≠0) :
  CL ls0 n (P+1) (EW (sS ls ps.length t) ps.length P d) (ps++[P]) (((EW (sS ls ps.length t) ps.length P d).getD ps.length []).getD P 0):=by
 obtain ⟨pm,B⟩:=h.bar;have hl:=h.len;have hk:ps.length < ls.length:=by lia
 have hz:=h.int hW h0 ht ht2 hne;have w1:=GN h.wide hk ht2;have k1:ps.length < (sS ls ps.length t).length:=by rw[yE];exact hk
 have B1:=(B.swap ht (by lia)).congr (p2:=fun j=>ps.getD j 0) (l2:=eV (sS ls ps.length t)) (fun _ _=>rfl) (fun i _ c=>yb hk ht2 i c);have E1:=(h.el.swap ht (by lia)).congr (p2:=fun j=>ps.getD j 0) (l2:=eV (sS ls ps.length t)) (fun _ _=>rfl) (fun i _ c=>yb hk ht2 i c)
 have h1:eV (sS ls ps.length t) ps.length P≠0:=by
  rw[yb hk ht2];unfold yF;rw[if_pos rfl];exact hne
 have B2:=B1.step (c0:=P) (by lia) h1
 have fc:∀i,i < ls0.length->∀c,eV (EW (sS ls ps.length t) ps.length P d) i c=if i=ps.length then eV (sS ls ps.length t) ps.length c else (eV (sS ls ps.length t) ps.length P*eV (sS ls ps.length t) i c - eV (sS ls ps.length t) i P*eV (sS ls ps.length t) ps.length c) / (d:Rat):=fun i hi c=>by
  by_cases e:i=ps.length
  ·rw[if_pos e];unfold eV EW;rw[vg (by rw[ar];exact k1),if_pos e]
  ·have:=Lp w1 k1 h.d0 (i:=i) (by rw[yE];lia) (hz i (by lia) e) c;rw[this]
 have ed:(((((EW (sS ls ps.length t) ps.length P d).getD ps.length []).getD P 0:Int)):Rat)=eV (sS ls ps.length t) ps.length P:=by
  have:=fc ps.length (by lia) P;rw[if_pos rfl] at this;exact this
 have lp:(ps++[P]).length=ps.length+1:=by rw[av];rfl
 have hp:∀j,j < ps.length+1->(ps++[P]).getD j 0=if j=ps.length then P else ps.getD j 0:=fun j hj=>getD_snoc hj
 refine ⟨by rw[LG,yE];exact hl,HV w1 k1,⟨fun i=>pm (yF ps.length t i),?_⟩,?_⟩
 ·rw[ed,lp];exact B2.congr hp fc
 ·rw[ed,lp];refine pW.congr (E1.step (d':=eV (sS ls ps.length t) ps.length P) (l':=fun i c=>if i=ps.length then eV (sS ls ps.length t) ps.length c else (eV (sS ls ps.length t) ps.length P*eV (sS ls ps.length t) i c - eV (sS ls ps.length t) i P*eV (sS ls ps.length t) ps.length c) / (d:Rat)) (by lia) h1 B2.unit fun i hi=>?_) hp fc;have d0:=h.el.d0;by_cases e:i=ps.length
  ·refine ⟨1,0,by decide,fun _=>rfl,fun c=>?_⟩;rw[if_pos e,e];grind
  ·refine ⟨eV (sS ls ps.length t) ps.length P / (d:Rat),-(eV (sS ls ps.length t) i P) / (d:Rat),?_,fun z=>absurd z e,fun c=>?_⟩
   ·intro z;apply h1;grind
   ·rw[if_neg e];grind
theorem CL.sz {W r:Nat} (h:CL ls0 n P ls ps d) (hW:1<=W) (h0:∀i,i < ls0.length->∀c,Fr 1 W (eV ls0 i c)) (hP:P<=n) (hr:min ls0.length n<=r) (r15:r<=15):(d.natAbs<=(16*W)^r)/\∀zs∈ls,∀z∈zs,z.natAbs<=(16*W)^r:=by
 obtain ⟨pm,B⟩:=h.bar;have kP:=h.el.kP;have km:=B.km;have hl:=h.len;have mono:∀{s t:Nat},s<=t->(16*W)^s<=(16*W)^t:=fun hs=>au (bW (by decide) hW) hs
 refine ⟨aj (yW (B.dfr (W:=W) (N:=16) (by lia) h0)) (mono (by lia)),fun zs hz z hz'=>?_⟩;obtain ⟨i,hi,rfl⟩:=bS hz;obtain ⟨c,hc,rfl⟩:=bS hz';have hw:=h.wide _ (aJ hi)
 have ez:eV ls i c=(((ls[i])[c]:Int):Rat):=by
  unfold eV;rw[ae (l:=ls),ag hi];show ((ls[i].getD c 0:Int):Rat)=_
  rw[ae,ag hc];rfl
 by_cases hk:i < ps.length
 ·have:Fr 1 ((16*W)^ps.length) (eV ls i c):=by
   have hd:=B.d0;rw[B.old hk]
   have:=Bo (W:=W) (N:=16) (rs:=nY pm ps.length) (vs:=Gi (fun j r=>eV ls0 r (ps.getD j 0)) i ps.length++(fun r=>eV ls0 r c) :: jr (fun j r=>eV ls0 r (ps.getD j 0)) i) (by
    have:=congrArg List.length (cw_split (v:=fun j r=>eV ls0 r (ps.getD j 0)) hk);rw[av,bP,cw_len] at this;rw[av,bP]
    lia) (by
    intro v hv r hr
    have hr':∀c,Fr 1 W (eV ls0 r c):=fun c=>by
     obtain ⟨t,ht,rfl⟩:=pG hr;exact h0 _ (B.rng t (by lia)) c
    rcases az.mp hv with hv | hv
    ·obtain ⟨t,_,rfl⟩:=EU hv;exact hr' _
    ·rcases aG.mp hv with rfl | hv
     ·exact hr' _
     ·obtain ⟨t,_,rfl⟩:=cw_in hv;exact hr' _)
   rwa [xm] at this
  rw[ez] at this;exact aj (yW this) (mono (by lia))
 ·by_cases hn:ps.length < n
  ·have:=B.fr (W:=W) (N:=16) (by lia) hW h0 (i:=i) (c:=c) (by lia);rw[ez] at this;exact aj (yW this) (mono (by lia))
  ·have:=h.el.zero i (by lia) (by lia) c (by lia);rw[ez] at this;rw[vp this];exact bD _
end
def Tp (M W:Nat) (q:Rat):Prop:=∃z:Int,q*(M:Rat)=(z:Rat)/\z.natAbs<=W
theorem Tp.of {M V W:Nat} {q:Rat} (h:Fr M V q) (hW:V*M<=W):Tp M W q:=by obtain ⟨z,a,b⟩:=h;exact ⟨z,a,aj b hW⟩
theorem Tp.mono {M W W':Nat} {q:Rat} (h:Tp M W q) (hW:W<=W'):Tp M W' q:=by obtain ⟨z,a,b⟩:=h;exact ⟨z,a,aj b hW⟩
theorem Tp.fr {M W:Nat} {q:Rat} (h:Tp M W q) (h0:0 < M):Fr M W q:=by obtain ⟨z,a,b⟩:=h;exact ⟨z,a,aj b (dn _ h0)⟩
def E6 (rows:List (List Rat)) (n w:Nat):Prop:=∃M W:Nat,0 < M/\M<=2^4300/\1<=W/\W<=2^w/\(∀xs∈rows,∀x∈xs,Tp M W x)/\w<=4300/\min rows.length n<=15/\min rows.length n*(w+4)<=8900
def kW (xs:List Rat):List Int:=fN (xs.map nm) (iE (xs.map nm))
theorem xD {xs:List Rat}:(kW xs).length=xs.length:=by unfold kW fN;rw[ar,ar]
theorem Bs {xs:List Rat}:0 < iE (xs.map nm):=Bi (by decide) fun b hb=>by
 obtain ⟨n,hn,rfl⟩:=aD.mp hb;obtain ⟨x,_,rfl⟩:=aD.mp hn;exact kB x
theorem L6 {xs:List Rat} {c:Nat}:(((kW xs).getD c 0:Int):Rat)=xs.getD c 0*((iE (xs.map nm):Int):Rat):=by
 unfold kW fN;rw[ae,ae,aK,aK];cases e:xs[c]? with
 | none=>show ((0:Int):Rat)=0*_;rw[mY];rfl
 | some x=>exact uK (vq (aD.mpr ⟨x,ay e,rfl⟩))
section
variable {rows:List (List Rat)} {n w i c:Nat} {xs:List Rat}
theorem Ea (hi:i < rows.length):eV (rows.map kW) i c=((iE ((rows.getD i []).map nm):Int):Rat)*cS rows i c:=by
 unfold eV cS
 have e:(rows.map kW).getD i []=kW (rows.getD i []):=by
  rw[ae,ae,aK,ag hi];rfl
 rw[e,L6,fj]
theorem Lm (hw:∀xs∈rows,xs.length=n) (hc:n<=c):cS rows i c=0:=by
 unfold cS;by_cases h:i < rows.length
 ·have:=hw _ (getD_in (e:=[]) h);rw[ae (l:=rows.getD i []),aR (by lia)];rfl
 ·rw[ae (l:=rows),aR (by lia)];rfl
theorem GD (i:Nat) (hi:i < rows.length):fD rows.length (eV (rows.map kW)) (cS rows i):=by
 have h0:((iE ((rows.getD i []).map nm):Int):Rat)≠0:=fun z=>by
  have:=Bs (xs:=rows.getD i []);have:=vp z
  lia
 refine fD.congr (fun c=>?_) (fD.lin (1 / ((iE ((rows.getD i []).map nm):Int):Rat)) 0 (fD.row (a:=eV (rows.map kW)) hi) (fD.row (a:=eV (rows.map kW)) hi));rw[Ea hi];grind
theorem GC (i:Nat) (hi:i < rows.length):fD rows.length (cS rows) (eV (rows.map kW) i):=by
 refine fD.congr (fun c=>?_) (fD.lin ((iE ((rows.getD i []).map nm):Int):Rat) 0 (fD.row (a:=cS rows) hi) (fD.row (a:=cS rows) hi));rw[Ea hi];grind
theorem Aw {M W:Nat} {x:Rat} (h:Tp M W x):(nm x).2∣(M:Int):=by
 obtain ⟨z,e,b⟩:=h
 exact Fr.den (V:=z.natAbs) (M:=M) ⟨z,e,by
  rcases gA M with h | h
  ·subst h;have:(z:Rat)=0:=by rw[<- e];simp
   rw[vp this];simp
  ·exact dn _ h⟩
theorem CU {M W:Nat} {x:Rat} (h:Tp M W x) (h0:0 < M) {B:Int} (hB:0 < B) (d1:(nm x).2∣B) (d2:B∣(M:Int)):∃t:Int,x*(B:Rat)=(t:Rat)/\t.natAbs<=W:=by
 obtain ⟨z,e,b⟩:=h;obtain ⟨s,es⟩:=d2;refine ⟨(nm x).1*(B / (nm x).2),(uK d1).symm,?_⟩
 have s0:0 < s:=by
  rcases Int.lt_trichotomy s 0 with h | h | h
  ·have:=Int.mul_neg_of_pos_of_neg hB h
   lia
  ·rw[h] at es;lia
  ·exact h
 have e2:(((nm x).1*(B / (nm x).2)*s:Int):Rat)=(z:Rat):=by
  rw[aT,uK d1,<- e,<- aQ,es,aT];grind
 have e3:=dN.mp e2;have:((nm x).1*(B / (nm x).2)).natAbs*s.natAbs=z.natAbs:=by rw[<- cY,e3]
 have h1:1<=s.natAbs:=by lia
 have:=dn ((nm x).1*(B / (nm x).2)).natAbs h1
 lia
theorem HW {M W:Nat} (h0:0 < M) (h:∀x∈xs,Tp M W x):iE (xs.map nm)∣(M:Int):=Ab (by decide) (Int.one_dvd _) fun b hb=>by
 obtain ⟨n,hn,rfl⟩:=aD.mp hb;obtain ⟨x,hx,rfl⟩:=aD.mp hn;exact ⟨kB x,Aw (h x hx)⟩
theorem E6.rowM (F:E6 rows n w) (hx:xs∈rows):∃M,Gv M (xs.map nm):=by
 obtain ⟨M,W,h0,h1,hW,h2,h3,h4,_⟩:=F;refine ⟨M,by lia,?_,fun y hy=>?_⟩
 ·show ((M:Nat):Int).natAbs < 2^4400
  rw[ck];exact bG h1 (dX (by decide) (by decide))
 ·obtain ⟨x,hx',rfl⟩:=aD.mp hy;have t:=h3 xs hx x hx';refine ⟨kB x,Aw t,?_⟩;obtain ⟨s,e,b⟩:=CU t h0 (kB x) (Int.dvd_refl _) (Aw t);have e2:(((nm x).1:Int):Rat)=(s:Rat):=by rw[<- e];exact td x
  rw[dN.mp e2];exact bG (aj b h2) (dX (by decide) (by lia))
theorem E6.ent (F:E6 rows n w):∃W:Nat,1<=W/\W<=2^w/\∀i,i < (rows.map kW).length->∀c,Fr 1 W (eV (rows.map kW) i c):=by
 obtain ⟨M,W,h0,h1,hW,h2,h3,h4,_⟩:=F;refine ⟨W,hW,h2,fun i hi c=>?_⟩;rw[ar] at hi;have hx:=getD_in (e:=[]) hi;rw[Ea hi];unfold cS;generalize rows.getD i []=xs at hx ⊢;by_cases hc:c < xs.length
 ·have t:=h3 xs hx _ (getD_in (e:=0) hc);obtain ⟨s,e,b⟩:=CU t h0 (Bs (xs:=xs)) (vq (aD.mpr ⟨_,getD_in (e:=0) hc,rfl⟩)) (HW h0 (h3 xs hx));rw[fj,e];exact Fr.int b
 ·rw[ae,aR (by lia)];show Fr 1 W (_*0)
  rw[mZ];exact Fr.zero
end
def cM (rows:List (List Rat)) (n:Nat) (R:List (List Rat)) (ps:List Nat):Prop:=R.length=ps.length/\(∀xs∈R,xs.length=n)/\E7 rows.length n (cS rows) ps.length (fun j=>ps.getD j 0) (cS R)
structure RQ (rows:List (List Rat)) (n w:Nat) (R:List (List Rat)) (ps:List Nat) (d:Int) (ls:List (List Int)):Prop where
 rr:cM rows n R ps
 d0:d≠0
 len:ls.length=ps.length
 wide:∀zs∈ls,zs.length=n
 val:∀i c,eV ls i c=(d:Rat)*cS R i c
 dsz:d.natAbs<=2^(min rows.length n*(w+4))
 zsz:∀zs∈ls,∀z∈zs,z.natAbs<=2^(min rows.length n*(w+4))
 tp:∀xs∈R,∀x∈xs,Tp d.natAbs (2^(min rows.length n*(w+4))) x
 km:ps.length<=rows.length
theorem E7.congrR {m n k:Nat} {a R R2:Nat->Nat->Rat} {p:Nat->Nat} (h:E7 m n a k p R) (hr:∀i,i < k->∀c,R2 i c=R i c):E7 m n a k p R2 :=
 ⟨h.inc,h.low,fun i hi j hj=>by rw[hr i hi];exact h.unit i hi j hj,fun i hi c hc=>by rw[hr i hi];exact h.lead i hi c hc,fun i hi=>(h.span i hi).rows hr,fun i hi=>(h.back i hi).congr fun c=>(hr i hi c).symm⟩
theorem E7.other {m m' n k:Nat} {a a' R:Nat->Nat->Rat} {p:Nat->Nat} (h:E7 m n a k p R) (s1:∀i,i < m->fD m' a' (a i)) (s2:∀i,i < m'->fD m a (a' i)):E7 m' n a' k p R :=
 ⟨h.inc,h.low,h.unit,h.lead,fun i hi=>fD.trans h.span (s2 i hi),fun i hi=>fD.trans s1 (h.back i hi)⟩
theorem FH {W w r : Nat} (h : W ≤ 2 ^ w) : (16 * W) ^ r ≤ 2 ^ (r * (w + 4)) := by
  calc (16 * W) ^ r ≤ (2 ^ (w + 4)) ^ r := jg (by rw [bf]; lia) _
    _ = 2 ^ (r * (w + 4)) := by rw [<- yz, b7]
theorem CL.done {rows:List (List Rat)} {n w:Nat} {ls:List (List Int)} {ps:List Nat} {d:Int} (h:CL (rows.map kW) n n ls ps d) (hw:∀xs∈rows,xs.length=n) (F:E6 rows n w) :
  ∃R,RQ rows n w R ps d (ls.take ps.length):=by
 obtain ⟨W,hW,W2,ent⟩:=F.ent;obtain ⟨_,_,_,_,_,_,_,_,r15,_⟩:=F;have hl:=h.len;have d0:=h.d0;have d0':(d:Rat)≠0:=fun z=>d0 (vp z)
 have km:=h.el.km;have hm:(rows.map kW).length=rows.length:=ar ..;obtain ⟨s1,s2⟩:=h.sz (r:=min rows.length n) hW ent (ao _) (by rw[hm];exact ao _) r15;have s2':∀zs∈ls,∀z∈zs,z.natAbs<=2^(min rows.length n*(w+4)):=fun zs hz z hz'=>aj (s2 zs hz z hz') (FH W2)
 have er:∀i c,cS ((ls.take ps.length).map fun zs=>zs.map fun (z:Int)=>(z:Rat) / (d:Rat)) i c=eV (ls.take ps.length) i c / (d:Rat):=fun i c=>by
  unfold cS eV;rw[ae (l:=List.map _ _),aK,ae (l:=List.take _ _)];cases e:(ls.take ps.length)[i]? with
  | none=>show (0:Rat)=((0:Int):Rat) / _;grind
  | some zs =>
   show (zs.map fun (z:Int)=>(z:Rat) / (d:Rat)).getD c 0=((zs.getD c 0:Int):Rat) / (d:Rat)
   rw[ae,ae,aK];cases e2:zs[c]? with
   | none=>show (0:Rat)=((0:Int):Rat) / _;grind
   | some z=>rfl
 have et:∀i,i < ps.length->∀c,eV (ls.take ps.length) i c=eV ls i c:=fun i hi c=>by
  unfold eV;rw[ae (l:=List.take _ _),yC hi,<- ae]
 have RR:=(h.el.done fun i hi c hc=>Bn (n:=n) (fun zs hz=>by
  obtain ⟨xs,hx,rfl⟩:=aD.mp hz;rw[xD];exact hw xs hx) hc).congrR (R2:=cS ((ls.take ps.length).map fun zs=>zs.map fun (z:Int)=>(z:Rat) / (d:Rat))) fun i hi c=>by rw[er,et i hi]
 rw[hm] at RR;refine ⟨(ls.take ps.length).map fun zs=>zs.map fun (z:Int)=>(z:Rat) / (d:Rat),⟨by rw[ar,cO];lia,fun xs hx=>?_,RR.other GC GD⟩,d0,by rw[cO];lia,fun zs hz=>h.wide zs (cz hz),fun i c=>?_,aj s1 (FH W2),fun zs hz=>s2' zs (cz hz),fun xs hx x hx'=>?_,by lia⟩
 ·obtain ⟨zs,hz,rfl⟩:=aD.mp hx;rw[ar];exact h.wide zs (cz hz)
 ·rw[er];grind
 ·obtain ⟨zs,hz,rfl⟩:=aD.mp hx;obtain ⟨z,hz',rfl⟩:=aD.mp hx';have b:=s2' zs (cz hz) z hz';rcases P8 d with e | e
  ·refine ⟨z,?_,b⟩;have:((d.natAbs:Nat):Rat)=(d:Rat):=by rw[<- aQ,<- e]
   rw[this];grind
  ·refine ⟨-z,?_,by rw[xi];exact b⟩;have:((d.natAbs:Nat):Rat)=-(d:Rat):=by rw[<- aQ,<- dM];congr 1;lia
   rw[this,dM];grind
theorem Ln {R R':List (List Rat)} {n:Nat} (hl:R.length=R'.length) (w1:∀xs∈R,xs.length=n) (w2:∀xs∈R',xs.length=n) (h:∀i,i < R.length->∀c,cS R i c=cS R' i c):R=R':=by
 apply eY hl;intro i h1 h2;apply eY (by rw[w1 _ (aJ h1),w2 _ (aJ h2)]);intro c h3 h4;have:=h i h1 c;unfold cS at this;rw[ae (l:=R),ae (l:=R'),ag h1,ag h2] at this;have this:(R[i]).getD c 0=(R'[i]).getD c 0:=this;rw[ae,ae,ag h3,ag h4] at this;exact this
theorem cM.uniq {rows rows' R R':List (List Rat)} {n:Nat} {ps ps':List Nat} (h:cM rows n R ps) (h':cM rows' n R' ps') (s1:∀i,i < rows.length->fD rows'.length (cS rows') (cS rows i)) (s2:∀i,i < rows'.length->fD rows.length (cS rows) (cS rows' i)):R=R'/\ps=ps':=by
 obtain ⟨l1,w1,r1⟩:=h;obtain ⟨l2,w2,r2⟩:=h';obtain ⟨ek,ep,eR⟩:=r1.uniq r2 s1 s2;refine ⟨Ln (by lia) w1 w2 fun i hi c=>eR i (by lia) c,?_⟩;apply eY ek;intro j h1 h2;have:=ep j h1;rw[ae,ae,ag h1,ag h2] at this;exact this
theorem cM.same {rows R R':List (List Rat)} {n:Nat} {ps ps':List Nat} (h:cM rows n R ps) (h':cM rows n R' ps'):R=R'/\ps=ps':=h.uniq h' (fun _ hi=>fD.row hi) (fun _ hi=>fD.row hi)
open PySem PySem.Spec PyProof.Rows
def Ic (l:Addr) (H:Hp) (zs:List Int) (v:V):Prop:=∃q,v=V.ref q/\q≠l/\H q=some (.lst (zs.map V.int))
def vB (l:Addr) (H:Hp) (p:Addr) (ls:List (List Int)):Prop:=p≠l/\∃xs,H p=some (.lst xs)/\Paired (Ic l H) ls xs
theorem Ic.same {l:Addr} {H H':Hp} {zs:List Int} {v:V} (h:Ic l H zs v) (e:aL H H'):Ic l H' zs v:=by obtain ⟨q,a,n,b⟩:=h;exact ⟨q,a,n,e _ _ b⟩
theorem Ic.upd {l:Addr} {H:Hp} {zs:List Int} {v:V} {o:HO} (h:Ic l H zs v):Ic l (upd H l o) zs v:=by obtain ⟨q,a,n,b⟩:=h;exact ⟨q,a,n,by rw[bI n];exact b⟩
theorem vB.upd {l:Addr} {H:Hp} {p:Addr} {ls:List (List Int)} {o:HO} (h:vB l H p ls):vB l (upd H l o) p ls:=by obtain ⟨n,xs,a,b⟩:=h;exact ⟨n,xs,by rw[bI n];exact a,Paired.imp' (fun _ _ z=>z.upd) b⟩
theorem ne_old {H:Hp} {l r:Addr} (h:H l≠none) (n:H r=none):r≠l:=fun z=>h (by rw[<- z];exact n)
theorem lG {α β:Type} {F:α->β->Prop}:∀{l1:List α} {l2:List β} (_:Paired F l1 l2) (i:Nat) {x:α} {y:β},F x y->Paired F (l1.set i x) (l2.set i y)
 | _,_,.nil,_,_,_,_=>.nil
 | _,_,.cons _ r,0,_,_,h=>.cons h r
 | _,_,.cons a r,i+1,_,_,h=>.cons a (lG r i h)
theorem JT {ls:List (List Int)} {i c:Nat} {zs:List Int} (h:ls[i]?=some zs):eV ls i c=((zs.getD c 0:Int):Rat):=by
 unfold eV;rw[ae (l:=ls),h];rfl
theorem Rv {z:Int}:((z:Int):Rat)≠0↔z≠0:=⟨fun h e=>h (by rw[e];rfl),fun h e=>h (vp e)⟩
theorem Au {zs:List Int} {c:Nat} (h:c < zs.length):Gn (zs.map V.int) (c:Int)=some (V.int (zs.getD c 0)):=eC (by rw[aK,ae,ag h];rfl)
def IJ:Sp:=fun vs H Q _=>∃(l p:Addr) (ls:List (List Int)) (b c:Nat),vs=[.ref p,.int b,.int c]/\vB l H p ls/\ls.length<=1000/\b<=1000/\(∀zs∈ls,c < zs.length)/\(∀t:Nat,b<=t->t < ls.length->eV ls t c≠0->Q (.int t) H)/\((∀t,b<=t->t < ls.length->eV ls t c=0)->Q .non H)
def Ek:Sp:=fun vs H Q _=>∃(l p:Addr) (ls:List (List Int)) (t k:Nat),vs=[.ref p,.int t,.int k]/\H l≠none/\vB l H p ls/\ls.length<=1000/\t < ls.length/\k < ls.length/\∀r H',H r=none->aL H H'->vB l H' r (sS ls k t)->Q (.ref r) H'
def IK:Sp:=fun vs H Q _=>∃(l p:Addr) (ls:List (List Int)) (k c n:Nat) (b:Int),vs=[.ref p,.int k,.int c,.int b]/\H l≠none/\vB l H p ls/\ls.length<=1000/\k < ls.length/\(∀zs∈ls,zs.length=n)/\n<=1000/\c < n/\b≠0/\Sz 8999 b/\(∀zs∈ls,∀z∈zs,Sz 8999 z)/\∀r H',H r=none->aL H H'->vB l H' r (EW ls k c b)->Q (.ref r) H'
theorem KI (K:PySem.W.Frag) {X:Cx} {a b:Expr} {ta:TA} {p pos tpos:Pos} {elts:List Expr} {kk:Nat} (hg:Gl X "zip") (hm:X.mg "zip"=none) (ha:PA X [a,b] ta) (hK:X.K=K:=by rfl) (hs:starEach [a,b] X.env=[(false,eval a X.env),(false,eval b X.env)]:=by rfl) (hs2:starEach [b] X.env=[(false,eval b X.env)]:=by rfl) :
  PI X (.Tuple elts kk tpos) (.Call (.Name "zip" p) [a,b] [] pos) (Pj K ta):=by subst hK;exact vO hg hm ha hs hs2
def nE (ps:List Nat):List V:=ps.map fun (j:Nat)=>V.int (j:Int)
def Iv (K:PySem.W.Frag):Sp:=fun vs H Q _=>∃(p:Addr) (n w:Nat) (H0:Hp) (rows:List (List Rat)),vs=[.ref p,.int n]/\bR K H0 H p rows/\rows.length<=100/\n<=100/\(∀xs∈rows,xs.length=n)/\E6 rows n w /\
 ∀t lp qp R ps d ls H',H' t=some (.tup [.ref lp,.ref qp])->H' qp=some (.lst (nE ps))->vB qp H' lp ls->aL H H'->RQ rows n w R ps d ls->Q (.ref t) H'
def Ej (K:PySem.W.Frag):Sp:=fun vs H Q _=>∃(p:Addr) (n w:Nat) (H0:Hp) (rows:List (List Rat)),vs=[.ref p,.int n]/\bR K H0 H p rows/\rows.length<=100/\n<=100/\(∀xs∈rows,xs.length=n)/\E6 rows n w /\
 ∀r R ps M H',H r=none->aL H H'->bR K H H' r R->cM rows n R ps->ps.length<=rows.length->0 < M->M<=2^(min rows.length n*(w+4))->(∀xs∈R,∀x∈xs,Tp M (2^(min rows.length n*(w+4))) x)->Q (.ref r) H'
def JA (rows:List (List Rat)) (i:Nat):Rat:=((iE ((rows.getD i []).map nm):Int):Rat)
structure LwI (rows:List (List Rat)) (n P:Nat) (rs:List (List Rat)) (ps:List Nat):Prop where
 len:rs.length=rows.length
 wide:∀xs∈rs,xs.length=n
 ex:∃pm l d,Ao (eV (rows.map kW)) rows.length ps.length pm (fun j=>ps.getD j 0) l d/\pW (eV (rows.map kW)) rows.length ps.length P (fun j=>ps.getD j 0) l d/\∀i,i < rows.length->∀c,cS rs i c=l i c / (d*if i < ps.length then 1 else JA rows (pm i))
section
variable {rows rs rs':List (List Rat)} {n P w a:Nat} {ps:List Nat}
end
theorem Om {M W:Nat} {x:Rat} (h:Tp M W x) (h0:0 < M) (h1:M<=2^3995) (h2:W<=2^3995):rW x:=by
 refine ⟨?_,?_⟩
 ·obtain ⟨s,e,b⟩:=CU h h0 (kB x) (Int.dvd_refl _) (Aw h);have e2:(((nm x).1:Int):Rat)=(s:Rat):=by rw[<- e];exact td x
  rw[dN.mp e2];exact bG (aj b h2) (dX (by decide) (by decide))
 ·have:=kg h0 (zT.mp (Aw h));show ((x.den:Nat):Int).natAbs < _
  rw[ck];exact bG (aj this h1) (dX (by decide) (by decide))
theorem Tp.mul {M W M' W':Nat} {x y:Rat} (h:Tp M W x) (h':Tp M' W' y):Tp (M*M') (W*W') (x*y):=by
 obtain ⟨z,e,b⟩:=h;obtain ⟨z',e',b'⟩:=h';refine ⟨z*z',?_,by rw[cY];exact aF b b'⟩;rw[aT,<- e,<- e',eJ];grind
def Ce (K:PySem.W.Frag):Sp:=fun vs H Q _=>∃(p q:Addr) (xs ys:List Rat),vs=[.ref p,.ref q]/\cw K H p xs/\cw K H q ys/\ys.length=xs.length/\xs.length<=1000/\(∀x∈xs,rW x)/\(∀y∈ys,rW y) /\
 ∀r H',H r=none->aL H H'->cw K H' r (List.zipWith (fun x y=>x - y) xs ys)->Q (.ref r) H'
theorem Fg {xs ys:List Rat} (h:ys.length=xs.length):List.zipWith (fun x y=>x - y) xs ys=(List.range xs.length).map fun i=>xs.getD i 0 - ys.getD i 0:=by
 apply il;intro i;rw[bY,aK];by_cases hi:i < xs.length
 ·rw[dC hi,ag hi,ag (show i < ys.length by lia)];simp [ae,ag hi,ag (show i < ys.length by lia)]
 ·rw[aR (show (List.range xs.length).length<=i by simp;lia),aR (show xs.length<=i by lia)];rfl
theorem yV {K:PySem.W.Frag} {H0 H H':Hp} {q:Addr} {rows:List (List Rat)} {vs:List V} (pr:Paired (dB K H0 H) rows vs) (s:aL H H') (n:H q=none) (g:H' q=some (.lst vs)):bR K H0 H' q rows :=
 ⟨vs,g,Paired.imp' (fun _ _ z=>z.same s) pr,fun z=>by
  obtain ⟨_,_,q',e,_,_,g',_⟩:=dd pr z;cases e;rw[n] at g';cases g'⟩
theorem cM.le {rows R:List (List Rat)} {n:Nat} {ps:List Nat} (h:cM rows n R ps):ps.length<=n:=by
 obtain ⟨_,_,rr⟩:=h;rcases cR n ps.length with z | z
 ·have inc:∀j,j < ps.length->j<=ps.getD j 0:=by
   intro j
   induction j with
   | zero=>intro _;exact bD _
   | succ j ih =>
    intro hj;have:=ih (by lia);have:=rr.inc j (j+1) (by lia) hj
    lia
  have h1:=inc (ps.length - 1) (by lia);have h2:=rr.low (ps.length - 1) (by lia)
  lia
 ·exact z
theorem Tp.zero {M W:Nat}:Tp M W 0:=⟨0,by simp,by simp⟩
theorem Tp.add {M W W':Nat} {x y:Rat} (h:Tp M W x) (h':Tp M W' y):Tp M (W+W') (x+y):=by
 obtain ⟨z,e,b⟩:=h;obtain ⟨z',e',b'⟩:=h';refine ⟨z+z',?_,aj (Int.natAbs_add_le _ _) (Nat.add_le_add b b')⟩;rw[BF,<- e,<- e'];grind
theorem Tp.sum {M W:Nat} {f:Nat->Rat}:∀{k:Nat},(∀j,j < k->Tp M W (f j))->Tp M (k*W) (bX k f)
 | 0,_=>Tp.zero
 | k+1,h=>by
  have:=(Tp.sum (k:=k) fun j hj=>h j (by lia)).add (h k (by lia));exact this.mono (by rw[dA];exact ao _)
theorem lW {M W:Nat} {xs:List Rat} (h:∀x∈xs,Tp M W x) (c:Nat):Tp M W (xs.getD c 0):=by
 by_cases hc:c < xs.length
 ·exact h _ (getD_in hc)
 ·rw[ae,aR (by lia)];exact Tp.zero
theorem P9 {M W:Nat} {R:List (List Rat)} (h:∀xs∈R,∀x∈xs,Tp M W x) (i c:Nat):Tp M W (cS R i c):=by
 unfold cS;by_cases hi:i < R.length
 ·exact lW (h _ (getD_in hi)) c
 ·rw[ae (l:=R),aR (by lia)];exact Tp.zero
theorem AU {α β:Type} {F:α->β->Prop}:∀{l1:List α} {l2:List β},Paired F l1 l2->Paired F l1.reverse l2.reverse
 | _,_,.nil=>.nil
 | _,_,.cons a r=>by rw[yB,yB];exact b6 (AU r) (.cons a .nil)
theorem Lc {j:Nat} {ps:List Nat}:Rk (.int (j:Int)) (nE ps)=decide (j∈ps):=by
 unfold Rk nE;rw[List.any_map,o5,List.any_eq_true,decide_eq_true_iff];constructor
 ·rintro ⟨x,hx,e⟩;have e:((x:Int) == (j:Int))=true:=e;have:(x:Int)=j:=by simpa using e
  have:x=j:=by lia
  rw[<- this];exact hx
 ·intro h;exact ⟨j,h,by show ((j:Int) == (j:Int))=true;simp⟩
theorem Jj {ps:List Nat}:(nE ps).all yc=true:=by
 unfold nE;rw[List.all_map];exact sR.mpr fun _ _=>rfl
theorem KS {ps:List Nat}:(nE ps).length=ps.length:=ar ..
theorem Na {ps:List Nat} {i:Nat} {v:V} (h:(nE ps)[i]?=some v):∃j,ps[i]?=some j/\v=V.int (j:Int):=by
 unfold nE at h;rw[aK] at h;cases e:ps[i]? with
 | none=>rw[e] at h;cases h
 | some x=>rw[e] at h;exact ⟨x,rfl,(cm h).symm⟩
section
variable {R rows:List (List Rat)} {ps:List Nat} {n a j:Nat}
theorem fG:∀{xs ys:List Rat},xs.length=ys.length->dh xs ys=bX xs.length fun c=>xs.getD c 0*ys.getD c 0:=by
 intro xs ys h
 have key:∀k,k<=xs.length->dh (xs.take k) (ys.take k)=bX k fun c=>xs.getD c 0*ys.getD c 0:=by
  intro k
  induction k with
  | zero=>intro _;rfl
  | succ k ih =>
   intro hk;rw[Cu (by lia) (by lia),ih (by lia)];rfl
 have:=key xs.length (ao _);rwa [aH (ao _),aH (by lia)] at this
end
theorem HN {q:Rat} (h:q.den<=9):q.den∣2520:=by
 have:=q.den_pos;generalize q.den=d at h this;have:d=1\/d=2\/d=3\/d=4\/d=5\/d=6\/d=7\/d=8\/d=9:=by lia
 rcases this with rfl | rfl | rfl | rfl | rfl | rfl | rfl | rfl | rfl <;> decide
theorem Lx {q:Rat} {M:Nat} (h:Dr 9 q) (hM:2520∣M):Fr M 9 q:=(Fr.own q h.1).dvd (gh (HN h.2) hM)
def df (rows:List (List Rat)) (due:List Rat):List (List Rat):=List.zipWith (fun row d=>row++[d]) rows due
def xH (R:List (List Rat)) (ps:List Nat) (n j:Nat):List Rat:=(List.range n).map fun c=>bX j fun i=>if ps.getD i 0=c then cS R i n else 0
def ip (R:List (List Rat)) (ps:List Nat) (n:Nat):List Rat:=xH R ps n ps.length
section
variable {rows R:List (List Rat)} {due xs:List Rat} {ps:List Nat} {n j:Nat}
theorem rM (h:due.length=rows.length):(df rows due).length=rows.length:=by unfold df;rw[b9];lia
theorem ya (h:∀xs∈rows,xs.length=n):∀xs∈df rows due,xs.length=n+1:=fun xs hx=>by
 unfold df at hx;obtain ⟨i,hi,rfl⟩:=bS hx;rw[fu,av,h _ (aJ _)];rfl
theorem NU {i:Nat} {row:List Rat} {d:Rat} (h1:rows[i]?=some row) (h2:due[i]?=some d):(df rows due)[i]?=some (row++[d]):=by
 unfold df;rw[bY,h1,h2]
theorem zB (hd:due.length=rows.length) (hw:∀xs∈rows,xs.length=n) {i:Nat} (hi:i < rows.length):(∀c,c < n->cS (df rows due) i c=cS rows i c)/\cS (df rows due) i n=due.getD i 0:=by
 have e1:=ag hi;have e2:=ag (show i < due.length by lia);have ej:=NU e1 e2;have wi:=hw _ (aJ hi);refine ⟨fun c hc=>?_,?_⟩
 ·unfold cS;rw[ae (l:=df rows due),ej,ae (l:=rows),e1];show (rows[i]++[due[i]]).getD c 0=(rows[i]).getD c 0
  rw[ae,ae,bE (by lia)]
 ·unfold cS;rw[ae (l:=df rows due),ej,ae (l:=due),e2];show (rows[i]++[due[i]]).getD n 0=due[i]
  rw[ae,aZ (by lia),wi,fQ];rfl
theorem kZ:(xH R ps n j).length=n:=by unfold xH;rw[ar,cK]
theorem Kl {c:Nat} (h:c < n):(xH R ps n j).getD c 0=bX j fun i=>if ps.getD i 0=c then cS R i n else 0:=by
 unfold xH;rw[ae,aK,dC h];rfl
theorem Mh:xH R ps n 0=List.replicate n 0:=by
 unfold xH;show (List.range n).map (fun _=>(0:Rat))=_
 rw[uI,cK]
theorem Mi {J:List (List Rat)} (RR:cM J (n+1) R ps) (hj:j < ps.length):(xH R ps n j).set (ps.getD j 0) (cS R j n)=xH R ps n (j+1):=by
 obtain ⟨_,_,rr⟩:=RR;apply eY (by rw[dP,kZ,kZ]);intro c h1 h2;rw[kZ] at h2;have e1:(xH R ps n j)[c]'(by rw[kZ];exact h2)=bX j fun i=>if ps.getD i 0=c then cS R i n else 0:=by simp only[xH,zS,List.getElem_range]
 have e2:(xH R ps n (j+1))[c]'(by rw[kZ];exact h2)=bX j (fun i=>if ps.getD i 0=c then cS R i n else 0)+if ps.getD j 0=c then cS R j n else 0:=by simp only[xH,zS,List.getElem_range];rfl
 rw[List.getElem_set,e2];by_cases q:ps.getD j 0=c
 ·rw[if_pos q,if_pos q,dH fun i hi=>?_,Rat.zero_add];rw[if_neg];intro z;have:=rr.inc i j hi hj
  lia
 ·rw[if_neg q,if_neg q,e1,nh]
theorem Mj {c:Nat} (hp:c∉ps):(ip R ps n).getD c 0=0:=by
 by_cases hc:c < n
 ·unfold ip;rw[Kl hc,dH fun i hi=>?_];rw[if_neg (fun z=>hp (by rw[<- z];exact getD_in hi))]
 ·rw[ae,aR (by unfold ip;rw[kZ];lia)];rfl
theorem Fw (hd:due.length=rows.length) (hw:∀xs∈rows,xs.length=n) (RR:cM (df rows due) (n+1) R ps) (hn:n∉ps) {i:Nat} {row:List Rat} (hr:rows[i]?=some row):dh row (ip R ps n)=due.getD i 0:=by
 obtain ⟨_,_,rr⟩:=RR;have hi:=(aI.mp hr).1;have wr:=hw row (ay hr);have ef:∀c,cS rows i c=row.getD c 0:=fun c=>by unfold cS;rw[ae (l:=rows),hr];rfl
 obtain ⟨f1,f2⟩:=zB hd hw hi
 have low:∀j,j < ps.length->ps.getD j 0 < n:=fun j hj=>by
  have:=rr.low j hj;have:ps.getD j 0≠n:=fun z=>hn (by rw[<- z];exact getD_in hj)
  lia
 have co:=rr.coef (rr.span i (by rw[rM hd];exact hi)) n;rw[f2] at co;rw[co,fG (by unfold ip;rw[kZ,wr]),wr]
 have e1:bX n (fun c=>row.getD c 0*(ip R ps n).getD c 0)=bX n (fun c=>bX ps.length fun j=>if ps.getD j 0=c then row.getD (ps.getD j 0) 0*cS R j n else 0):=by
  refine bB fun c hc=>?_
  unfold ip;rw[Kl hc,<- dk];refine bB fun j _=>?_
  split
  ·rename_i q;rw[q]
  ·grind
 rw[e1,<- jM];refine bB fun j hj=>?_
 rw[js (i:=ps.getD j 0) (low j hj) fun c _ ne=>if_neg fun z=>ne z.symm,if_pos rfl,f1 _ (low j hj),ef]
theorem El (hd:due.length=rows.length) (hw:∀xs∈rows,xs.length=n) (RR:cM (df rows due) (n+1) R ps) (hn:n∈ps):∃w:Nat->Rat,(∀c,c < n->bX rows.length (fun i=>w i*cS rows i c)=0)/\bX rows.length (fun i=>w i*due.getD i 0)=1:=by
 obtain ⟨_,_,rr⟩:=RR;obtain ⟨j,hj,ej⟩:=bS hn;have ejD:ps.getD j 0=n:=by rw[ae,ag hj];exact ej
 obtain ⟨w,hw'⟩:=rr.back j hj;rw[rM hd] at hw';refine ⟨w,fun c hc=>?_,?_⟩
 ·have z:=rr.lead j hj c (by rw[ejD];exact hc);rw[hw' c] at z;rw[<- z];exact bB fun i hi=>by rw[(zB hd hw hi).1 c hc]
 ·have u:=rr.unit j hj j hj;rw[if_pos rfl,ejD,hw' n] at u;rw[<- u];exact bB fun i hi=>by rw[(zB hd hw hi).2]
theorem OB (hd:due.length=rows.length) (hw:∀xs∈rows,xs.length=n) (RR:cM (df rows due) (n+1) R ps) {x:Nat->Rat} (hx:∀i,i < rows.length->bX n (fun c=>cS rows i c*x c)=due.getD i 0):n∉ps:=fun hn=>by
 obtain ⟨w,h1,h2⟩:=El hd hw RR hn
 have e1:bX rows.length (fun i=>w i*due.getD i 0)=bX rows.length (fun i=>bX n fun c=>x c*(w i*cS rows i c)):=bB fun i hi=>by
  rw[<- hx i hi,<- dk];exact bB fun c _=>by grind
 have e2:bX n (fun c=>bX rows.length fun i=>x c*(w i*cS rows i c))=0:=dH fun c hc=>by
  rw[dk,h1 c hc];grind
 rw[e1,jM,e2] at h2;exact absurd h2 (by decide)
theorem Qp {M W:Nat} (h0:0 < M) (tp:∀xs∈R,∀x∈xs,Tp M W x) {J:List (List Rat)} (RR:cM J (n+1) R ps):∀x∈ip R ps n,Tp M W x:=fun x hx=>by
 obtain ⟨_,_,rr⟩:=RR;obtain ⟨c,hc,rfl⟩:=aD.mp hx;by_cases hp:∃j,j < ps.length/\ps.getD j 0=c
 ·obtain ⟨j,hj,e⟩:=hp;rw[js hj fun i hi ne=>if_neg fun z=>?_,if_pos e]
  ·exact P9 tp j n
  ·rcases yA i j with q | q | q
   ·have:=rr.inc i j q hj;lia
   ·exact ne q
   ·have:=rr.inc j i q hi;lia
 ·rw[dH fun j hj=>if_neg fun z=>hp ⟨j,hj,z⟩];exact Tp.zero
end
def Fo (K:PySem.W.Frag):Sp:=fun vs H Q _=>∃(p q:Addr) (n w:Nat) (H0:Hp) (rows:List (List Rat)) (due:List Rat),vs=[.ref p,.int n,.ref q]/\bR K H0 H p rows/\cw K H q due/\due.length=rows.length/\rows.length<=99/\n<=99/\(∀xs∈rows,xs.length=n)/\E6 (df rows due) (n+1) w /\
 (∀x R ps M H',cM (df rows due) (n+1) R ps->n∉ps->H x=none->aL H H'->cw K H' x (ip R ps n)->0 < M->M<=2^(min rows.length (n+1)*(w+4))->(∀y∈ip R ps n,Tp M (2^(min rows.length (n+1)*(w+4))) y)->Q (.ref x) H') /\
 (∀R ps H',cM (df rows due) (n+1) R ps->n∈ps->aL H H'->Q .non H')
def JZ (rows:List (List Rat)) (n:Nat) (due:List Rat):List (List Rat):=df (cW rows n++[due]) (List.replicate n 0++[1])
def Iy (K:PySem.W.Frag):Sp:=fun vs H Q _=>∃(p q:Addr) (n w w':Nat) (H0:Hp) (rows:List (List Rat)) (due:List Rat),vs=[.ref p,.int n,.ref q]/\bR K H0 H p rows/\cw K H q due/\due.length=rows.length/\rows.length<=90/\n<=90/\(∀xs∈rows,xs.length=n)/\E6 (df rows due) (n+1) w/\E6 (JZ rows n due) (rows.length+1) w' /\
 (∀t x R ps M H',cM (df rows due) (n+1) R ps->n∉ps->H' t=some (.tup [.str (Str.ofString "yes"),.ref x])->H x=none->aL H H'->cw K H' x (ip R ps n)->0 < M->M<=2^(min rows.length (n+1)*(w+4))->(∀y∈ip R ps n,Tp M (2^(min rows.length (n+1)*(w+4))) y)->Q (.ref t) H') /\
 (∀t x R ps R' ps' M H',cM (df rows due) (n+1) R ps->n∈ps->cM (JZ rows n due) (rows.length+1) R' ps'->rows.length∉ps'->H' t=some (.tup [.str (Str.ofString "no"),.ref x])->H x=none->aL H H'->cw K H' x (ip R' ps' rows.length)->0 < M->M<=2^(min (n+1) (rows.length+1)*(w'+4))->(∀y∈ip R' ps' rows.length,Tp M (2^(min (n+1) (rows.length+1)*(w'+4))) y)->Q (.ref t) H')
theorem IY {rows R R':List (List Rat)} {due:List Rat} {ps ps':List Nat} {n:Nat} (hd:due.length=rows.length) (hw:∀xs∈rows,xs.length=n) (RR:cM (df rows due) (n+1) R ps) (hn:n∈ps) (RR':cM (JZ rows n due) (rows.length+1) R' ps'):rows.length∉ps':=by
 obtain ⟨w,h1,h2⟩:=El hd hw RR hn;have l1:(cW rows n++[due]).length=n+1:=by rw[av,dj];rfl
 have w1:∀xs∈cW rows n++[due],xs.length=rows.length:=fun xs hx=>by
  rcases az.mp hx with hx | hx
  ·exact kY xs hx
  ·rw[bT.mp hx];exact hd
 refine OB (x:=w) (by rw[l1,av,aE];rfl) w1 RR' fun i hi=>?_
 rw[l1] at hi;by_cases e:i < n
 ·have e1:∀c,cS (cW rows n++[due]) i c=cS rows c i:=fun c=>by
   unfold cS;rw[ae (l:=cW rows n++[due]),bE (by rw[dj];exact e)];unfold cW;rw[aK,dC e];show (rows.map fun xs=>xs.getD i 0).getD c 0=_
   rw[ae,aK,ae (l:=rows)];cases rows[c]? with
   | none=>rfl
   | some y=>rfl
  have e2:(List.replicate n (0:Rat)++[1]).getD i 0=0:=by
   rw[ae,bE (by rw[aE];exact e),fH,if_pos e];rfl
  rw[e2,<- h1 i e];exact bB fun c _=>by rw[e1];grind
 ·have ei:i=n:=by lia
  subst ei
  have e1:∀c,cS (cW rows i++[due]) i c=due.getD c 0:=fun c=>by
   unfold cS;rw[ae (l:=cW rows i++[due]),aZ (by rw[dj];exact ao _),dj,fQ];rfl
  have e2:(List.replicate i (0:Rat)++[1]).getD i 0=1:=by
   rw[ae,aZ (by rw[aE];exact ao _),aE,fQ];rfl
  rw[e2,<- h2];exact bB fun c _=>by rw[e1];grind
theorem K3 {n:Nat}:((List.range n).map fun _=>(0:Rat))=List.replicate n 0:=by rw[uI,cK]
def Ot (K:PySem.W.Frag):Sp:=fun vs H Q _=>∃m:Nat,vs=[.int m]/\m<=100/\∀r H',H r=none->aL H H'->cw K H' r (List.replicate m 0)->Q (.ref r) H'
def Ei (K:PySem.W.Frag):Sp:=fun vs H Q _=>∃(p q:Addr) (n w w':Nat) (H0:Hp) (rows:List (List Rat)) (row:List Rat),vs=[.ref p,.int n,.ref q]/\bR K H0 H p rows/\cw K H q row/\row.length=n/\rows.length<=90/\n<=90/\(∀xs∈rows,xs.length=n)/\E6 (df (cW rows n) row) (rows.length+1) w/\E6 (df (rows++[row]) (List.replicate rows.length 0++[1])) (n+1) w' /\
 (∀t x R ps M H',cM (df (cW rows n) row) (rows.length+1) R ps->rows.length∉ps->H' t=some (.tup [.str (Str.ofString "in"),.ref x])->H x=none->aL H H'->cw K H' x (ip R ps rows.length)->0 < M->M<=2^(min n (rows.length+1)*(w+4))->(∀y∈ip R ps rows.length,Tp M (2^(min n (rows.length+1)*(w+4))) y)->Q (.ref t) H') /\
 (∀t x R ps R' ps' M H',cM (df (cW rows n) row) (rows.length+1) R ps->rows.length∈ps->cM (df (rows++[row]) (List.replicate rows.length 0++[1])) (n+1) R' ps'->n∉ps'->H' t=some (.tup [.str (Str.ofString "out"),.ref x])->H x=none->aL H H'->cw K H' x (ip R' ps' n)->0 < M->M<=2^(min (rows.length+1) (n+1)*(w'+4))->(∀y∈ip R' ps' n,Tp M (2^(min (rows.length+1) (n+1)*(w'+4))) y)->Q (.ref t) H')
def Q8 (rows:List (List Rat)) (ws:List Rat) (n j:Nat):List Rat:=(List.range n).map fun c=>bX j fun i=>ws.getD i 0*cS rows i c
def Of (rows:List (List Rat)) (ws:List Rat) (n:Nat):List Rat:=Q8 rows ws n ws.length
section
variable {rows:List (List Rat)} {ws xs row:List Rat} {n j:Nat}
theorem Oe:(Q8 rows ws n j).length=n:=by unfold Q8;rw[ar,cK]
theorem GG {c:Nat} (hc:c < n):(Of rows ws n).getD c 0=bX ws.length fun i=>ws.getD i 0*cS rows i c:=by
 unfold Of Q8;rw[ae,aK,dC hc];rfl
theorem ES (h:xs.length=ws.length):dh xs ws=dh ws xs:=by
 rw[fG h,fG h.symm,h];exact bB fun c _=>fj ..
theorem Av {c:Nat} (hc:c < n):(cW rows n)[c]?=some (rows.map fun xs=>xs.getD c 0):=by
 unfold cW;rw[aK,dC hc];rfl
theorem Pa {c i:Nat}:(rows.map fun xs=>xs.getD c 0).getD i 0=cS rows i c:=by
 unfold cS;rw[ae,aK,ae (l:=rows)];cases rows[i]? with
 | none=>rfl
 | some y=>rfl
theorem Ik {R:List (List Rat)} {ps:List Nat} (hl:row.length=n) (RR:cM (df (cW rows n) row) (rows.length+1) R ps) (hn:rows.length∉ps):Of rows (ip R ps rows.length) n=row:=by
 have ls:(ip R ps rows.length).length=rows.length:=kZ;apply eY (by unfold Of;rw[Oe,hl]);intro c h1 h2;have hc:c < n:=by lia
 have d:=Fw (rows:=cW rows n) (by rw[dj,hl]) (fun xs hx=>kY xs hx) RR hn (Av hc);have e:=GG (rows:=rows) (ws:=ip R ps rows.length) hc;have e1:(Of rows (ip R ps rows.length) n).getD c 0=(Of rows (ip R ps rows.length) n)[c]:=by rw[ae,ag h1];rfl
 have e2:row.getD c 0=row[c]:=by rw[ae,ag h2];rfl
 rw[<- e1,<- e2,e,<- d,fG (by rw[ar,ls]),ar,ls];exact bB fun i _=>by rw[Pa];grind
theorem IX {R:List (List Rat)} {ps:List Nat} (hw:∀xs∈rows,xs.length=n) (hl:row.length=n) (RR:cM (df (rows++[row]) (List.replicate rows.length 0++[1])) (n+1) R ps) (hn:n∉ps):dh (ip R ps n) row=1/\∀xs∈rows,dh xs (ip R ps n)=0:=by
 have l1:(List.replicate rows.length (0:Rat)++[1]).length=(rows++[row]).length:=by rw[av,av,aE];rfl
 have w1:∀xs∈rows++[row],xs.length=n:=fun xs hx=>by
  rcases az.mp hx with hx | hx
  ·exact hw xs hx
  ·rw[bT.mp hx];exact hl
 have ls:(ip R ps n).length=n:=kZ;refine ⟨?_,fun xs hx=>?_⟩
 ·have:=Fw l1 w1 RR hn (i:=rows.length) (row:=row) (by rw[aZ (ao _),fQ];rfl);rw[ES (by rw[ls,hl]),this,ae,aZ (by rw[aE];exact ao _),aE,fQ];rfl
 ·obtain ⟨i,hi,rfl⟩:=bS hx;have:=Fw l1 w1 RR hn (i:=i) (row:=rows[i]) (by rw[bE hi,ag hi]);rw[this,ae,bE (by rw[aE];exact hi),fH,if_pos hi];rfl
end
theorem Fr.up {M V M' V':Nat} {x:Rat} (h:Fr M V x) (hd:M∣M') (hv:V<=V'):Fr M' V' x:=(h.dvd hd).mono hv
section
variable {rows R:List (List Rat)} {due:List Rat} {ps:List Nat} {n:Nat}
theorem Nl {xs ys:List Rat} {M V D B:Nat} (h:ys.length=xs.length) (hx:∀x∈xs,Fr M V x) (hy:∀y∈ys,Fr D B y):Fr (M*D) (xs.length*(V*B)) (dh xs ys):=by
 rw[fG h.symm]
 have key:∀j,j<=xs.length->Fr (M*D) (j*(V*B)) (bX j fun c=>xs.getD c 0*ys.getD c 0):=by
  intro j
  induction j with
  | zero=>intro _;exact Fr.zero
  | succ j ih =>
   intro hj;exact ((ih (by lia)).add ((hx _ (getD_in (by lia))).mul (hy _ (getD_in (by lia))))).mono (Nat.le_of_eq (dA j (V*B)).symm)
 exact key _ (ao _)
end
def JD (K:PySem.W.Frag) (P:Addr->Prop) (H:Hp) (xs:List Rat) (v:V):Prop:=∃q,v=.ref q/\P q/\cw K H q xs
section
variable {K:PySem.W.Frag} {P:Addr->Prop} {H H':Hp} {xs:List Rat} {v:V} {b l:Addr}
theorem JD.updL {ys:List V} {o:HO} (h:JD K P H xs v) (hl:H l=some (.lst ys)) (nb:∀q,P q->q≠l):JD K P (upd H l o) xs v:=by obtain ⟨q,a,c,d⟩:=h;exact ⟨q,a,c,d.updL hl (nb q c)⟩
theorem bR.ofE {H0:Hp} {rows:List (List Rat)} {us:List V} (g:H l=some (.lst us)) (h:Paired (JD K P H) rows us) (h0:∀q,P q->H0 q=none) (hn:∀q,P q->q≠l):bR K H0 H l rows :=
 ⟨us,g,Paired.imp' (fun _ _ ⟨q,a,c,d⟩=>⟨q,a,h0 q c,d⟩) h,fun z=>by
  obtain ⟨_,_,q,e,c,_⟩:=dd h z;cases e;exact hn _ c rfl⟩
end
theorem zo {α β:Type} {F G:α->β->Prop}:∀{l1:List α} {l2:List β},(∀a b,b∈l2->F a b->G a b)->Paired F l1 l2->Paired G l1 l2
 | _,_,_,.nil=>.nil
 | _,_,h,.cons a r=>.cons (h _ _ (by simp) a) (zo (fun x y hy=>h x y (by simp [hy])) r)
section
variable {rows rows' R R':List (List Rat)} {n w W:Nat} {ps ps':List Nat}
theorem Cc (hw:∀xs∈rows,xs.length=n) (hW:1<=W) (ent:∀i,i < (rows.map kW).length->∀c,Fr 1 W (eV (rows.map kW) i c)):∀P,P<=n->∃ls ps d,CL (rows.map kW) n P ls ps d:=by
 intro P
 induction P with
 | zero=>intro _;exact ⟨_,_,_,CL.start fun zs hz=>by obtain ⟨x,hx,rfl⟩:=aD.mp hz;rw[xD];exact hw x hx⟩
 | succ P ih =>
  intro hP;obtain ⟨ls,ps,d,I⟩:=ih (by lia);by_cases e:∃t,ps.length<=t/\t < ls.length/\eV ls t P≠0
  ·obtain ⟨t,h1,h2,h3⟩:=e;exact ⟨_,_,_,I.step hW ent h1 h2 h3⟩
  ·exact ⟨_,_,_,I.skip fun i h1 h2=>by
    by_cases z:eV ls i P=0
    ·exact z
    ·exact absurd ⟨i,h1,h2,z⟩ e⟩
theorem IU (hw:∀xs∈rows,xs.length=n) (F:E6 rows n w):∃R ps d ls,RQ rows n w R ps d ls:=by
 obtain ⟨W,hW,W2,ent⟩:=F.ent;obtain ⟨ls,ps,d,I⟩:=Cc hw hW ent n (ao _);obtain ⟨R,S⟩:=I.done hw F;exact ⟨R,ps,d,_,S⟩
theorem Qt (hw:∀xs∈rows,xs.length=n) (F:E6 rows n w) (RR:cM rows n R ps):ps.length<=rows.length/\∃M,0 < M/\M<=2^(min rows.length n*(w+4))/\∀xs∈R,∀x∈xs,Tp M (2^(min rows.length n*(w+4))) x:=by
 obtain ⟨R2,ps2,d,ls,S⟩:=IU hw F;obtain ⟨rfl,rfl⟩:=S.rr.same RR;exact ⟨S.km,d.natAbs,Int.natAbs_pos.mpr S.d0,S.dsz,S.tp⟩
theorem Jt {k:Nat} {p q:Nat->Nat} (hp:∀i j,i < j->j < k->p i < p j) (hq:∀i j,i < j->j < k->q i < q j) (hs:∀i,i < k->∃j,j < k/\q j=p i):∀i,i < k->p i=q i:=by
 have hqm:∀i j,i<=j->j < k->q i<=q j:=fun i j h hj=>by
  rcases cR i j with z | z
  ·exact aY (hq i j z hj)
  ·have:i=j:=by lia
   rw[this];exact ao _
 have hqi:∀i j,i < k->j < k->q i < q j->i < j:=fun i j hi hj h=>by
  rcases cR i j with z | z
  ·exact z
  ·have:=hqm j i z hi
   lia
 have key:∀i,i < k->∀j,j < k->q j=p i->i<=j:=by
  intro i
  induction i with
  | zero=>intro _ j _ _;exact bD _
  | succ i ih =>
   intro hi j hj e;obtain ⟨j',hj',e'⟩:=hs i (by lia);have h1:=ih (by lia) j' hj' e';have h2:=hp i (i+1) (by lia) hi;have:=hqi j' j hj' hj (by lia)
   lia
 have key2:∀t i,i+t+1=k->∀j,j < k->q j=p i->j<=i:=by
  intro t
  induction t with
  | zero=>intro i e j hj _;lia
  | succ t ih =>
   intro i e j hj ej;obtain ⟨j',hj',e'⟩:=hs (i+1) (by lia);have h1:=ih (i+1) (by lia) j' hj' e';have h2:=hp i (i+1) (by lia) (by lia);have:=hqi j j' hj hj' (by lia)
   lia
 intro i hi;obtain ⟨j,hj,e⟩:=hs i hi;have h1:=key i hi j hj e;have h2:=key2 (k - 1 - i) i (by lia) j hj e;have:j=i:=by lia
 rw[<- e,this]
theorem IT (h:cM rows n R ps) (h':cM rows' n R' ps') (hl:ps.length=ps'.length) (hs:∀i,i < ps.length->fD ps'.length (cS R') (cS R i)):R=R'/\ps=ps':=by
 obtain ⟨l1,w1,r1⟩:=h;obtain ⟨l2,w2,r2⟩:=h'
 have ep:∀i,i < ps.length->ps.getD i 0=ps'.getD i 0:=Jt r1.inc (by rw[hl];exact r2.inc) fun i hi=>by
  have u:=r1.unit i hi i hi;rw[if_pos rfl] at u;obtain ⟨j,hj,e⟩:=r2.lead_in (hs i hi) (c:=ps.getD i 0) (by rw[u];decide) (fun c hc=>r1.lead i hi c hc);exact ⟨j,by lia,e⟩
 have eps:ps=ps':=by
  apply eY hl;intro i a b;have:=ep i a;rw[ae,ae,ag a,ag b] at this;exact this
 refine ⟨Ln (n:=n) (by lia) w1 w2 fun i hi c=>?_,eps⟩;rw[l1] at hi;rw[r2.coef (hs i hi) c,<- hl,js hi fun j hj hj'=>?_]
 ·rw[<- ep i hi];have u:=r1.unit i hi i hi;rw[if_pos rfl] at u;rw[u];grind
 ·rw[<- ep j hj];have u:=r1.unit i hi j hj;rw[if_neg (Ne.symm hj')] at u;rw[u];grind
end
def uG (mv:List (List Rat)) (x:List Rat):List Rat:=mv.map fun xs=>dh xs x
def kry (mv pt:List (List Rat)):Nat->List (List Rat)
 | 0=>[]
 | t+1=>pt++(kry mv pt t).map (uG mv)
section
variable {mv pt R R' S X Y:List (List Rat)} {n t m i c:Nat} {ps ps':List Nat} {a:Nat->Nat->Rat}
theorem Dj {x:List Rat}:(uG mv x).length=mv.length:=ar ..
theorem KO (lm:mv.length=n) (wm:∀xs∈mv,xs.length=n) (wR:∀xs∈R,xs.length=n) (hi:i < R.length) (c:Nat):cS (R.map (uG mv)) i c=bX n fun j=>cS mv c j*cS R i j:=by
 have wi:=wR _ (aJ hi);have e1:(R.map (uG mv)).getD i []=uG mv R[i]:=by rw[ae,aK,ag hi];rfl
 have e2:R.getD i []=R[i]:=by rw[ae,ag hi];rfl
 by_cases hc:c < n
 ·have wc:=wm _ (aJ (show c < mv.length by lia));have e3:mv.getD c []=mv[c]'(by lia):=by rw[ae,ag (by lia)];rfl
  have e4:(uG mv R[i]).getD c 0=dh (mv[c]'(by lia)) R[i]:=by
   unfold uG;rw[ae,aK,ag (by lia)];rfl
  unfold cS;rw[e1,e2,e3,e4,fG (by lia),wc]
 ·have e3:mv.getD c []=[]:=by rw[ae,aR (by lia)];rfl
  unfold cS
  rw[e1,e3,ae,aR (by rw[Dj];lia),dH fun j _=>by
   show ([]:List Rat).getD j 0*_=0
   rw[ae];show (0:Rat)*_=0
   grind]
  rfl
theorem Fm (lm:mv.length=n) (wm:∀xs∈mv,xs.length=n) (wR:∀xs∈R,xs.length=n) (wS:∀xs∈S,xs.length=n) (hi:i < R.length) (h:fD S.length (cS S) (cS R i)):fD (S.map (uG mv)).length (cS (S.map (uG mv))) (cS (R.map (uG mv)) i):=by
 obtain ⟨w,hw⟩:=h;refine ⟨w,fun c=>?_⟩;rw[KO lm wm wR hi,ar]
 have e1:bX n (fun j=>cS mv c j*cS R i j)=bX n (fun j=>bX S.length fun s=>w s*(cS mv c j*cS S s j)):=bB fun j _=>by
  rw[hw j,<- dk];exact bB fun s _=>by grind
 rw[e1,jM];exact bB fun s hs=>by rw[dk,KO lm wm wS hs]
theorem LK (h:i < X.length):cS (X++Y) i=cS X i:=by
 funext c;unfold cS;rw[ae (l:=X++Y),bE h,<- ae]
theorem Nx:cS (X++Y) (X.length+i)=cS Y i:=by
 funext c;unfold cS;rw[ae (l:=X++Y),aZ (by lia),show X.length+i - X.length=i by lia,<- ae]
theorem CY (h1:∀i,i < X.length->fD m a (cS X i)) (h2:∀i,i < Y.length->fD m a (cS Y i)):∀i,i < (X++Y).length->fD m a (cS (X++Y) i):=fun i hi=>by
 rw[av] at hi;by_cases h:i < X.length
 ·rw[LK h];exact h1 i h
 ·obtain ⟨j,rfl⟩:∃j,i=X.length+j:=⟨i - X.length,by lia⟩;rw[Nx];exact h2 j (by lia)
theorem Ay (h:i < X.length):fD (X++Y).length (cS (X++Y)) (cS X i):=by
 have:=fD.row (a:=cS (X++Y)) (m:=(X++Y).length) (i:=i) (by rw[av];lia);rwa [LK h] at this
theorem yH {x:Nat->Rat} (h:fD Y.length (cS Y) x):fD (X++Y).length (cS (X++Y)) x:=fD.trans (fun s hs=>by
 have:=fD.row (a:=cS (X++Y)) (m:=(X++Y).length) (i:=X.length+s) (by rw[av];lia);rwa [Nx] at this) h
theorem gM (lm:mv.length=n) (wp:∀xs∈pt,xs.length=n):∀t,∀xs∈kry mv pt t,xs.length=n:=by
 intro t
 induction t with
 | zero=>intro xs hx;cases hx
 | succ t ih =>
  intro xs hx;rcases az.mp hx with hx | hx
  ·exact wp xs hx
  ·obtain ⟨y,_,rfl⟩:=aD.mp hx;rw[Dj,lm]
theorem Bl (lm:mv.length=n) (wm:∀xs∈mv,xs.length=n) (wp:∀xs∈pt,xs.length=n) (RR:cM (kry mv pt t) n R ps) (RR':cM (pt++R.map (uG mv)) n R' ps'):cM (kry mv pt (t+1)) n R' ps':=by
 have wk:=gM (mv:=mv) lm wp t;refine ⟨RR'.1,RR'.2.1,RR'.2.2.other ?_ ?_⟩
 ·refine CY (fun i hi=>Ay hi) fun i hi=>yH ?_
  rw[ar] at hi;exact Fm lm wm RR.2.1 wk hi (RR.2.2.back i (by rw[<- RR.1];exact hi))
 ·refine CY (fun i hi=>Ay hi) fun i hi=>yH ?_
  rw[ar] at hi;have:=RR.2.2.span i hi;rw[<- RR.1] at this;exact Fm lm wm wk RR.2.1 hi this
theorem K8 (lm:mv.length=n) (wm:∀xs∈mv,xs.length=n) (wp:∀xs∈pt,xs.length=n):∀t i,i < (kry mv pt t).length->fD (kry mv pt (t+1)).length (cS (kry mv pt (t+1))) (cS (kry mv pt t) i):=by
 intro t
 induction t with
 | zero=>intro i hi;cases hi
 | succ t ih =>
  refine CY (fun i hi=>Ay hi) fun i hi=>yH ?_
  rw[ar] at hi;exact Fm lm wm (gM lm wp t) (gM lm wp (t+1)) hi (ih i hi)
theorem Bj (lm:mv.length=n) (wm:∀xs∈mv,xs.length=n) (wp:∀xs∈pt,xs.length=n) (RR:cM (kry mv pt t) n R ps) (RR':cM (kry mv pt (t+1)) n R' ps'):∀i,i < ps.length->fD ps'.length (cS R') (cS R i):=fun i hi =>
 fD.trans (fun s hs=>RR'.2.2.span s hs) (fD.trans (K8 lm wm wp t) (RR.2.2.back i hi))
theorem Jq (lm:mv.length=n) (wm:∀xs∈mv,xs.length=n) (wp:∀xs∈pt,xs.length=n) (RR:cM (kry mv pt t) n R ps) (RR':cM (pt++R.map (uG mv)) n R' ps') (hl:ps'.length=ps.length):∀s,cM (kry mv pt (t+s)) n R ps:=by
 have K1:=Bl lm wm wp RR RR';obtain ⟨e1,e2⟩:=IT RR K1 hl.symm (Bj lm wm wp RR K1);subst e1 e2;intro s
 induction s with
 | zero=>exact RR
 | succ s ih=>exact Bl lm wm wp ih RR'
theorem K9 (lm:mv.length=n) (wm:∀xs∈mv,xs.length=n) (wp:∀xs∈pt,xs.length=n) (RR:cM (kry mv pt t) n R ps) (RR':cM (kry mv pt (t+1)) n R' ps'):ps.length<=ps'.length:=by
 have h:=Bj lm wm wp RR RR'
 have hs:∀i,i < ps.length->∃j,j < ps'.length/\ps'.getD j 0=ps.getD i 0:=fun i hi=>by
  have u:=RR.2.2.unit i hi i hi;rw[if_pos rfl] at u;exact RR'.2.2.lead_in (h i hi) (c:=ps.getD i 0) (by rw[u];decide) (fun c hc=>RR.2.2.lead i hi c hc)
 rcases cR ps'.length ps.length with z | z
 ·exfalso
  have key:∀i,i < ps.length->∀j,j < ps'.length->ps'.getD j 0=ps.getD i 0->i<=j:=by
   intro i
   induction i with
   | zero=>intro _ j _ _;exact bD _
   | succ i ih =>
    intro hi j hj e;obtain ⟨j',hj',e'⟩:=hs i (by lia);have h1:=ih (by lia) j' hj' e';have h2:=RR.2.2.inc i (i+1) (by lia) hi;rcases cR j' j with y | y
    ·lia
    ·rcases cR j j' with x | x
     ·have:=RR'.2.2.inc j j' x hj'
      lia
     ·have:j=j':=by lia
      rw[this] at e
      lia
  obtain ⟨j,hj,e⟩:=hs (ps.length - 1) (by lia);have:=key (ps.length - 1) (by lia) j hj e
  lia
 ·exact z
theorem La {M V c:Nat} (lm:mv.length=n) (wm:∀xs∈mv,xs.length=n) (wp:∀xs∈pt,xs.length=n) (hc:(n+1)*V<=2^c) (fm:GF M V mv) (fp:GF M V pt):∀t,∀xs∈kry mv pt t,∀x∈xs,Fr (M^t) (2^(c*t)) x:=by
 intro t
 induction t with
 | zero=>intro xs hx;cases hx
 | succ t ih =>
  intro xs hx x hx';have hV:V<=2^c:=aj (cH _ (by lia)) hc;rcases az.mp hx with hx | hx
  ·refine Fr.up (fp xs hx x hx') (by rw[dO];exact cX _ _) (aj hV (au (by decide) (dn _ (by lia))))
  ·obtain ⟨y,hy,rfl⟩:=aD.mp hx;unfold uG at hx';obtain ⟨r,hr,rfl⟩:=aD.mp hx';have wr:=wm r hr;have wy:=gM (mv:=mv) lm wp t y hy;have f:=Nl (by lia) (fm r hr) (ih y hy);rw[dO,b7 (M^t)];refine f.mono ?_;rw[ft,LQ,bf,b7 (2^(c*t)),<- cE,wr];exact aA _ (aj (aA _ (by lia)) hc)
def vA (mv pt:List (List Rat)) (a c:Nat):Prop:=∃M V:Nat,0 < M/\M<=2^a/\(mv.length+1)*V<=2^c/\GF M V mv/\GF M V pt/\a<=400/\c<=40/\mv.length*(mv.length*(a+c)+4)<=1740/\mv.length*(mv.length*(mv.length*(a+c)+4)+a+c+4)<=8900
theorem vA.swf {a c:Nat} (F:vA mv pt a c) (D:mv.length<=8) (wm:∀xs∈mv,xs.length=mv.length) (wp:∀xs∈pt,xs.length=mv.length) (ht:t<=mv.length):E6 (kry mv pt t) mv.length (mv.length*(a+c)):=by
 obtain ⟨M,V,M0,Ma,hV,fm,fp,a3,c3,e14,e89⟩:=F;have f:=La rfl wm wp hV fm fp t;have h1:mv.length*(a+c)<=8*440:=aF D (by lia);have hM:M^t<=2^(a*mv.length):=aj (jg Ma _) (by rw[<- yz];exact au (by decide) (aN _ ht));have h2:a*mv.length<=mv.length*(a+c):=by rw[b7];exact aN _ (by lia)
 have h3:mv.length=0\/mv.length*(a+c)<=1740:=by
  rcases gA mv.length with z | z
  ·exact .inl z
  ·right
   have:=cH (mv.length*(a+c)+4) z
   lia
 have h4:mv.length*(a+c)<=1740:=by
  rcases h3 with z | z
  ·rw[z];lia
  ·exact z
 refine ⟨M^t,2^(mv.length*(a+c)),dS M0,aj hM (au (by decide) (by lia)),jE,ao _,fun xs hx x hx'=>Tp.of (f xs hx x hx') ?_,by lia,by lia,?_⟩
 ·refine aj (aF (au (by decide) (aN c ht)) hM) ?_;rw[<- bf];refine au (by decide) ?_;rw[b7 c,b7 a,<- ft,As c];exact ao _
 ·exact aj (aA _ (zP _ _)) (by lia)
theorem vA.tp {a c:Nat} (F:vA mv pt a c) (D:mv.length<=8) (wm:∀xs∈mv,xs.length=mv.length) (wp:∀xs∈pt,xs.length=mv.length) (ht:t<=mv.length) (RR:cM (kry mv pt t) mv.length R ps):∃M,0 < M/\M<=2^(mv.length*(mv.length*(a+c)+4))/\∀xs∈R,∀x∈xs,Tp M (2^(mv.length*(mv.length*(a+c)+4))) x:=by
 obtain ⟨_,M,h0,h1,h2⟩:=Qt (gM rfl wp t) (F.swf D wm wp ht) RR;have le:2^(min (kry mv pt t).length mv.length*(mv.length*(a+c)+4))<=2^(mv.length*(mv.length*(a+c)+4)):=au (by decide) (aA _ (zP _ _));exact ⟨M,h0,aj h1 le,fun xs hx x hx'=>(h2 xs hx x hx').mono le⟩
theorem vA.step {a c:Nat} (F:vA mv pt a c) (D:mv.length<=8) (wm:∀xs∈mv,xs.length=mv.length) (wp:∀xs∈pt,xs.length=mv.length) (ht:t<=mv.length) (RR:cM (kry mv pt t) mv.length R ps):E6 (pt++R.map (uG mv)) mv.length (mv.length*(mv.length*(a+c)+4)+a+c):=by
 obtain ⟨N,N0,N1,tN⟩:=F.tp D wm wp ht RR;obtain ⟨M,V,M0,Ma,hV,fm,fp,a3,c3,e14,e89⟩:=F;generalize mv.length*(mv.length*(a+c)+4)=e at *
 have V1:V<=2^c:=aj (cH _ (by lia)) hV;have eW:(2:Nat)^(e+a+c)=2^c*(2^a*2^e):=by rw[<- bf,<- bf];congr 1;lia
 refine ⟨N*M,2^(e+a+c),bW N0 M0,?_,jE,ao _,fun xs hx x hx'=>?_,by lia,by lia,?_⟩
 ·exact aj (aF N1 Ma) (by rw[<- bf];exact au (by decide) (by lia))
 ·rcases az.mp hx with hx | hx
  ·refine Tp.of ((fp xs hx x hx').scaleL N) ?_;rw[eW,b7 N];exact aF V1 (aF Ma N1)
  ·obtain ⟨y,hy,rfl⟩:=aD.mp hx;unfold uG at hx';obtain ⟨r,hr,rfl⟩:=aD.mp hx';have wr:=wm r hr;have wy:=RR.2.1 y hy;rw[fG (by lia),wr];have t1:∀j,Tp M (V*M) (r.getD j 0):=fun j=>lW (fun x hx=>Tp.of (fm r hr x hx) (ao _)) j
   have t2:∀j,Tp N (2^e) (y.getD j 0):=fun j=>lW (tN y hy) j
   have:=Tp.sum (k:=mv.length) (M:=N*M) (W:=V*M*2^e) (f:=fun j=>r.getD j 0*y.getD j 0) fun j _=>by
    have:=(t1 j).mul (t2 j);rwa [b7 M N] at this
   refine this.mono ?_;rw[eW,cE V,<- cE mv.length];exact aF (aj (aA _ (by lia)) hV) (aA _ Ma)
 ·exact aj (aA _ (zP _ _)) (by rw[show e+a+c+4=e+a+c+4 from rfl];exact e89)
theorem vA.fit {a c:Nat} (F:vA mv pt a c) (D:mv.length<=8) (wm:∀xs∈mv,xs.length=mv.length) (wp:∀xs∈pt,xs.length=mv.length) (ht:t<=mv.length) (RR:cM (kry mv pt t) mv.length R ps):∀xs∈mv,∀r∈R,yx xs r:=fun xs hx r hr=>by
 obtain ⟨N,N0,N1,tN⟩:=F.tp D wm wp ht RR;obtain ⟨M,V,M0,Ma,hV,fm,fp,a3,c3,e14,e89⟩:=F;have V1:V<=2^c:=aj (cH _ (by lia)) hV;have p14:=au (show 0 < 2 by decide) e14;exact ⟨400,40,1740,1740,⟨M,V,M0,aj Ma (au (by decide) a3),aj V1 (au (by decide) c3),fm xs hx⟩,⟨N,2^1740,N0,aj N1 p14,ao _,fun x hx=>((tN r hr x hx).mono p14).fr N0⟩,by decide⟩
end
def IB (K:PySem.W.Frag) (C:Addr):Sp:=fun vs H Q _=>∃(x p:Addr) (H0 H1:Hp) (mv pt lk R:List (List Rat)),vs=[.ref x,.ref p]/\nW K H0 H C x mv pt lk/\fz mv pt lk/\bR K H1 H p R/\R.length<=100/\(∀r∈R,r.length=mv.length)/\(∀xs∈mv,∀r∈R,yx xs r) /\
 ∀r H',H r=none->aL H H'->bR K H H' r (R.map (uG mv))->Q (.ref r) H'
structure BA (mv pt:List (List Rat)) (Rs:List (List (List Rat))):Prop where
 ne:Rs≠[]
 rr:∀t R,Rs[t]?=some R->∃ps,cM (kry mv pt t) mv.length R ps
 up:∀t R R',Rs[t]?=some R->Rs[t+1]?=some R'->R.length < R'.length
def GrL (K:PySem.W.Frag) (H0 H:Hp) (l:Addr) (Rs:List (List (List Rat))):Prop:=∃us,H l=some (.lst us)/\Paired (fun R v=>∃q,v=V.ref q/\H0 q=none/\q≠l/\bR K H0 H q R) Rs us
def II (K:PySem.W.Frag) (C:Addr):Sp:=fun vs H Q _=>∃(x:Addr) (a c st:Nat) (H0:Hp) (mv pt lk:List (List Rat)),vs=[.ref x,.int st]/\st<=1000/\nW K H0 H C x mv pt lk/\fz mv pt lk/\vA mv pt a c /\
 ∀r Rs H',H r=none->aL H H'->GrL K H H' r Rs->BA mv pt Rs->Rs.length<=st+1->(∀R,Rs.getLast?=some R->∀s,(Rs.length - 1=st/\s=st\/Rs.length - 1 < st/\Rs.length - 1<=s)->∃ps,cM (kry mv pt s) mv.length R ps)->Q (.ref r) H'
section
variable {K:PySem.W.Frag} {H0 H1 H H':Hp} {p l:Addr} {rows mv pt R R':List (List Rat)} {Rs:List (List (List Rat))} {t:Nat}
theorem bR.weakN (h:bR K H0 H p rows) (hn:∀q,H0 q=none->H1 q=none):bR K H1 H p rows:=by obtain ⟨xs,g,r,n⟩:=h;exact ⟨xs,g,Paired.imp' (fun _ _ ⟨q,a,b,c⟩=>⟨q,a,hn q b,c⟩) r,n⟩
theorem bR.updL {ys:List V} {o:HO} (h:bR K H0 H p rows) (hl:H l=some (.lst ys)) (nl:H0 l≠none) (pl:p≠l):bR K H0 (upd H l o) p rows:=by obtain ⟨xs,g,r,n⟩:=h;exact ⟨xs,by rw[bI pl];exact g,Paired.imp' (fun _ _ z=>dB.updL z hl nl) r,n⟩
theorem OD {n:Nat}:cM [] n [] []:=⟨rfl,(fun _ h=>by cases h),(fun _ _ _ h=>absurd h (fJ _)),(fun _ h=>absurd h (fJ _)),(fun _ h=>absurd h (fJ _)),(fun _ h=>absurd h (fJ _)),(fun _ h=>absurd h (fJ _)),(fun _ h=>absurd h (fJ _))⟩
theorem BA.len (h:BA mv pt Rs):∀(t:Nat) (R:List (List Rat)),Rs[t]?=some R->t<=R.length:=by
 intro t
 induction t with
 | zero=>intro R _;exact bD _
 | succ t ih =>
  intro R e;have ht:=(aI.mp e).1;have e0:=ag (show t < Rs.length by lia);have:=ih _ e0;have:=h.up t _ R e0 e
  lia
theorem BA.snoc {ps':List Nat} (h:BA mv pt (Rs++[R])) (h1:cM (kry mv pt (Rs.length+1)) mv.length R' ps') (h2:R.length < R'.length):BA mv pt ((Rs++[R])++[R']):=by
 have l1:(Rs++[R]).length=Rs.length+1:=by rw[av];rfl
 refine ⟨by simp,fun t S e=>?_,fun t S S' e e'=>?_⟩
 ·rcases cR t (Rs.length+1) with z | z
  ·rw[bE (by lia)] at e;exact h.rr t S e
  ·have ht:=(aI.mp e).1;rw[av,bU] at ht;have:t=Rs.length+1:=by lia
   subst this;rw[aZ (by lia),l1,fQ] at e;cases e;exact ⟨ps',h1⟩
 ·have ht:=(aI.mp e').1;rw[av,bU] at ht;rw[bE (by lia)] at e;rcases cR (t+1) (Rs.length+1) with z | z
  ·rw[bE (by lia)] at e';exact h.up t S S' e e'
  ·have:t=Rs.length:=by lia
   subst this;rw[aZ (by lia),l1,fQ] at e';cases e';rw[aZ (ao _),fQ] at e;cases e;exact h2
end
theorem bR.toE {K:PySem.W.Frag} {H0 H:Hp} {l:Addr} {rows:List (List Rat)} (h:bR K H0 H l rows):∃us,H l=some (.lst us)/\Paired (JD K (fun q=>H0 q=none/\q≠l) H) rows us:=by
 obtain ⟨us,g,pr,nn⟩:=h;exact ⟨us,g,zo (fun xs v hv ⟨q,e,a,b⟩=>⟨q,e,⟨a,fun z=>nn (by rw[<- z,<- e];exact hv)⟩,b⟩) pr⟩
theorem Co {α:Type} {v:α}:∀{l:List α},l.Nodup->v∉l->∀j,(l.set j v).Nodup
 | [],_,_,_=>rB
 | a :: l,h,hn,0=>by
  rw[eK] at h;rw[List.set_cons_zero,eK];exact ⟨fun z=>hn (.tail _ z),h.2⟩
 | a :: l,h,hn,j+1=>by
  rw[eK] at h;rw[List.set_cons_succ,eK];refine ⟨fun z=>?_,Co h.2 (fun z=>hn (.tail _ z)) j⟩;rcases cv z with z | z
  ·exact h.1 z
  ·exact hn (by rw[z];exact .head _)
structure kQ (K:PySem.W.Frag) (A:Addr->Prop) (H:Hp) (n:Nat) (C:V->Rat->Prop) (m p l b q0:Addr) (us ws vs:List V):Prop where
 bag:ir H b
 inn:Inner H b q0
 gm:H m=some (.lst us)
 gp:H p=some (.lst ws)
 gl:H l=some (.lst vs)
 lm:us.length=n
 row:∀x∈us++vs++ws,fP K A H n (C x) x
 nd:(us++vs++ws).Nodup
section
variable {K:PySem.W.Frag} {A:Addr->Prop} {H H':Hp} {n:Nat} {C C':V->Rat->Prop} {m p l b q0 q:Addr} {us ws vs zs:List V} {y:Rat} {v:V}
theorem kQ.same (h:kQ K A H n C m p l b q0 us ws vs) (e:aL H H'):kQ K A H' n C m p l b q0 us ws vs :=
 ⟨h.bag.same e,(e.upto (p:=b)).2 _ h.inn,e _ _ h.gm,e _ _ h.gp,e _ _ h.gl,h.lm,fun x hx=>(h.row x hx).same e,h.nd⟩
theorem kQ.upto (h:kQ K A H n C m p l b q0 us ws vs) (M:E9 A m p l b q0) (u:cT b H H') (B':ir H' b):kQ K A H' n C m p l b q0 us ws vs :=
 ⟨B',u.2 _ h.inn,u.other M.mb h.gm,u.other M.pb h.gp,u.other M.lb h.gl,h.lm,fun x hx=>(h.row x hx).upto u h.bag M.ab,h.nd⟩
theorem kQ.weak (h:kQ K A H n C m p l b q0 us ws vs) (w:∀x∈us++vs++ws,∀y,C x y->C' x y):kQ K A H n C' m p l b q0 us ws vs :=
 ⟨h.bag,h.inn,h.gm,h.gp,h.gl,h.lm,fun x hx=>(h.row x hx).weak (fun _ z=>z) (w x hx),h.nd⟩
theorem kQ.put (h:kQ K A H n C m p l b q0 us ws vs) (M:E9 A m p l b q0) (aq:A q) (hq:H q=some (.lst zs)) (hv:cC K H y v) (hc:C (.ref q) y) (j:Nat):kQ K A (upd H q (.lst (zs.set j v))) n C m p l b q0 us ws vs:=by
 have ne:∀{z},¬A z->z≠q:=fun h e=>h (by rw[e];exact aq)
 refine ⟨h.bag.upd h.inn (ne M.ab).symm (ne M.aq).symm,h.inn.upd (ne M.ab).symm,by rw[bI (ne M.am)];exact h.gm,by rw[bI (ne M.ap)];exact h.gp,by rw[bI (ne M.al)];exact h.gl,h.lm,fun x hx=>?_,h.nd⟩;by_cases e:x=.ref q
 ·subst e;exact (h.row _ hx).put hq hv hc j
 ·obtain ⟨q1,qs,rfl,a1,r1,l1,c1⟩:=h.row x hx;exact ⟨q1,qs,rfl,a1,r1.updL hq (fun z=>e (by rw[z])),l1,c1⟩
theorem kQ.set (h:kQ K A H n C m p l b q0 us ws vs) (M:E9 A m p l b q0) (hx:fP K A H n (C v) v) (hn:v∉us++vs++ws) (j:Nat):kQ K A (upd H m (.lst (us.set j v))) n C m p l b q0 (us.set j v) ws vs:=by
 have mem:∀x∈us.set j v++vs++ws,x=v\/x∈us++vs++ws:=fun x hx=>by
  rcases az.mp hx with hx | hx
  ·rcases az.mp hx with hx | hx
   ·rcases cv hx with hx | hx
    ·exact .inr (by simp [hx])
    ·exact .inl hx
   ·exact .inr (by simp [hx])
  ·exact .inr (by simp [hx])
 refine ⟨h.bag.upd h.inn M.mb M.mq,h.inn.upd M.mb,aM,by rw[bI M.mp.symm];exact h.gp,by rw[bI M.ml.symm];exact h.gl,by rw[dP];exact h.lm,fun x hx'=>?_,?_⟩
 ·rcases mem x hx' with rfl | hx'
  ·exact hx.other h.gm M.am
  ·exact (h.row x hx').other h.gm M.am
 ·have nd:=h.nd;rw[cD] at nd hn ⊢;obtain ⟨n1,n2,n3⟩:=dG.mp nd;refine dG.mpr ⟨?_,n2,fun a ha c hc=>?_⟩
  ·rcases cR j us.length with z | z
   ·exact Co n1 (fun z'=>hn (az.mpr (.inl z'))) j
   ·rw[List.set_eq_of_length_le z];exact n1
  ·rcases cv ha with ha | rfl
   ·exact n3 a ha c hc
   ·exact fun z=>hn (az.mpr (.inr (by rw[z];exact hc)))
end
theorem HJ {M W:Nat} {x:Rat} (h0:0 < M) (h1:M<=2^800) (hW:W<=2^140) (h:Fr M W x):rW x :=
 Gg h0 (aj h1 (au (by decide) (by decide))) (aj hW (au (by decide) (by decide))) h
theorem MU {t V c:Nat} (ht:t<=3) (hV:V<=2^20) (hc:c<=9):c*(9^t*V)<=2^140:=by
 have h1:9^t<=9^3:=au (by decide) ht;have h2:c*(9^t*V)<=9*(9^3*2^20):=aF hc (aF h1 hV);exact aj h2 (aj (show 9*(9^3*2^20)<=2^40 by decide) (au (by decide) (by decide)))
theorem tm {α:Type} {l:List α} {v:α} (h:l.Nodup) (hn:v∉l):(l++[v]).Nodup:=dG.mpr ⟨h,by simp,fun a ha c hc=>by rw[bT.mp hc];exact fun z=>hn (by rw[<- z];exact ha)⟩
section
variable {K:PySem.W.Frag} {a:Addr} {xs:List V} {g:TG} {tf:TT} {te:TE} {Q:VK} {σ₀:St} {H:Hp} {α β:Type}
theorem Cz {n:Nat} {b:Addr} (G:Hp->β->V->Prop) (C:β->Prop) (hB:ir H b) (hl:n<=1000) (hG:∀{H' H'' c x},G H' c x->cT b H' H''->ir H' b->G H'' c x)
  (hA:∀{H' c x},G H' c x->∃q,x=V.ref q/\H' q≠none)
  (hs:∀(i:Nat) H' NY NN,i < n->cT b H H'->ir H' b->(∀y c H2,cT b H' H2->ir H2 b->C c->G H2 c y->(∃q,y=V.ref q/\H' q=none)->NY y H2)->wG σ₀ g tf te (.int i) H' NY NN)
  (hd:∀ys cs H' p,H p=none->cT b H H'->ir H' b->H' p=some (.lst ys)->cs.length=n->ys.Nodup->(∀c∈cs,C c)->Paired (G H') cs ys->(∃H2,H2 p=none/\Paired (G H2) cs ys)->Q (.ref p) H'):xh (Fd 0 n) σ₀ g tf te Q H:=by
 refine xA (fun i ys H'=>cT b H H'/\ir H' b/\∃cs,cs.length=i/\ys.Nodup/\(∀c∈cs,C c)/\Paired (G H') cs ys) (aY (bO (by lia))) ⟨(aL.refl _).upto,hB,[],rfl,rB,(fun _ z=>nomatch z),.nil⟩ ?_ ?_
 ·rintro i ys H' hi hlen ⟨u,B,cs,lc,nd,hc,pr⟩;rw[Ij];refine hs i H' _ _ hi u B fun y c H2 u2 B2 cc gy ⟨q,ey,nq⟩=>⟨u.trans u2,B2,cs++[c],by simp [lc],tm nd (fun z=>by obtain ⟨c',_,gc⟩:=dd pr z;obtain ⟨q',e',h'⟩:=hA gc;rw[ey] at e';cases e';exact h' nq),DR hc cc,b6 (Paired.imp' (fun _ _ z=>hG z u2 B) pr) (.cons gy .nil)⟩
 ·rintro ys H' hy ⟨u,B,cs,lc,nd,hc,pr⟩ p hp;have s:aL H' (upd H' p (.lst ys)):=aL.new hp;exact hd ys cs _ p (u.none B hp) (u.same s) (B.same s) aM lc nd hc (Paired.imp' (fun _ _ z=>hG z s.upto B) pr) ⟨H',hp,pr⟩
end
structure Gx (K:PySem.W.Frag) (A:Addr->Prop) (n:Nat) (C:Rat->Prop) (m p l b q0:Addr) (us ws vs:List V) (H0 H:Hp):Prop where
 mix:kQ K A H n (fun _=>C) m p l b q0 us ws vs
 gp:H p=some (.lst ws)
 gl:H l=some (.lst vs)
 kp:iG A b m H0 H
section
variable {K:PySem.W.Frag} {A:Addr->Prop} {n:Nat} {C:Rat->Prop} {m p l b q0 q:Addr} {us ws vs:List V} {H0 H H':Hp} {y:Rat} {v:V}
theorem Gx.same (h:Gx K A n C m p l b q0 us ws vs H0 H) (e:aL H H'):Gx K A n C m p l b q0 us ws vs H0 H':=⟨h.mix.same e,e _ _ h.gp,e _ _ h.gl,h.kp.same e⟩
theorem Gx.upto (h:Gx K A n C m p l b q0 us ws vs H0 H) (M:E9 A m p l b q0) (u:cT b H H') (B:ir H' b):Gx K A n C m p l b q0 us ws vs H0 H':=⟨h.mix.upto M u B,u.other M.pb h.gp,u.other M.lb h.gl,h.kp.upto u⟩
theorem Gx.row (h:Gx K A n C m p l b q0 us ws vs H0 H) {x:V} (hx:x∈ws\/x∈vs):fP K A H n C x:=h.mix.row x (by rcases hx with hx | hx <;> simp [hx])
theorem Gx.put (h:Gx K A n C m p l b q0 us ws vs H0 H) (M:E9 A m p l b q0) (hx:V.ref q∈ws\/V.ref q∈vs) (hv:cC K H y v) (hc:C y) (j:Nat):∃zs,H q=some (.lst zs)/\zs.length=n/\Gx K A n C m p l b q0 us ws vs H0 (upd H q (.lst (zs.set j v))):=by
 obtain ⟨q',zs,qs,e,a,g,lz,_⟩:=(h.row hx).at;cases e;have ne:∀{z},¬A z->z≠q:=fun h e=>h (by rw[e];exact a)
 exact ⟨zs,g,lz,h.mix.put M a g hv hc j,by rw[bI (ne M.ap)];exact h.gp,by rw[bI (ne M.al)];exact h.gl,h.kp.upd (.inl a)⟩
end
def Kd (K:PySem.W.Frag):Sp:=fun vs H Q _=>∃(b:Addr) (n w:Nat) (way first:Int),vs=[.ref b,.int n,.int way,.int first,.int w]/\ir H b/\n<=8/\1<=w/\w<=1000000 /\
 ∀r us H',H r=none->H' r=some (.lst us)->us.length=n->us.Nodup->(∀x∈us,fP K (fun q=>H q=none/\q≠r) H' n (Dr (max w 6)) x)->ir H' b->cT b H H'->Q (.ref r) H'
def PtF (n i o w c:Nat) (mv pt lk:List (List Rat)):Prop:=∃M V1:Nat,0 < M/\GF M V1 mv/\GF M V1 pt/\GF M V1 lk/\((w<=9/\M=2520/\V1=9^3*9)\/(9 < w/\M<=2^(c*((n+i+o)*n))/\V1=9^3*2^c))
def Ke (K:PySem.W.Frag):Sp:=fun vs H Q _=>∃(b:Addr) (n:Nat),vs=[.ref b,.int n]/\ir H b/\1<=n/\n<=8 /\
 ∀r mv pt lk H',ee K H H' r mv pt lk->mv.length=n->pt.length=1->lk.length=1->fz mv pt lk->GF 1 1 mv->GF 1 1 pt->GF 1 1 lk->ir H' b->cT b H H'->Q (.ref r) H'
theorem Ac {mv pt:List (List Rat)} {M V1 a c n0:Nat} (M0:0 < M) (hM:M<=2^a) (hn:mv.length<=n0) (hV:(n0+1)*V1<=2^c) (fm:GF M V1 mv) (fp:GF M V1 pt) (h4:a<=400/\c<=40/\n0*(n0*(a+c)+4)<=1740/\n0*(n0*(n0*(a+c)+4)+a+c+4)<=8900):vA mv pt a c:=by
 obtain ⟨h1,h2,h3,h5⟩:=h4;have e1:mv.length*(a+c)<=n0*(a+c):=aA _ hn;have e2:mv.length*(mv.length*(a+c)+4)<=n0*(n0*(a+c)+4):=aF hn (by lia);have e3:mv.length*(mv.length*(mv.length*(a+c)+4)+a+c+4)<=n0*(n0*(n0*(a+c)+4)+a+c+4):=aF hn (by lia);exact ⟨M,V1,M0,hM,aj (aA _ (by lia)) hV,fm,fp,h1,h2,by lia,by lia⟩
def L9 (K:PySem.W.Frag):Sp:=fun vs H Q _=>∃b:Addr,vs=[.ref b]/\ir H b /\
 ∀r mv pt lk H',ee K H H' r mv pt lk->6<=mv.length->fz mv pt lk->GF 1 (9^3) mv->GF 1 (9^3) pt->GF 1 (9^3) lk->ir H' b->cT b H H'->Q (.ref r) H'
theorem DG {rs:List Nat} {v v':Nat->iJ}:∀{k:Nat} (pre:List iJ),(∀j,j < k->∀r∈rs,v j r=v' j r)->jJ rs (pre++jr v k)=jJ rs (pre++jr v' k)
 | 0,_,_=>rfl
 | k+1,pre,h=>by
  show jJ rs (pre++v k :: jr v k)=jJ rs (pre++v' k :: jr v' k)
  rw[Lv (h k (by lia))];have:=DG (k:=k) (pre++[v' k]) fun j hj=>h j (by lia)
  simpa using this
theorem cw_map {τ:iJ->iJ} {v:Nat->iJ}:∀{k:Nat},(jr v k).map τ=jr (fun j=>τ (v j)) k
 | 0=>rfl
 | k+1=>by show τ (v k) :: _=_;rw[cw_map];rfl
theorem Lu {N : Nat} {W : Nat → Nat} : ∀ {rs : List Nat} {vs : List iJ}, vs.length ≤ N → (∀ v ∈ vs, ∀ r ∈ rs, Fr 1 (W r) (v r)) → Fr 1 ((rs.map fun r => N * W r).foldr (· * ·) 1) (jJ rs vs)
  | [], [], _, _ => by show Fr 1 1 1; exact (Fr.int (i := 1) (by decide))
  | [], _ :: _, _, _ => by show Fr 1 _ 0; exact Fr.zero
  | r :: rs, vs, hl, h => by
    have := K5 (F := fun ws => jJ rs ws) (r := r) (B := (rs.map fun r => N * W r).foldr (· * ·) 1) (W := W r) (post := vs) (pre := []) (s := 1) (fun ws h1 h2 => Lu (by rw [cU] at h2; lia) fun v hv r' hr' => h v (by simpa using h1 v hv) r' (.tail _ hr')) (fun w hw => h w hw r (.head _)) (Fr.int (i := 1) (by decide));refine this.mono ?_;show _ ≤ N * W r * _
    rw [cE N];exact aA _ hl
structure Vb (r n:Nat) (Pm Y Z:Nat->Nat->Rat) (d:Rat) (W:Nat):Prop where
 d0:d≠0
 det:d=jJ (nY (fun i=>i) r) (jr (fun j i=>Pm i j) r)
 eq:∀i,i < r->∀c,c < n->Z i c=bX r fun s=>Pm i s*Y s c
 pf:∀i,i < r->∀s,s < r->Fr 1 W (Pm i s)
 zf:∀i,i < r->∀c,c < n->Fr 1 W (Z i c)
section
variable {rows fs ls:List (List Rat)} {n r M W Wv Wb k P:Nat} {Pm Y Z B E a:Nat->Nat->Rat} {d:Rat} {ps:List Nat} {rs:List (List Rat)}
end
section
variable {rows R R1 R2 mv pt:List (List Rat)} {n r M V1 W W' Wv Wb k P:Nat} {Pm Y Z B E a:Nat->Nat->Rat} {d:Rat} {ps ps1 ps2:List Nat} {rs:List (List Rat)}
theorem Oh (h0:0 < M) (h3:∀xs∈rows,∀x∈xs,Tp M W x):∀i,i < rows.length->∀c,Fr 1 W (eV (rows.map kW) i c):=fun i hi c=>by
 have hx:=getD_in (e:=[]) hi;rw[Ea hi];unfold cS;generalize rows.getD i []=xs at hx ⊢;by_cases hc:c < xs.length
 ·have t:=h3 xs hx _ (getD_in (e:=0) hc);obtain ⟨s,e,b⟩:=CU t h0 (Bs (xs:=xs)) (vq (aD.mpr ⟨_,getD_in (e:=0) hc,rfl⟩)) (HW h0 (h3 xs hx));rw[fj,e];exact Fr.int b
 ·rw[ae,aR (by lia)];show Fr 1 W (_*0)
  rw[mZ];exact Fr.zero
theorem Ll {V:Nat} {f:Nat->Rat}:∀{k:Nat},(∀j,j < k->Fr 1 V (f j))->Fr 1 (k*V) (bX k f)
 | 0,_=>Fr.zero
 | k+1,h=>by
  rw[dA];exact (Ll fun j hj=>h j (by lia)).add (h k (by lia))
theorem yG {f:Nat->Rat} {a:Nat}:∀{b:Nat},bX (a+b) f=bX a f+bX b fun t=>f (a+t)
 | 0=>by show bX a f=bX a f+0;grind
 | b+1=>by
  show bX (a+b) f+f (a+b)=_+(bX b _+f (a+b))
  rw[yG];grind
end
section
variable {rows R R1 R2 mv pt:List (List Rat)} {n t t2 a c:Nat} {ps ps1 ps2:List Nat}
theorem HK {M W:Nat} (h:∀i,i < rows.length->∀c,Tp M W (cS rows i c)):∀xs∈rows,∀x∈xs,Tp M W x:=fun xs hx x hx'=>by
 obtain ⟨i,hi,rfl⟩:=bS hx;obtain ⟨c,hc,rfl⟩:=bS hx';have:=h i hi c;unfold cS at this;rw[ae (l:=rows),ag hi] at this;have e:(some rows[i]).getD []=rows[i]:=rfl;rw[e,ae,ag hc] at this;exact this
end
section
variable {K:PySem.W.Frag} {a:Addr} {xs:List V} {g:TG} {tf:TT} {te:TE} {Q:VK} {σ₀:St} {H:Hp} {α β:Type}
theorem Cw {as:List α} {F:Hp->α->V->Prop} (G:Hp->β->V->Prop) (f:α->β) (hx:H a=some (.lst xs)) (pf:Paired (F H) as xs) (hl:as.length<=1000)
  (hF:∀{H H' c x},F H c x->aL H H'->F H' c x) (hG:∀{H H' c x},G H c x->aL H H'->G H' c x) (hA:∀{H' c x},G H' c x->∃q,x=V.ref q/\H' q≠none)
  (hs:∀(i:Nat) c x H' NY NN,as[i]?=some c->aL H H'->F H' c x->(∀y H2,aL H' H2->G H2 (f c) y->(∃q,y=V.ref q/\H' q=none)->NY y H2)->wG σ₀ g tf te x H' NY NN)
  (hd:∀ys H' p,H p=none->aL H H'->H' p=some (.lst ys)->ys.Nodup->(∀y∈ys,∃q,y=V.ref q/\H q=none/\q≠p)->Paired (G H') (as.map f) ys->Q (.ref p) H'):xh (NA K a) σ₀ g tf te Q H:=by
 have lx:=pf.length;refine fY (K:=K) (xs:=xs) (fun i ys H'=>aL H H'/\ys.Nodup/\(∀y∈ys,∃q,y=V.ref q/\H q=none)/\Paired (G H') ((as.take i).map f) ys) (aY (bO (by lia))) ⟨aL.refl _,rB,(fun _ z=>nomatch z),.nil⟩ (fun i ys H' _ ⟨s,_⟩=>bV.of (s _ _ hx)) ?_ ?_
 ·rintro i x ys H' hx' hlen ⟨s,nd,hn,pr⟩;obtain ⟨c,ec,hc⟩:=cF pf hx';refine hs i c x H' _ _ ec s (hF hc s) fun y H2 s2 gy ⟨q,ey,nq⟩=>⟨s.trans s2,tm nd (fun z=>?_),DR hn ⟨q,ey,s.none nq⟩,?_⟩
  ·obtain ⟨c',_,gc⟩:=dd pr z;obtain ⟨q',e',h'⟩:=hA gc;rw[ey] at e';cases e';exact h' nq
  ·rw[take_snoc ec,cV];exact b6 (Paired.imp' (fun _ _ z=>hG z s2) pr) (.cons gy .nil)
 ·rintro ys H' hy ⟨s,nd,hn,pr⟩ p hp;rw[aH (by lia)] at pr;refine hd ys _ p (s.none hp) (s.trans (aL.new hp)) aM nd (fun y hy=>?_) (Paired.imp' (fun _ _ z=>hG z (aL.new hp)) pr);obtain ⟨q,e,nq⟩:=hn y hy;refine ⟨q,e,nq,fun z=>?_⟩;obtain ⟨c',_,gc⟩:=dd pr hy;obtain ⟨q',e',h'⟩:=hA gc;rw[e] at e';cases e';exact h' (by rw[z];exact hp)
end
structure Rm (K:PySem.W.Frag) (H0 H:Hp) (n:Nat) (fd:Addr) (L:List (Addr×List V)):Prop where
 gf:H fd=some (.lst (L.map fun e=>V.ref e.1))
 nf:H0 fd=none
 ls:∀e∈L,H0 e.1=none/\e.1≠fd/\H e.1=some (.lst e.2)
 nd:(L.map fun e=>e.1).Nodup
 rows:∀e∈L,∀x∈e.2,fP K (fun q=>(H0 q=none/\q≠fd)/\q∉L.map fun e=>e.1) H n (Fr 1 1) x
 rd:(L.flatMap fun e=>e.2).Nodup
section
variable {K:PySem.W.Frag} {H0 H H1:Hp} {n:Nat} {fd q:Addr} {L:List (Addr×List V)} {us:List V}
theorem Rm.snoc (h:Rm K H0 H n fd L) (s0:aL H0 H) (s:aL H H1) (hq:H q=none) (gq:H1 q=some (.lst us)) (nd:us.Nodup) (hr:∀x∈us,fP K (fun z=>H z=none/\z≠q) H1 n (Fr 1 1) x):Rm K H0 (upd H1 fd (.lst ((L.map fun e=>V.ref e.1)++[.ref q]))) n fd (L++[(q,us)]):=by
 have qf:q≠fd:=fun z=>by rw[z,h.gf] at hq;cases hq
 have old:∀{z},z∈(L.map fun e=>e.1)->H z≠none:=fun hz=>by
  obtain ⟨e,he,rfl⟩:=aD.mp hz;rw[(h.ls e he).2.2];exact fun z=>nomatch z
 have g1:=s _ _ h.gf;refine ⟨by rw[aM,cV];rfl,h.nf,fun e he=>?_,?_,fun e he x hx=>?_,?_⟩
 ·rcases az.mp he with he | he
  ·obtain ⟨a,b,c⟩:=h.ls e he;exact ⟨a,b,by rw[bI b];exact s _ _ c⟩
  ·rw[bT.mp he];exact ⟨s0.none hq,qf,by rw[bI qf];exact gq⟩
 ·rw[cV];exact tm h.nd fun z=>old z hq
 ·have key:fP K (fun z=>(H0 z=none/\z≠fd)/\z∉(L++[(q,us)]).map fun e=>e.1) H1 n (Fr 1 1) x:=by
   rcases az.mp he with he | he
   ·obtain ⟨z,qs,e1,⟨e2,e3⟩,e4,e5⟩:=h.rows e he x hx;refine ⟨z,qs,e1,⟨e2,fun hz=>?_⟩,e4.same s,e5⟩;rw[cV] at hz;rcases az.mp hz with hz | hz
    ·exact e3 hz
    ·have hz:z=q:=bT.mp hz;obtain ⟨_,gg,_⟩:=e4;rw[hz,hq] at gg;cases gg
   ·rw[bT.mp he] at hx;refine (hr x hx).weak (fun z hz=>⟨⟨s0.none hz.1,fun y=>by rw[y] at hz;rw[h.gf] at hz;exact absurd hz.1 (fun w=>nomatch w)⟩,fun y=>?_⟩) (fun _ w=>w);rw[cV] at y;rcases az.mp y with y | y
    ·exact old y hz.1
    ·exact hz.2 (bT.mp y)
  exact key.other g1 (fun z=>z.1.2 rfl)
 ·rw[List.flatMap_append];refine dG.mpr ⟨h.rd,by simpa using nd,fun x hx y hy z=>?_⟩;obtain ⟨e,he,hx⟩:=List.mem_flatMap.mp hx;obtain ⟨w,qs,e1,_,⟨_,gg,_⟩,_⟩:=h.rows e he x hx;obtain ⟨w',_,e1',⟨hw,_⟩,_⟩:=hr y (by simpa using hy);rw[<- z,e1] at e1';cases e1';rw[hw] at gg;cases gg
end
theorem Kp:typeLookup (.type "list_reverseiterator") "__len__"=pure none:=by
 rw[typeLookup_type,builtinLookup_eq_fast]
 kernel_rfl
theorem Mo:typeLookup (.type "list_reverseiterator") "__length_hint__"=pure (some (.builtin "list_reverseiterator.__length_hint__")):=by
 rw[typeLookup_type,builtinLookup_eq_fast]
 kernel_rfl
section
variable {prog:Program} {w:World} {A:Around} {E:Value->Shared->Prop} {s:Shared}
theorem Mm {it l:Addr} {i:Int} {Q:Bool->Shared->Prop} (hit:s.heap.IsRevIter it l i) (q:Q false s):wpAny (model prog w) A (Builtin.List.listLengthHint (.ref it)) Q E s:=by
 unfold Builtin.List.listLengthHint;refine wpAny_bind (wpAny_specialOf hit.typeIs Kp ?_);show wpAny _ A (specialOf (Value.ref it) (Str.ofString "__length_hint__") >>= _) Q E s
 refine wpAny_bind (wpAny_specialOf hit.typeIs Mo ?_);generalize hid:("list_reverseiterator.__length_hint__":String)=id0
 dsimp only
 rw[show splitId id0=some ("list_reverseiterator","__length_hint__") from by subst hid;decide +kernel];subst hid;refine wpAny_bind (wpAny_isInstance (T:="list_reverseiterator") (b:=true) hit.typeIs (by rw[isSubtype_type];kernel_rfl) ?_);refine wpAny_ite_split (fun z=>absurd z (by decide)) (fun _=>?_);refine wpAny_ite_split (fun _=>?_) (fun z=>absurd (by decide +kernel) z);exact wpAny_ite_split (fun z=>absurd z (by decide +kernel)) (fun _=>wpAny_pure q)
theorem Mp {R:Result->Shared->Prop} {I l S:Addr} {items:Array Value} {res:Value} {c0:Nat} (hh:A.handled=none) (hit:s.heap.IsRevIter I l ((items.size:Int) - 1)) (hl:s.heap.IsList l items) (nI:l≠I) (nS:S≠I) (nL:S≠l) (hn:items.size<=sizeLine) (hS:s.heap.get? S=some { cls:=.type "list",data:=.seq #[] c0 })
  (hR:∀h' tk acc c,(∀b o,b≠S->b≠I->s.heap.get? b=some o->h'.get? b=some o)->h'.get? S=some { cls:=.type "list",data:=.seq acc c }->ItemsOf (fun i v=>items[items.size - 1 - i]?=some v) acc items.size->R (.ok (.ret res)) { s with heap:=h',toks:=tk }) :
  wpAny (model prog w) A.in1 (Builtin.List.listExtendWith (.ref S) (.ref I) res) (fun fin s2=>match fin with | .done f=>R (.ok f) s2 | .again c=>c.quiet=true/\codeAny (model prog w) A c R s2) (fun e s2=>R (.error e) s2) s:=by
 have W:=(Walks.listRev (prog:=prog) (w:=w) (A:=A.in1) hh I l nI items).toS;unfold Builtin.List.listExtendWith;refine wpAny_bind (wpAny_typeOf hit.typeIs ?_);rw[if_neg (by simp [Builtin.List.listSameRef,nS])];refine wpAny_bind (wpAny_pyIter_revIter hit ?_);refine wpAny_bind (wpAny_holding (Mm hit ?_));refine wpAny_ite_split (fun z=>absurd z (by decide +kernel)) (fun _=>?_);have h0:s.heap.IsRevIter I l ((items.size:Int) - 1 - ((0:Nat):Int)):=by simpa using hit
 refine wpAny_pure ⟨plainId_quiet F.plain_extend_loop _,codeAny_extend_loopS W hn S (by simp [nS,nL]) res items.size 0 s #[] c0 rfl (bD _) ⟨bD _,h0,hl⟩ hS (ItemsOf.nil _) fun s2 acc c hm h2 hi=>?_⟩;rw[Moved.eq_with hm];exact hR s2.heap s2.toks acc c (fun b o n1 n2 e=>hm.heap b o (by simp [n1,n2]) e) h2 hi
theorem Mn {Q : Value → Shared → Prop} {I l : Addr} {items : Array Value} (hh : A.handled = none) (hit : s.heap.IsRevIter I l ((items.size : Int) - 1)) (hl : s.heap.IsList l items) (nI : l ≠ I) (hn : items.size ≤ sizeLine)
    (hQ : ∀ h' tk acc c, (∀ b o, b ≠ I → s.heap.get? b = some o → h'.get? b = some o) → h'.get? s.heap.objs.size = some { cls := .type "list", data := .seq acc c } → ItemsOf (fun i v => items[items.size - 1 - i]? = some v) acc items.size → Q (.ref s.heap.objs.size) { s with heap := h', toks := tk }) :
    wpAny (model prog w) A (call (.type "list") [.ref I]) Q E s := by
  refine callType_codes (Q₁ := fun x s2 => x = .ref s.heap.objs.size /\ s2 = { s with heap := s.heap.push { cls := .type "list", data := .seq #[] } }) F.called_list (F.typeCall_list_1 _) F.entry_list_init (code_list_new _ ⟨rfl, rfl⟩) fun x s2 hx => ?_
  obtain ⟨rfl, rfl⟩ := hx;have up : ∀ b o, s.heap.get? b = some o → (s.heap.push { cls := .type "list", data := .seq #[] }).get? b = some o := fun b o e => Heap.get?_push_of_some _ e
  have hS : (s.heap.push { cls := .type "list", data := .seq #[] }).get? s.heap.objs.size = some { cls := .type "list", data := .seq #[] } := Heap.get?_push_size _ rfl
  have lI : I ≠ s.heap.objs.size := by
    obtain ⟨o, ho, _⟩ := hit;exact cg (Heap.lt_size ho)
  have lL : l ≠ s.heap.objs.size := by
    obtain ⟨o, ho, _⟩ := hl;exact cg (Heap.lt_size ho)
  refine ⟨⟨_, hS, rfl⟩, F.args_list_init_2 _ _, ?_⟩;show wpAny _ A.in1.in1 (do let old <- Builtin.List.listItems (.ref s.heap.objs.size); Builtin.List.listUpdate (.ref s.heap.objs.size) (fun _ => #[]); letGo old.toList.reverse; Builtin.List.listExtendWith (.ref s.heap.objs.size) (.ref I) .none) _ _ _
  refine wpAny_bind ?_;unfold Builtin.List.listItems;refine wpAny_bind (wpAny_seqItems hS rfl (wpAny_pure ?_));refine wpAny_bind (m := Builtin.List.listUpdate (.ref s.heap.objs.size) (fun _ => #[])) (wpAny_updateSeq hS rfl ?_);have h3 := Heap.get?_update_self (Obj.mapSeq (fun _ => (#[] : Array Value))) hS rfl;have o3 : ∀ b o, b ≠ s.heap.objs.size → (s.heap.push { cls := .type "list", data := .seq #[] }).get? b = some o → ((s.heap.push { cls := .type "list", data := .seq #[] }).update s.heap.objs.size (Obj.mapSeq (fun _ => (#[] : Array Value)))).get? b = some o := fun b o nb e => (Heap.get?_update_other _ _ (Ne.symm nb)).trans e
  refine wpAny_bind (wpAny_letGo ?_);refine Mp (A := A.in1) hh (hit.at fun o e => o3 _ _ lI (up _ _ e)) (hl.at fun o e => o3 _ _ lL (up _ _ e)) nI lI.symm lL.symm hn h3 fun h' tk acc c hk h2 hi => ?_
  exact ⟨rfl, hQ h' tk acc c (fun b o nb e => hk b o (cg (Heap.lt_size e)) nb (o3 _ _ (cg (Heap.lt_size e)) (up _ _ e))) h2 hi⟩
end
section
variable {X:Cx}
def Ef (K:PySem.W.Frag) (ta:TA):TE:=fun σ H Q=>ta σ H fun vs H1=>∃l xs,vs=[.ref l]/\bV K H1 l xs/\xs.length<=1000/\∀L H',aL H1 H'->H1 L=none->H' L=some (.lst xs.reverse)->Q (.ref L) H'
theorem Ec:∀{xs:List V} {us:List Value},cP xs us->cP xs.reverse us.reverse
 | _,_,.nil=>.nil
 | _,_,.cons h r=>by
  rw[yB,yB];exact cP.append (Ec r) (.cons h .nil)
theorem FJ (K:PySem.W.Frag) {e1:Expr} {ta:TA} {p p2 pos pos2:Pos} (hg:Gl X "list") (hm:X.mg "list"=none) (hg2:Gl X "reversed") (hm2:X.mg "reversed"=none) (ha:PA X [e1] ta) (hK:X.K=K:=by rfl) (hc:X.calm=true:=by rfl)
  (hs:starEach [e1] X.env=[(false,eval e1 X.env)]:=by rfl)
  (hs3:starEach [Expr.Call (.Name "reversed" p2) [e1] [] pos2] X.env=[(false,eval (.Call (.Name "reversed" p2) [e1] [] pos2) X.env)]:=by rfl) :
  PE X (.Call (.Name "list" p) [.Call (.Name "reversed" p2) [e1] [] pos2] [] pos) (Ef K ta):=by
 subst hK;intro pins s σ H Q I h;refine wpAny_Call_Name_kw (lM I hg hm boot_list ?_);refine PyProof.Rows.callWith_type1 ?_ (by rw[hs3];rfl) rfl;rw[hs3];show wpAny _ _ (spliced ((false,eval (.Call (.Name "reversed" p2) [e1] [] pos2) X.env) :: [])) _ _ s
 refine Calls.spliced_cons ?_;refine Call_ (lM I hg2 hm2 boot_reversed (PyProof.Rows.callWith_type1 (gL (ha pos2 pins s σ H _ I h) fun us s1 ⟨vs,H1,I1,r1,q1⟩=>?_) hs rfl));obtain ⟨l,xs,e,hl,hn,q⟩:=q1;subst e;obtain ⟨u,rfl,ru⟩:=vals1 r1;cases ru;obtain ⟨its,rv,pl,hz⟩:=I1.list hl;have hlen:=rv.length;have pI:=pl.isList;refine call_reversed_list pI ?_;refine Calls.spliced_nil ?_;have kp:∀b o,s1.heap.get? b=some o->(s1.heap.push (revObj l ((its.toArray.size:Int) - 1))).get? b=some o:=fun b o e=>Heap.get?_push_of_some _ e
 have nI:l≠s1.heap.objs.size:=by
  obtain ⟨o,ho,_⟩:=pI;exact cg (Heap.lt_size ho)
 refine Mn (I.ok.hd hc) (I:=s1.heap.objs.size) (l:=l) (items:=its.toArray) ⟨_,Heap.get?_push_size _ rfl,rfl,rfl⟩ (pI.at fun o e=>kp _ _ e) nI (by rw[aP];lia) fun h' tk acc c hk hS hacc=>?_
 have sz:s1.heap.objs.size<=(s1.heap.push (revObj l ((its.toArray.size:Int) - 1))).objs.size:=by rw[Heap.size_push];exact uE _
 have nS:=I1.hok.fresh sz
 have ea:acc.toList=its.reverse:=by
  apply il;intro j;rcases cR j its.length with z | z
  ·have hj:j < acc.toList.length:=by rw[Array.length_toList,hacc.1,aP];exact z
   have:=hacc.2 j acc.toList[j] (by rw[<- Array.getElem?_toList];exact ag hj);rw[ag hj,List.getElem?_reverse z];simpa using this.symm
  ·rw[aR (by rw[Array.length_toList,hacc.1,aP];exact z),aR (by rw[nR];exact z)]
 have vs':cP xs.reverse acc.toList:=by rw[ea];exact Ec rv
 have sl:xs.reverse.length<=sizeLine:=by rw[nR];exact hz
 refine ⟨.ref _,_,I1.laid (o:=.lst xs.reverse) (fun b o e=>hk b o (cg (Heap.lt_size e)) (kp b o e)) sz ?_,rfl,q _ _ (aL.new nS) nS aM⟩;exact ⟨sl,acc.toList,c,vs',by simpa using hS⟩
end
theorem EJ {F G:List iJ->Rat} {r:Nat} {g:Nat->Rat} {c:Rat} (hF:∀ws:List iJ,F (ws.map fun v i=>g i*v i)=c*G ws):∀(post pre:List iJ) (s:Rat),BH F r (pre.map fun v i=>g i*v i) (post.map fun v i=>g i*v i) s=g r*c*BH G r pre post s
 | [],_,_=>by show (0:Rat)=_*0;grind
 | v :: post,pre,s=>by
  have i1:=hF (pre++post);have i2:=EJ (r:=r) hF post (pre++[v]) (-s);simp only[cV,iu,List.map_nil,BH] at i1 i2 ⊢;rw[i1,i2];grind
theorem yd {g : Nat → Rat} : ∀ (rs : List Nat) (vs : List iJ), jJ rs (vs.map fun v i => g i * v i) = (rs.map g).foldr (· * ·) 1 * jJ rs vs
  | [], [] => by show (1 : Rat) = 1 * 1; grind
  | [], _ :: _ => by show (0 : Rat) = 1 * 0; grind
  | r :: rs, vs => by
    have := EJ (r := r) (F := fun ws => jJ rs ws) (G := fun ws => jJ rs ws) (c := (rs.map g).foldr (· * ·) 1) (fun ws => yd rs ws) vs [] 1;exact this
theorem Dg {g:Nat->Rat}:∀{rs:List Nat},(∀r∈rs,g r≠0)->(rs.map g).foldr (·*·) 1≠0
 | [],_=>by show (1:Rat)≠0;decide
 | r :: rs,h=>by
  show g r*_≠0
  have h1:=h r (.head _);have h2:=Dg fun r' hr'=>h r' (.tail _ hr')
  intro z;rcases BE.mp z with z | z
  ·exact h1 z
  ·exact h2 z
section
variable {rows R X K0:List (List Rat)} {due L:List Rat} {n m M W D E W0 W1:Nat} {ps:List Nat}
theorem Cv (hw:∀xs∈rows,xs.length=n) (hW:1<=W) (h0:0 < M) (h3:∀xs∈rows,∀x∈xs,Tp M W x) (RR:cM rows n R ps):∃pm:Nat->Nat,(∀i j,i < ps.length->j < ps.length->pm i=pm j->i=j)/\(∀t,t < ps.length->pm t < rows.length)/\ps.length<=rows.length/\jJ (nY pm ps.length) (jr (fun j i=>cS rows i (ps.getD j 0)) ps.length)≠0:=by
 have ent:=Oh h0 h3;obtain ⟨ls,ps2,d,I⟩:=Cc hw hW (by rw[ar];exact ent) n (ao _);obtain ⟨_,_,⟨pm,B⟩,E⟩:=I;rw[ar] at B E
 have RF:E7 rows.length n (cS rows) ps2.length (fun j=>ps2.getD j 0) (fun i c=>eV ls i c / d):=E7.other (E.done fun i hi c hc=>Bn (n:=n) (fun zs hz=>by
  obtain ⟨xs,hx,rfl⟩:=aD.mp hz;rw[xD];exact hw xs hx) hc) GC GD
 obtain ⟨e1,e2,e3⟩:=RF.uniq RR.2.2 (fun _ hi=>fD.row hi) (fun _ hi=>fD.row hi);have km:=B.km;have dt:=B.det;have d0:=B.d0
 have e4:jJ (nY pm ps2.length) ([]++jr (fun j r=>eV (rows.map kW) r (ps2.getD j 0)) ps2.length)=jJ (nY pm ps2.length) ([]++jr (fun j i=>JA rows i*cS rows i (ps.getD j 0)) ps2.length):=DG [] fun j hj r hr=>by
  obtain ⟨t,ht,rfl⟩:=pG hr;rw[Ea (B.rng t (by lia)),e2 j hj];rfl
 have e5:jr (fun j i=>JA rows i*cS rows i (ps.getD j 0)) ps2.length=(jr (fun j i=>cS rows i (ps.getD j 0)) ps2.length).map fun v i=>JA rows i*v i:=(cw_map (τ:=fun v i=>JA rows i*v i)).symm
 refine ⟨pm,fun i j hi hj e=>B.inj i j (by lia) (by lia) e,fun t ht=>B.rng t (by lia),by lia,?_⟩;rw[<- e1];intro z;apply d0;rw[dt];have e4:jJ (nY pm ps2.length) (jr (fun j r=>eV (rows.map kW) r (ps2.getD j 0)) ps2.length)=jJ (nY pm ps2.length) (jr (fun j i=>JA rows i*cS rows i (ps.getD j 0)) ps2.length):=e4;rw[e4,e5,yd,z,mZ]
theorem NM (hd:due.length=X.length) (hw:∀xs∈X,xs.length=n) (RR:cM (df X due) (n+1) R ps) (hn:n∉ps) {i:Nat} (hi:i < X.length):due.getD i 0=bX ps.length fun j=>cS R j n*cS X i (ps.getD j 0):=by
 obtain ⟨j1,j2⟩:=zB hd hw hi;have sp:=RR.2.2.span i (by rw[rM hd];exact hi);have:=RR.2.2.coef sp n;rw[<- j2,this];refine bB fun j hj=>?_
 have lo:=RR.2.2.low j hj;have ne:ps.getD j 0≠n:=fun z=>hn (by rw[<- z];exact getD_in hj)
 rw[j1 _ (by lia)];exact fj _ _
theorem GS (RR:cM X (n+1) R ps) {y:Rat} (hy:y∈ip R ps n):y=0\/∃j,j < ps.length/\y=cS R j n:=by
 obtain ⟨c,hc,rfl⟩:=bS hy;have lc:(ip R ps n).length=n:=kZ;have e:(ip R ps n)[c]=(ip R ps n).getD c 0:=by rw[ae,ag hc];rfl
 rw[e];by_cases hp:c∈ps
 ·obtain ⟨j,hj,ej⟩:=bS hp
  right
  refine ⟨j,hj,?_⟩;have ej':ps.getD j 0=c:=by rw[ae,ag hj];exact ej
  have:=Kl (R:=R) (ps:=ps) (n:=n) (j:=ps.length) (c:=c) (by lia);unfold ip;rw[this,js hj fun i hi ne=>if_neg fun z=>?_,if_pos ej'];rcases cR i j with y | y
  ·have:=RR.2.2.inc i j y hj
   lia
  ·have:=RR.2.2.inc j i (by lia) hi
   lia
 ·exact .inl (Mj hp)
theorem Pp {N Wx:Nat} {rs:List Nat} {vs:List iJ} (hl:vs.length<=N) (h:∀v∈vs,∀r∈rs,Fr 1 Wx (v r)):∃z:Int,jJ rs vs=(z:Rat)/\z.natAbs<=(N*Wx)^rs.length:=by
 have f:=Bo hl h;obtain ⟨z,ez⟩:=Ae f;rw[ez] at f;exact ⟨z,ez,yW f⟩
theorem OA (hK:∀xs∈K0,xs.length=n) (hL:L.length=n) (n15:n<=15) (D0:0 < D) (E0:0 < E) (w0:1<=W0) (w1:1<=W1) (tk:∀xs∈K0,∀x∈xs,Tp D W0 x) (tl:∀x∈L,Tp E W1 x) (RR:cM (df (cW K0 n) L) (K0.length+1) R ps) (hn:K0.length∉ps) :
  ∃q:Nat,0 < q/\q<=(16*W0)^n/\∀y∈ip R ps K0.length,Tp (E*q) (D*(n*(W1*(16*W0)^n))) y:=by
 have lt:(cW K0 n).length=n:=dj;have wt:∀xs∈cW K0 n,xs.length=K0.length:=kY;have hd:L.length=(cW K0 n).length:=by rw[lt];exact hL
 have tfn:∀i,i < n->∀j,cS (cW K0 n) i j=cS K0 j i:=fun i hi j=>by
  unfold cS;rw[ae (l:=cW K0 n),Av hi];show (K0.map fun xs=>xs.getD i 0).getD j 0=_
  rw[ae,aK,ae (l:=K0)];cases K0[j]? with
  | none=>show (0:Rat)=([]:List Rat).getD i 0;rw[ae];rfl
  | some xs=>rfl
 have tkf:∀j i,Tp D W0 (cS K0 j i):=fun j i=>by
  unfold cS;rw[ae (l:=K0)];by_cases hj:j < K0.length
  ·rw[ag hj];exact lW (tk _ (aJ hj)) i
  ·rw[aR (by lia)];show Tp D W0 (([]:List Rat).getD i 0)
   exact lW (by intro x z;cases z) i
 have tlf:∀i,Tp E W1 (L.getD i 0):=fun i=>lW tl i
 have tj:∀xs∈df (cW K0 n) L,∀x∈xs,Tp (D*E) (W0*E+W1*D) x:=HK fun i hi c=>by
  rw[rM hd,lt] at hi;obtain ⟨j1,j2⟩:=zB hd wt (by rw[lt];exact hi);by_cases hc:c < K0.length
  ·rw[j1 c hc,tfn i hi];obtain ⟨z,e,b⟩:=tkf c i;exact ⟨z*E,by rw[eJ,aT,<- e,aQ];grind,by rw[cY,ck];exact aj (aA _ b) (zQ _ _)⟩
  ·by_cases hc2:c=K0.length
   ·rw[hc2,j2];obtain ⟨z,e,b⟩:=tlf i;exact ⟨z*D,by rw[eJ,aT,<- e,aQ];grind,by rw[cY,ck];exact aj (aA _ b) (Nat.le_add_left _ _)⟩
   ·rw[Lm (ya wt) (by lia)];exact ⟨0,by rw[mY];rfl,bD _⟩
 obtain ⟨pm,pinj,plt,kn,dne⟩:=Cv (ya wt) (W:=W0*E+W1*D) (aj (bW w0 E0) (zQ _ _)) (bW D0 E0) tj RR;rw[rM hd,lt] at plt kn
 have pl:∀j,j < ps.length->ps.getD j 0 < K0.length:=fun j hj=>by
  have lo:=RR.2.2.low j hj;have ne:ps.getD j 0≠K0.length:=fun z=>hn (by rw[<- z];exact getD_in hj)
  lia
 have Dne:(D:Rat)≠0:=fun z=>by
  have:((D:Int):Rat)=0:=by rw[aQ];exact z
  have:=vp this
  lia
 have Ene:(E:Rat)≠0:=fun z=>by
  have:((E:Int):Rat)=0:=by rw[aQ];exact z
  have:=vp this
  lia
 have rlt:∀r∈nY pm ps.length,r < n:=fun r hr=>by
  obtain ⟨t,ht,rfl⟩:=pG hr;exact plt t ht
 obtain ⟨v,ev⟩:∃v:Nat->iJ,v=fun j i=>(D:Rat)*cS K0 (ps.getD j 0) i:=⟨_,rfl⟩
 have vint:∀j r,Fr 1 W0 (v j r):=fun j r=>by
  obtain ⟨z,e,b⟩:=tkf (ps.getD j 0) r;rw[ev];show Fr 1 W0 ((D:Rat)*_)
  rw[fj,e];exact Fr.int b
 have den:jJ (nY pm ps.length) (jr v ps.length)≠0:=by
  have e1:jJ (nY pm ps.length) ([]++jr v ps.length)=jJ (nY pm ps.length) ([]++jr (fun j i=>(D:Rat)*cS (df (cW K0 n) L) i (ps.getD j 0)) ps.length):=DG [] fun j hj r hr=>by
   have hr:=rlt r hr;obtain ⟨j1,_⟩:=zB hd wt (i:=r) (by rw[lt];exact hr);rw[j1 _ (pl j hj),tfn r hr,ev]
  have e2:jr (fun j i=>(D:Rat)*cS (df (cW K0 n) L) i (ps.getD j 0)) ps.length=(jr (fun j i=>cS (df (cW K0 n) L) i (ps.getD j 0)) ps.length).map fun v i=>(fun _=>(D:Rat)) i*v i:=(cw_map (τ:=fun v i=>(D:Rat)*v i)).symm
  have e1:jJ (nY pm ps.length) (jr v ps.length)=jJ (nY pm ps.length) (jr (fun j i=>(D:Rat)*cS (df (cW K0 n) L) i (ps.getD j 0)) ps.length):=e1;rw[e1,e2,yd];intro z;rcases BE.mp z with z | z
  ·exact Dg (g:=fun _=>(D:Rat)) (fun _ _=>Dne) z
  ·exact dne z
 obtain ⟨q,eq,bq⟩:=Pp (N:=16) (Wx:=W0) (rs:=nY pm ps.length) (vs:=jr v ps.length) (by rw[cw_len];lia) fun w hw r _=>by
  obtain ⟨t,_,rfl⟩:=cw_in hw;exact vint t r
 rw[xm] at bq;have up:(16*W0)^ps.length<=(16*W0)^n:=au (by lia) kn;have q0:q≠0:=fun z=>den (by rw[eq,z];rfl)
 refine ⟨q.natAbs,by lia,aj bq up,fun y hy=>?_⟩;rcases GS RR hy with rfl | ⟨i,hi,rfl⟩
 ·exact ⟨0,by rw[mY];rfl,bD _⟩
 ·have hW:∀r∈nY pm ps.length,(E:Rat)*L.getD r 0=bX ps.length fun j=>((E:Rat)*cS R j K0.length / D)*v j r:=fun r hr=>by
   have hr:=rlt r hr;rw[NM hd wt RR hn (i:=r) (by rw[lt];exact hr),<- dk];refine bB fun j hj=>?_
   rw[tfn r hr,ev]
   dsimp only
   grind
  have cr:=yX (v:=v) (c:=fun j=>(E:Rat)*cS R j K0.length / D) (W:=fun r=>(E:Rat)*L.getD r 0) hi hW
  have ex:jJ (nY pm ps.length) (Gi v i ps.length++(fun r=>(E:Rat)*L.getD r 0) :: jr v i)=bX ps.length fun t=>((E:Rat)*L.getD (pm t) 0)*jJ (nY pm ps.length) (Gi v i ps.length++(fun r=>if r=pm t then 1 else 0) :: jr v i):=DD (W:=fun _=>0) (v:=fun t r=>if r=pm t then 1 else 0) (c:=fun t=>(E:Rat)*L.getD (pm t) 0) _ _ (fun r hr=>by
   obtain ⟨t,ht,rfl⟩:=pG hr;rw[js ht fun j hj ne=>by rw[if_neg fun z=>ne (pinj j t hj ht z.symm),mZ],if_pos rfl,LP])
  have hlen:∀x:iJ,(Gi v i ps.length++x :: jr v i).length<=16:=fun x=>by
   have:=congrArg List.length (cw_split (v:=v) hi);rw[av,bP,cw_len] at this;rw[av,bP]
   lia
  have nf:Fr 1 (n*(W1*(16*W0)^n)) (jJ (nY pm ps.length) (Gi v i ps.length++(fun r=>(E:Rat)*L.getD r 0) :: jr v i)):=by
   rw[ex];refine (Ll (V:=W1*(16*W0)^n) fun t ht=>?_).mono (aA _ kn);obtain ⟨z,e,b⟩:=tlf (pm t)
   have f1:Fr 1 W1 ((E:Rat)*L.getD (pm t) 0):=by
    rw[fj,e];exact Fr.int b
   have f2:=Bo (W:=W0) (N:=16) (rs:=nY pm ps.length) (hlen fun r=>if r=pm t then 1 else 0) fun w hw r _=>by
    rcases az.mp hw with hw | hw
    ·obtain ⟨s,_,rfl⟩:=EU hw;exact vint s r
    ·rcases aG.mp hw with rfl | hw
     ·dsimp only
      split
      ·exact Fr.one w0
      ·exact Fr.zero
     ·obtain ⟨s,_,rfl⟩:=cw_in hw;exact vint s r
   rw[xm] at f2;have:=f1.mul f2;rw[uD] at this;exact this.mono (aN _ up)
  obtain ⟨z,ez⟩:=Ae nf;rw[ez] at nf cr;have bz:=yW nf;rw[eq] at cr
  have key:cS R i K0.length*((E:Rat)*(q:Rat))=(D:Rat)*(z:Rat):=by
   rw[cr];grind
  have kq:(((E*q.natAbs:Nat):Rat))=(E:Rat)*((q.natAbs:Nat):Rat):=eJ ..;rcases P8 q with h | h
  ·have hq:((q.natAbs:Nat):Rat)=(q:Rat):=by rw[<- aQ,<- h]
   refine ⟨D*z,?_,by rw[cY,ck];exact aN _ bz⟩;rw[kq,hq,key,aT,aQ]
  ·have hq:((q.natAbs:Nat):Rat)=-(q:Rat):=by rw[<- aQ,<- dM];congr 1;lia
   refine ⟨-(D*z),?_,by rw[xi,cY,ck];exact aN _ bz⟩;rw[kq,hq,dM,aT,aQ,<- key];grind
theorem Kt {pm w : Nat → Nat} {X Y s : Nat} (hX : 1 ≤ X) (hY : 1 ≤ Y) (h1 : ∀ r, r ≠ s → w r ≤ X) (h2 : w s ≤ Y) : ∀ k, (∀ i j, i < k → j < k → pm i = pm j → i = j) → ((∃ t, t < k /\ pm t = s) → ((nY pm k).map w).foldr (· * ·) 1 ≤ X ^ k * Y) /\ ((∀ t, t < k → pm t ≠ s) → ((nY pm k).map w).foldr (· * ·) 1 ≤ X ^ k)
  | 0, _ => ⟨fun ⟨t, h, _⟩ => absurd h (fJ _), fun _ => ao _⟩
  | k + 1, inj => by
    obtain ⟨i1, i2⟩ := Kt (pm := pm) (w := w) hX hY h1 h2 k fun i j hi hj => inj i j (by lia) (by lia)
    have mul : ((nY pm (k + 1)).map w).foldr (· * ·) 1 = w (pm k) * ((nY pm k).map w).foldr (· * ·) 1 := rfl;refine ⟨fun ⟨t, ht, et⟩ => ?_, fun h => ?_⟩
    · rw [mul];by_cases e : pm k = s
      · have := i2 fun t' ht' z => by
          have := inj t' k (by lia) (by lia) (z.trans e.symm)
          lia
        rw [e]
        calc w s * _ ≤ Y * X ^ k := aF h2 this
          _ = X ^ k * Y := b7 _ _
          _ ≤ X ^ (k + 1) * Y := aA _ (au hX (uE _))
      · have := i1 ⟨t, by rcases cR t k with z | z; exact z; exact absurd (by rw [show k = t by lia]; exact et) e, et⟩
        calc w (pm k) * _ ≤ X * (X ^ k * Y) := aF (h1 _ e) this
          _ = X ^ (k + 1) * Y := by rw [dO, <- cE, b7 X]
    · rw [mul, dO, b7 (X ^ k)];exact aF (h1 _ (h k (by lia))) (i2 fun t ht => h t (by lia))
theorem Ms {pm w:Nat->Nat} {X Y s:Nat} (hX:1<=X) (hY:1<=Y) (h1:∀r,r≠s->w r<=X) (h2:w s<=Y) {k n:Nat} (hk:k<=n) (inj:∀i j,i < k->j < k->pm i=pm j->i=j):((nY pm k).map w).foldr (·*·) 1<=X^n*Y:=by
 obtain ⟨a,b⟩:=Kt (pm:=pm) (w:=w) hX hY h1 h2 k inj;have up:X^k<=X^n:=au hX hk;by_cases e:∃t,t < k/\pm t=s
 ·exact aj (a e) (aA _ up)
 ·exact aj (b fun t ht z=>e ⟨t,ht,z⟩) (aj up (dn _ hY))
theorem KG (hK:∀xs∈K0,xs.length=n) (hL:L.length=n) (n15:n<=15) (D0:0 < D) (E0:0 < E) (w0:1<=W0) (tk:∀xs∈K0,∀x∈xs,Tp D W0 x) (tl:∀x∈L,Tp E W1 x) (RR:cM (df (K0++[L]) (List.replicate K0.length 0++[1])) (n+1) R ps) (hn:n∉ps) :
  ∃q:Nat,0 < q/\q<=(16*W0)^n*(16*(W1+E))/\∀y∈ip R ps n,Tp q ((16*W0)^n*(16*(W1+E))) y:=by
 have hw:∀xs∈K0++[L],xs.length=n:=fun xs hx=>by
  rcases az.mp hx with hx | hx
  ·exact hK xs hx
  ·rw[bT.mp hx];exact hL
 have hd:(List.replicate K0.length (0:Rat)++[1]).length=(K0++[L]).length:=by simp
 have lX:(K0++[L]).length=K0.length+1:=by simp
 have due:∀i,i < K0.length+1->(List.replicate K0.length (0:Rat)++[1]).getD i 0=if i=K0.length then 1 else 0:=fun i hi=>by
  rw[ae];by_cases e:i=K0.length
  ·rw[aZ (by simp;lia),if_pos e];simp [e]
  ·rw[bE (by simp;lia),if_neg e,fH,if_pos (by lia)];rfl
 have tX:∀i c,Tp (if i=K0.length then E else D) (if i=K0.length then W1 else W0) (cS (K0++[L]) i c):=fun i c=>by
  by_cases e:i=K0.length
  ·rw[if_pos e,if_pos e,e];have:=Nx (X:=K0) (Y:=[L]) (i:=0);rw[Nat.add_zero] at this;rw[this];exact lW tl c
  ·rw[if_neg e,if_neg e];by_cases h:i < K0.length
   ·rw[LK h];unfold cS;rw[ae (l:=K0),ag h];exact lW (tk _ (aJ h)) c
   ·unfold cS;rw[ae (l:=K0++[L]),aR (by rw[lX];lia)];exact lW (by intro x z;cases z) c
 have tj:∀xs∈df (K0++[L]) (List.replicate K0.length 0++[1]),∀x∈xs,Tp (D*E) (W0*E+W1*D+D*E) x:=HK fun i hi c=>by
  rw[rM hd] at hi;obtain ⟨j1,j2⟩:=zB hd hw hi;by_cases hc:c < n
  ·rw[j1 c hc];obtain ⟨z,e,b⟩:=tX i c;by_cases h:i=K0.length
   ·rw[if_pos h] at e b;exact ⟨z*D,by rw[eJ,aT,<- e,aQ];grind,by rw[cY,ck];have:=aA D b;lia⟩
   ·rw[if_neg h] at e b;exact ⟨z*E,by rw[eJ,aT,<- e,aQ];grind,by rw[cY,ck];have:=aA E b;lia⟩
  ·by_cases hc2:c=n
   ·rw[hc2,j2,due i (by lia)]
    split
    ·exact ⟨(D*E:Nat),by rw[Rat.one_mul,aQ],by rw[ck];lia⟩
    ·exact ⟨0,by rw[mY];rfl,bD _⟩
   ·rw[Lm (ya hw) (by lia)];exact ⟨0,by rw[mY];rfl,bD _⟩
 obtain ⟨pm,pinj,plt,_,dne⟩:=Cv (ya hw) (W:=W0*E+W1*D+D*E) (by have:=bW D0 E0;lia) (bW D0 E0) tj RR;rw[rM hd,lX] at plt
 have pl:∀j,j < ps.length->ps.getD j 0 < n:=fun j hj=>by
  have lo:=RR.2.2.low j hj;have ne:ps.getD j 0≠n:=fun z=>hn (by rw[<- z];exact getD_in hj)
  lia
 have kn:ps.length<=n:=by
  have inc:∀j,j < ps.length->j<=ps.getD j 0:=by
   intro j
   induction j with
   | zero=>intro _;exact bD _
   | succ j ih =>
    intro hj;have:=ih (by lia);have:=RR.2.2.inc j (j+1) (by lia) hj
    lia
  rcases gA ps.length with z | z
  ·lia
  ·have:=inc (ps.length - 1) (by lia);have:=pl (ps.length - 1) (by lia)
   lia
 obtain ⟨g,eg⟩:∃g:Nat->Rat,g=fun i=>((if i=K0.length then E else D:Nat):Rat):=⟨_,rfl⟩
 have gne:∀i,g i≠0:=fun i z=>by
  rw[eg] at z;have z:(((if i=K0.length then E else D:Nat):Int):Rat)=0:=by rw[aQ];exact z
  have:=vp z
  split at this <;> lia
 have rlt:∀r∈nY pm ps.length,r < K0.length+1:=fun r hr=>by
  obtain ⟨t,ht,rfl⟩:=pG hr;exact plt t ht
 obtain ⟨v,ev⟩:∃v:Nat->iJ,v=fun j i=>g i*cS (K0++[L]) i (ps.getD j 0):=⟨_,rfl⟩
 obtain ⟨wt,ew⟩:∃wt:Nat->Nat,wt=fun i=>if i=K0.length then W1+E else W0:=⟨_,rfl⟩
 have vint:∀j r,Fr 1 (wt r) (v j r):=fun j r=>by
  obtain ⟨z,e,b⟩:=tX r (ps.getD j 0);rw[ev,eg,ew];show Fr 1 _ (_*_)
  rw[fj,e];refine (Fr.int b).mono ?_
  dsimp only
  split <;> lia
 have bnd:∀{vs:List iJ},vs.length<=16->(∀w∈vs,∀r∈nY pm ps.length,Fr 1 (wt r) (w r))->∃z:Int,jJ (nY pm ps.length) vs=(z:Rat)/\z.natAbs<=(16*W0)^n*(16*(W1+E)):=fun {vs} hl h=>by
  have f:=Lu hl h;obtain ⟨z,ez⟩:=Ae f;rw[ez] at f;refine ⟨z,ez,aj (yW f) (Ms (s:=K0.length) (by lia) (by lia) (fun r hr=>?_) ?_ kn pinj)⟩
  ·rw[ew];dsimp only;rw[if_neg hr];exact ao _
  ·rw[ew];dsimp only;rw[if_pos rfl];exact ao _
 have den:jJ (nY pm ps.length) (jr v ps.length)≠0:=by
  have e1:jJ (nY pm ps.length) ([]++jr v ps.length)=jJ (nY pm ps.length) ([]++jr (fun j i=>g i*cS (df (K0++[L]) (List.replicate K0.length 0++[1])) i (ps.getD j 0)) ps.length):=DG [] fun j hj r hr=>by
   have hr:=rlt r hr;obtain ⟨j1,_⟩:=zB hd hw (i:=r) (by rw[lX];exact hr);rw[j1 _ (pl j hj),ev]
  have e2:jr (fun j i=>g i*cS (df (K0++[L]) (List.replicate K0.length 0++[1])) i (ps.getD j 0)) ps.length=(jr (fun j i=>cS (df (K0++[L]) (List.replicate K0.length 0++[1])) i (ps.getD j 0)) ps.length).map fun v i=>g i*v i:=(cw_map (τ:=fun v i=>g i*v i)).symm
  have e1:jJ (nY pm ps.length) (jr v ps.length)=jJ (nY pm ps.length) (jr (fun j i=>g i*cS (df (K0++[L]) (List.replicate K0.length 0++[1])) i (ps.getD j 0)) ps.length):=e1;rw[e1,e2,yd];intro z;rcases BE.mp z with z | z
  ·exact Dg (fun r _=>gne r) z
  ·exact dne z
 obtain ⟨q,eq,bq⟩:=bnd (vs:=jr v ps.length) (by rw[cw_len];lia) fun w hw r _=>by
  obtain ⟨t,_,rfl⟩:=cw_in hw;exact vint t r
 have q0:q≠0:=fun z=>den (by rw[eq,z];rfl)
 refine ⟨q.natAbs,by lia,bq,fun y hy=>?_⟩;rcases GS RR hy with rfl | ⟨i,hi,rfl⟩
 ·exact ⟨0,by rw[mY];rfl,bD _⟩
 ·have hW:∀r∈nY pm ps.length,g r*(if r=K0.length then 1 else 0)=bX ps.length fun j=>cS R j n*v j r:=fun r hr=>by
   have hr:=rlt r hr;rw[<- due r hr,NM hd hw RR hn (i:=r) (by rw[lX];exact hr),<- dk];refine bB fun j hj=>?_
   rw[ev]
   dsimp only
   grind
  have cr:=yX (v:=v) (c:=fun j=>cS R j n) (W:=fun r=>g r*(if r=K0.length then 1 else 0)) hi hW
  obtain ⟨z,ez,bz⟩:=bnd (vs:=Gi v i ps.length++(fun r=>g r*(if r=K0.length then 1 else 0)) :: jr v i) (by
   have:=congrArg List.length (cw_split (v:=v) hi);rw[av,bP,cw_len] at this;rw[av,bP]
   lia) fun w hw r _=>by
    rcases az.mp hw with hw | hw
    ·obtain ⟨s,_,rfl⟩:=EU hw;exact vint s r
    ·rcases aG.mp hw with rfl | hw
     ·dsimp only
      by_cases e:r=K0.length
      ·rw[if_pos e,LP,eg,ew]
       dsimp only
       rw[if_pos e,if_pos e,<- aQ];exact Fr.int (by rw[ck];lia)
      ·rw[if_neg e,mZ];exact Fr.zero
     ·obtain ⟨s,_,rfl⟩:=cw_in hw;exact vint s r
  rw[ez,eq] at cr;have key:cS R i n*(q:Rat)=(z:Rat):=cr.symm;rcases P8 q with h | h
  ·have hq:((q.natAbs:Nat):Rat)=(q:Rat):=by rw[<- aQ,<- h]
   exact ⟨z,by rw[hq,key],bz⟩
  ·have hq:((q.natAbs:Nat):Rat)=-(q:Rat):=by rw[<- aQ,<- dM];congr 1;lia
   exact ⟨-z,by rw[hq,dM,<- key];grind,by rw[xi];exact bz⟩
end
def jq (mv:List (List Rat)):Nat->List Rat->List Rat
 | 0,x=>x
 | t+1,x=>uG mv (jq mv t x)
section
variable {mv pt lk pus:List (List Rat)} {st pu go:List Rat} {n t T c:Nat}
theorem gH (h:st.length=mv.length):∀t,(jq mv t st).length=mv.length
 | 0=>h
 | _+1=>Dj
theorem Gf {x y:List Rat} (h:x.length=y.length) (e:∀c,c < x.length->x.getD c 0=y.getD c 0):x=y:=by
 apply eY h;intro c h1 h2;have:=e c h1;rwa [ae,ae,ag h1,ag h2] at this
theorem QK (wm:∀xs∈mv,xs.length=mv.length) (h:st.length=mv.length) (hc:c < mv.length):(uG mv st).getD c 0=bX mv.length fun j=>cS mv c j*st.getD j 0:=by
 have e:(uG mv st).getD c 0=dh mv[c] st:=by
  unfold uG;rw[ae,aK,ag hc];rfl
 have wc:=wm _ (aJ hc);rw[e,fG (by lia),wc];refine bB fun j _=>?_
 unfold cS;rw[ae (l:=mv),ag hc];rfl
theorem KY (D:fz mv pt lk) (h:st.length=mv.length) (hp:pu.length=pt.length) (hc:c < mv.length):(fw mv pt st pu).getD c 0=bX mv.length (fun j=>cS mv c j*st.getD j 0)+bX pt.length fun i=>pu.getD i 0*cS pt i c:=by
 have wc:=D.mw _ (aJ hc)
 have e:(fw mv pt st pu).getD c 0=dh (mv[c]++pt.map fun xs=>xs.getD c 0) (st++pu):=by
  unfold fw;rw[ae,bY,ag hc,Av hc];rfl
 rw[e,vn (by lia),fG (by lia),fG (by rw[ar];lia),wc,ar];congr 1
 ·refine bB fun j _=>?_
  unfold cS;rw[ae (l:=mv),ag hc];rfl
 ·refine bB fun i hi=>?_
  rw[fj];congr 1;unfold cS;rw[ae,aK,ae (l:=pt),ag hi];rfl
theorem xZ:∀t,(kry mv pt t).length=t*pt.length
 | 0=>by rw[Nat.zero_mul];rfl
 | t+1=>by
  show (pt++(kry mv pt t).map (uG mv)).length=_
  rw[av,ar,xZ t,dA,As]
theorem xG (D:fz mv pt lk) (ls:st.length=mv.length):∀k,k<=pus.length->(∀xs∈pus,xs.length=pt.length)->∀c,c < mv.length->(kX mv pt st pus k).getD c 0=(jq mv k st).getD c 0+bX (kry mv pt k).length fun i=>((pus.take k).reverse.flatten).getD i 0*cS (kry mv pt k) i c:=by
 intro k
 induction k with
 | zero =>
  intro _ _ c _;show st.getD c 0=st.getD c 0+0
  grind
 | succ k ih =>
  intro hk hp c hc;have hk':k < pus.length:=hk;have e:=ag hk';have hl:=hp _ (aJ hk');have ls':=jz (pt:=pt) (pus:=pus) ls (k:=k) (by lia)
  have lf:((pus.take k).reverse.flatten).length=(kry mv pt k).length:=by
   rw[xZ,EO (i:=pt.length) fun xs hx=>hp xs (cz (zR.mp hx)),nR,cO,uH (by lia)]
  rw[nC e,KY D ls' hl hc]
  have er:(pus.take (k+1)).reverse.flatten=pus[k]++(pus.take k).reverse.flatten:=by
   rw[take_snoc e,List.reverse_append];simp
  have ek:kry mv pt (k+1)=pt++(kry mv pt k).map (uG mv):=rfl;rw[er,ek,av,ar,yG]
  have p1:(bX pt.length fun i=>(pus[k]++(pus.take k).reverse.flatten).getD i 0*cS (pt++(kry mv pt k).map (uG mv)) i c)=bX pt.length fun i=>pus[k].getD i 0*cS pt i c:=bB fun i hi=>by
   rw[LK hi,ae,bE (by lia),ae]
  have p2:(bX (kry mv pt k).length fun i=>(pus[k]++(pus.take k).reverse.flatten).getD (pt.length+i) 0*cS (pt++(kry mv pt k).map (uG mv)) (pt.length+i) c)=bX mv.length fun j=>cS mv c j*bX (kry mv pt k).length fun i=>((pus.take k).reverse.flatten).getD i 0*cS (kry mv pt k) i j:=by
   have q1:∀i,i < (kry mv pt k).length->(pus[k]++(pus.take k).reverse.flatten).getD (pt.length+i) 0*cS (pt++(kry mv pt k).map (uG mv)) (pt.length+i) c=bX mv.length fun j=>cS mv c j*(((pus.take k).reverse.flatten).getD i 0*cS (kry mv pt k) i j):=fun i hi=>by
    rw[Nx,KO rfl D.mw (gM rfl D.pw k) hi,ae,aZ (by lia),hl,Q7,<- ae,<- dk];exact bB fun j _=>by grind
   rw[bB q1,jM];exact bB fun j _=>dk
  rw[p1,p2];have p3:(jq mv (k+1) st).getD c 0=bX mv.length fun j=>cS mv c j*(jq mv k st).getD j 0:=QK D.mw (gH ls k) hc
  rw[p3]
  have p4:(bX mv.length fun j=>cS mv c j*(kX mv pt st pus k).getD j 0)=(bX mv.length fun j=>cS mv c j*(jq mv k st).getD j 0)+bX mv.length fun j=>cS mv c j*bX (kry mv pt k).length fun i=>((pus.take k).reverse.flatten).getD i 0*cS (kry mv pt k) i j:=by
   rw[<- uM];refine bB fun j hj=>?_
   rw[ih (by lia) hp j hj];grind
  rw[p4];grind
end
section
variable {mv pt lk pus R:List (List Rat)} {st pu go w pr L:List Rat} {n t T c u k:Nat} {ps:List Nat}
theorem J0 (D:fz mv pt lk) (ls:st.length=mv.length):kX mv pt st (List.replicate T (List.replicate pt.length 0)) T=jq mv T st:=by
 have l1:=jz (pt:=pt) (pus:=List.replicate T (List.replicate pt.length 0)) ls (k:=T) (by rw[aE];exact ao _);refine Gf (by rw[l1,gH ls]) fun c hc=>?_
 rw[l1] at hc;rw[xG D ls T (by rw[aE];exact ao _) (fun xs hx=>by rw[(dq.mp hx).2,aE]) c hc,dH fun i _=>?_,nh]
 have z:(((List.replicate T (List.replicate pt.length (0:Rat))).take T).reverse.flatten).getD i 0=0:=by
  rw[ae];cases e:(((List.replicate T (List.replicate pt.length (0:Rat))).take T).reverse.flatten)[i]? with
  | none=>rfl
  | some y =>
   have:=ay e;obtain ⟨l,hl,hy⟩:=eX.mp this;have hl:=cz (zR.mp hl);rw[(dq.mp hl).2] at hy;exact (dq.mp hy).2
 rw[z,mY]
def fO (mv:List (List Rat)) (T:Nat) (st go:List Rat):List Rat:=List.zipWith (fun x y=>x - y) go (jq mv T st)
theorem sF (ls:st.length=mv.length) (lg:go.length=mv.length):(fO mv T st go).length=mv.length:=by
 unfold fO;rw[b9,gH ls,lg,Nat.min_self]
theorem Fi {x y:List Rat} (h:x.length=y.length) (hc:c < x.length):(List.zipWith (fun x y=>x - y) x y).getD c 0=x.getD c 0 - y.getD c 0:=by
 rw[ae,bY,ae (l:=x),ae (l:=y),ag hc,ag (by lia)];rfl
theorem HD:∀u,∃Z,kry mv pt (u+1)=kry mv pt u++Z
 | 0=>⟨pt++[],rfl⟩
 | u+1=>by
  obtain ⟨Z,e⟩:=HD u;refine ⟨Z.map (uG mv),?_⟩;show pt++(kry mv pt (u+1)).map (uG mv)=(pt++(kry mv pt u).map (uG mv))++_
  rw[e,cV,cD]
theorem EM {u:Nat}:∀s,∃Z,kry mv pt (u+s)=kry mv pt u++Z
 | 0=>⟨[],by rw[oY];rfl⟩
 | s+1=>by
  obtain ⟨Z,e⟩:=EM (u:=u) s;obtain ⟨Y,e'⟩:=HD (mv:=mv) (pt:=pt) (u+s);exact ⟨Z++Y,by rw[<- Nat.add_assoc,e',e,cD]⟩
def zY (w:List Rat) (u k:Nat):List (List Rat):=(List.range u).map fun t=>(w.drop (t*k)).take k
theorem EV:∀{u:Nat} {w:List Rat},w.length=u*k->(zY w u k).flatten=w
 | 0,w,h=>by
  rw[Nat.zero_mul] at h;rw[List.length_eq_zero_iff.mp h];rfl
 | u+1,w,h=>by
  have e:zY w (u+1) k=zY (w.take (u*k)) u k++[w.drop (u*k)]:=by
   unfold zY;rw[LW,cV];congr 1
   ·refine D8 fun t ht=>?_
    have ht:=CN.mp ht;have:t*k+k<=u*k:=by rw[<- dA];exact aA _ ht
    rw[List.drop_take,List.take_take,uH (by lia)]
   ·show [(w.drop (u*k)).take k]=_
    rw[aH (by rw[JL,h,dA];lia)]
  rw[e,ji,EV (by rw[cO,h,dA];lia)];simp
theorem QX (h:w.length=u*k):∀xs∈zY w u k,xs.length=k:=fun xs hx=>by
 obtain ⟨t,ht,rfl⟩:=aD.mp hx;have ht:=CN.mp ht;have:t*k+k<=u*k:=by rw[<- dA];exact aA _ ht
 rw[cO,JL]
 lia
theorem LF {x:Rat} {xs:List Rat} (hx:xs∈zY w u k) (hx':x∈xs):x∈w:=by
 obtain ⟨t,_,rfl⟩:=aD.mp hx;exact List.mem_of_mem_drop (cz hx')
def Df (w:List Rat) (T u k:Nat):List (List Rat):=List.replicate (T - u) (List.replicate k 0)++(zY w u k).reverse
theorem GV (hu:u<=T):(Df w T u k).length=T:=by
 unfold Df zY;rw[av,aE,nR,ar,cK]
 lia
theorem NR (h:w.length=u*k):∀xs∈Df w T u k,xs.length=k:=fun xs hx=>by
 rcases az.mp hx with hx | hx
 ·rw[(dq.mp hx).2,aE]
 ·exact QX h xs (zR.mp hx)
theorem MS {P:Rat->Prop} (h0:P 0) (h:∀x∈w,P x):∀xs∈Df w T u k,∀x∈xs,P x:=fun xs hx x hx'=>by
 rcases az.mp hx with hx | hx
 ·rw[(dq.mp hx).2] at hx';rw[(dq.mp hx').2];exact h0
 ·exact h x (LF (zR.mp hx) hx')
theorem Ku {T k:Nat}:(List.replicate T (List.replicate k (0:Rat))).flatten=List.replicate (T*k) 0:=by
 rw[List.flatten_replicate_replicate]
theorem Gj (D:fz mv pt lk) (ls:st.length=mv.length) (lg:go.length=mv.length) (hu:u<=T) (hw:w.length=(kry mv pt u).length) (e:Of (kry mv pt u) w mv.length=fO mv T st go):kX mv pt st (Df w T u pt.length) T=go:=by
 have hw':w.length=u*pt.length:=by rw[hw,xZ]
 have lp:=GV (w:=w) (k:=pt.length) hu;have l1:=jz (pt:=pt) (pus:=Df w T u pt.length) ls (k:=T) (by lia);refine Gf (by rw[l1,lg]) fun c hc=>?_
 rw[l1] at hc;rw[xG D ls T (by lia) (NR hw') c hc,aH (by lia)]
 have er:(Df w T u pt.length).reverse.flatten=w++List.replicate ((T - u)*pt.length) 0:=by
  unfold Df;rw[List.reverse_append,List.reverse_reverse,ji,EV hw',List.reverse_replicate,Ku]
 obtain ⟨Z,eZ⟩:=EM (mv:=mv) (pt:=pt) (u:=u) (T - u);rw[show u+(T - u)=T by lia] at eZ;rw[er,eZ,av,yG]
 have p1:(bX (kry mv pt u).length fun i=>(w++List.replicate ((T - u)*pt.length) 0).getD i 0*cS (kry mv pt u++Z) i c)=(fO mv T st go).getD c 0:=by
  rw[<- e,GG hc,hw];exact bB fun i hi=>by rw[LK hi,ae,bE (by lia),ae]
 have p2:(bX Z.length fun i=>(w++List.replicate ((T - u)*pt.length) 0).getD ((kry mv pt u).length+i) 0*cS (kry mv pt u++Z) ((kry mv pt u).length+i) c)=0:=dH fun i _=>by
  have z:(w++List.replicate ((T - u)*pt.length) (0:Rat)).getD ((kry mv pt u).length+i) 0=0:=by
   rw[ae,aZ (by lia),fH]
   split <;> rfl
  rw[z,mY]
 rw[p1,p2,nh];unfold fO;rw[Fi (by rw[lg,gH ls]) (by lia)];grind
theorem IZ {ps':List Nat} (wp:∀xs∈pt,xs.length=mv.length) (RRu:cM (kry mv pt u) mv.length R ps) (RRT:cM (kry mv pt T) mv.length R ps') (lp:pr.length=mv.length) (h:∀xs∈kry mv pt u,dh xs pr=0):∀xs∈kry mv pt T,dh xs pr=0:=fun xs hx=>by
 have wu:=gM (mv:=mv) rfl wp u;have wT:=gM (mv:=mv) rfl wp T;obtain ⟨i,hi,rfl⟩:=bS hx;have s1:fD (kry mv pt u).length (cS (kry mv pt u)) (cS (kry mv pt T) i):=fD.trans (fun t ht=>RRu.2.2.back t (by rw[<- RRu.1,RRT.1];exact ht)) (RRT.2.2.span i hi);obtain ⟨v,hv⟩:=s1
 have fn:∀{X:List (List Rat)} {i:Nat} (h:i < X.length) (c:Nat),X[i].getD c 0=cS X i c:=fun {X i} h c=>by
  unfold cS;rw[ae (l:=X),ag h];rfl
 have w1:=wT _ (aJ hi);rw[fG (by lia),w1]
 have e1:(bX mv.length fun c=>(kry mv pt T)[i].getD c 0*pr.getD c 0)=bX (kry mv pt u).length fun t=>v t*bX mv.length fun c=>cS (kry mv pt u) t c*pr.getD c 0:=by
  have q:∀c,c < mv.length->(kry mv pt T)[i].getD c 0*pr.getD c 0=bX (kry mv pt u).length fun t=>v t*(cS (kry mv pt u) t c*pr.getD c 0):=fun c _=>by
   rw[fn hi c,hv c,fj,<- dk];exact bB fun t _=>by grind
  rw[bB q,jM];exact bB fun t _=>dk
 rw[e1];refine dH fun t ht=>?_
 have w2:=wu _ (aJ ht);have:=h _ (aJ ht);rw[fG (by lia),w2] at this
 have q:(bX mv.length fun c=>cS (kry mv pt u) t c*pr.getD c 0)=0:=by
  refine Eq.trans ?_ this;exact bB fun c _=>by rw[fn ht c]
 rw[q,mZ]
end
def BV (l:Addr):Hp:=fun q=>if q=l then some (.lst []) else none
theorem off_ne {l:Addr}:BV l l≠none:=by unfold BV;rw[if_pos rfl];exact fun z=>nomatch z
theorem KR {l q:Addr} (h:q≠l):BV l q=none:=by unfold BV;rw[if_neg h]
def JI (K:PySem.W.Frag) (l:Addr) (H:Hp) (R:List (List Rat)) (v:V):Prop:=∃q,v=V.ref q/\q≠l/\bR K (BV l) H q R
section
variable {K:PySem.W.Frag} {H0 H H':Hp} {l p q:Addr} {R:List (List Rat)} {v:V} {mv pt:List (List Rat)} {u T:Nat}
theorem bR.off (h:bR K H0 H p R) (hl:H l=none):p≠l/\bR K (BV l) H p R:=by
 obtain ⟨xs,g,r,n⟩:=h;refine ⟨fun z=>(by rw[z,hl] at g;cases g),xs,g,Paired.imp' (fun _ _ ⟨q,a,b,c⟩=>⟨q,a,KR fun z=>?_,c⟩) r,n⟩;obtain ⟨_,gg,_⟩:=c;rw[z,hl] at gg;cases gg
theorem JI.same (h:JI K l H R v) (s:aL H H'):JI K l H' R v:=by obtain ⟨q,a,b,c⟩:=h;exact ⟨q,a,b,c.same s⟩
theorem JI.upd {ys zs:List V} (h:JI K l H R v) (g:H l=some (.lst ys)):JI K l (upd H l (.lst zs)) R v:=by obtain ⟨q,a,b,c⟩:=h;exact ⟨q,a,b,c.updL g off_ne b⟩
def JC (mv pt:List (List Rat)) (u:Nat):List (List (List Rat)):=(List.range u).map fun s=>pt.map (jq mv s)
theorem DT:JC mv pt (u+1)=JC mv pt u++[pt.map (jq mv u)]:=by unfold JC;rw[LW,cV];rfl
theorem v8:∀u,(JC mv pt u).flatten=kry mv pt u
 | 0=>rfl
 | u+1=>by
  have e:JC mv pt (u+1)=pt :: (JC mv pt u).map (List.map (uG mv)):=by
   unfold JC;rw[List.range_succ_eq_map,iu,wD];congr 1
   ·exact uF pt
   ·rw[wD];refine D8 fun s _=>?_
    show pt.map (jq mv (s+1))=(pt.map (jq mv s)).map (uG mv)
    rw[wD];rfl
  rw[e,ik,<- List.map_flatten,v8 u];rfl
theorem Px {s:Nat} {xs:List Rat} (h:xs∈pt.map (jq mv s)):xs∈kry mv pt (s+1):=by
 rw[<- v8,DT,ji];exact bC _ (by simpa using h)
theorem vA.fitP {a c s:Nat} (F:vA mv pt a c) (wm:∀xs∈mv,xs.length=mv.length) (wp:∀xs∈pt,xs.length=mv.length) (hs:s+1<=mv.length):∀xs∈mv,∀r∈pt.map (jq mv s),yx xs r:=fun xs hx r hr=>by
 obtain ⟨M,V,M0,Ma,hV,fm,fp,a3,c3,e14,_⟩:=F;have f:=La rfl wm wp hV fm fp (s+1) r (Px hr);have V1:V<=2^c:=aj (cH _ (by lia)) hV;have e1:(s+1)*(a+c)<=mv.length*(a+c):=aA _ hs;have e2:mv.length*(a+c)+4<=mv.length*(mv.length*(a+c)+4):=cH _ (by lia);have e3:(s+1)*(a+c)=a*(s+1)+c*(s+1):=by rw[ft,b7,b7 c]
 refine ⟨a,c,a*(s+1),c*(s+1),⟨M,V,M0,Ma,V1,fm xs hx⟩,⟨M^(s+1),2^(c*(s+1)),dS M0,?_,ao _,f⟩,by lia⟩;exact aj (jg Ma _) (by rw[<- yz];exact ao _)
end
def Kk (K:PySem.W.Frag) (C:Addr):Sp:=fun vs H Q _=>∃(x:Addr) (u a c:Nat) (H0:Hp) (mv pt lk:List (List Rat)),vs=[.ref x,.int u]/\u<=mv.length/\nW K H0 H C x mv pt lk/\fz mv pt lk/\vA mv pt a c /\
 ∀r us H',H r=none->aL H H'->H' r=some (.lst us)->Paired (JI K r H') (JC mv pt u) us->Q (.ref r) H'
def Kh (K:PySem.W.Frag):Sp:=fun vs H Q _=>∃(p:Addr) (xs:List V) (Rs:List (List (List Rat))),vs=[.ref p]/\H p=some (.lst xs)/\Paired (JI K p H) Rs xs/\Rs.flatten.length<=1000 /\
 ∀r H0 H',H r=none->aL H H'->bR K H0 H' r Rs.flatten->Q (.ref r) H'
def Mf (K:PySem.W.Frag):Sp:=fun vs H Q _=>∃(p:Addr) (u k:Nat) (w:List Rat),vs=[.ref p,.int u,.int k]/\cw K H p w/\w.length=u*k/\u*k<=1000/\u<=1000/\k<=1000 /\
 ∀r H',H r=none->aL H H'->bR K H H' r (zY w u k)->Q (.ref r) H'
def Kb (K:PySem.W.Frag) (C:Addr):Sp:=fun vs H Q _=>∃(x:Addr) (T:Nat) (H0:Hp) (mv pt lk:List (List Rat)),vs=[.ref x,.int T]/\T<=100/\nW K H0 H C x mv pt lk/\fz mv pt lk /\
 ∀r H',H r=none->aL H H'->bR K H H' r (List.replicate T (List.replicate pt.length 0))->Q (.ref r) H'
def Kf (K:PySem.W.Frag) (C:Addr):Sp:=fun vs H Q _=>∃(x s g:Addr) (T:Nat) (H0:Hp) (mv pt lk:List (List Rat)) (st go:List Rat),vs=[.ref x,.ref s,.ref g,.int T]/\T<=99/\nW K H0 H C x mv pt lk/\fz mv pt lk/\JH mv pt lk/\cw K H s st/\st.length=mv.length/\cw K H g go/\go.length=mv.length/\Fc mv pt st (List.replicate T (List.replicate pt.length 0))/\(∀x∈go,rW x) /\
 ∀r H',H r=none->aL H H'->cw K H' r (fO mv T st go)->Q (.ref r) H'
structure Ro (mv pt:List (List Rat)) (L:List Rat) (D W0 E W1:Nat):Prop where
 d0:0 < D
 e0:0 < E
 w0:1<=W0
 w1:1<=W1
 tk:∀u,u<=mv.length->∀xs∈kry mv pt u,∀x∈xs,Tp D W0 x
 tl:∀x∈L,Tp E W1 x
 de:D*E<=2^4300
 sw:∃w,W0*E+W1*D+D*E<=2^w/\w<=4300/\(mv.length+1)*(w+4)<=8900
def Kj (K:PySem.W.Frag) (C:Addr):Sp:=fun vs H Q _=>∃(x s g:Addr) (T a c D W0 E W1:Nat) (H0:Hp) (mv pt lk:List (List Rat)) (st go:List Rat),vs=[.ref x,.ref s,.ref g,.int T]/\T<=99/\nW K H0 H C x mv pt lk/\fz mv pt lk/\JH mv pt lk/\vA mv pt a c/\cw K H s st/\st.length=mv.length/\cw K H g go/\go.length=mv.length/\Fc mv pt st (List.replicate T (List.replicate pt.length 0))/\(∀x∈go,rW x)/\Ro mv pt (fO mv T st go) D W0 E W1 /\
 (∀t p pus q H',H' t=some (.tup [.str (Str.ofString "puts"),.ref p])->H p=none->aL H H'->bR K H H' p pus->pus.length=T->(∀xs∈pus,xs.length=pt.length)->kX mv pt st pus T=go->0 < q->q<=(16*W0)^mv.length->(∀xs∈pus,∀x∈xs,Tp (E*q) (D*(mv.length*(W1*(16*W0)^mv.length))) x)->Q (.ref t) H') /\
 (∀t p pr q H',H' t=some (.tup [.str (Str.ofString "never"),.ref p])->H p=none->aL H H'->cw K H' p pr->pr.length=mv.length->(∀xs∈kry mv pt T,dh xs pr=0)->dh pr (fO mv T st go)=1->0 < q->q<=(16*W0)^mv.length*(16*(W1+E))->(∀y∈pr,Tp q ((16*W0)^mv.length*(16*(W1+E))) y)->Q (.ref t) H')
theorem Ro.join {mv pt:List (List Rat)} {L:List Rat} {D W0 E W1:Nat} (F:Ro mv pt L D W0 E W1) {rows:List (List Rat)} {due:List Rat} {n':Nat} (hd:due.length=rows.length) (h1:∀xs∈rows,∀x∈xs,Tp (D*E) (W0*E+W1*D+D*E) x) (h2:∀x∈due,Tp (D*E) (W0*E+W1*D+D*E) x) (n8:mv.length<=8) (hm:min rows.length n'<=mv.length+1):∃w,E6 (df rows due) n' w:=by
 obtain ⟨w,b1,b2,b3⟩:=F.sw;have:=bW F.d0 F.e0;refine ⟨w,D*E,W0*E+W1*D+D*E,bW F.d0 F.e0,F.de,by lia,b1,fun xs hx x hx'=>?_,b2,by rw[rM hd];lia,by rw[rM hd];exact aj (aA _ hm) b3⟩;unfold df at hx;obtain ⟨i,hi,rfl⟩:=bS hx;rw[fu] at hx';rcases az.mp hx' with z | z
 ·exact h1 _ (aJ _) x z
 ·rw[bT.mp z];exact h2 _ (aJ _)
theorem Tp.up {M W x:Nat} {q:Rat} (h:Tp M W q) (k:Nat) (hx:W*k<=x):Tp (M*k) x q:=by
 obtain ⟨z,e,b⟩:=h;exact ⟨z*k,by rw[eJ,aT,<- e,aQ];grind,by rw[cY,ck];exact aj (aA _ b) hx⟩
structure Sml (mv pt lk:List (List Rat)):Prop where
 D:fz mv pt lk
 n5:mv.length<=5
 gm:GF 2520 6561 mv
 gp:GF 2520 6561 pt
 gl:GF 2520 6561 lk
structure Ask (mv pt:List (List Rat)) (T:Nat) (go:List Rat):Prop where
 lg:go.length=mv.length
 fr:∀x∈go,Fr (2520^5) (2^100) x
structure AsR (K:PySem.W.Frag) (H:Hp) (q:Addr) (n k:Nat) (as:List Rat):Prop where
 row:cw K H q as
 len:as.length=n
 fr:∀x∈as,Fr (2520^5) (k*2^80) x
structure Q1 (mv pt:List (List Rat)) (st pu:List Rat):Prop where
 f2:∀xs∈mv,yx xs st
 part:∀kk,∀x∈nextK mv pt st pu kk,rW x
 su:∀u∈pu,rW u
 sp:∀row∈pt,∀y∈row,rW y
 mul:∀u∈pu,∀row∈pt,∀y∈row,rW (u*y)
def Kc (K:PySem.W.Frag):Sp:=fun vs H Q _=>∃(r s u:Addr) (H0:Hp) (mv pt lk:List (List Rat)) (st pu:List Rat),vs=[.ref r,.ref s,.ref u]/\ee K H0 H r mv pt lk/\fz mv pt lk/\cw K H s st/\cw K H u pu/\st.length=mv.length/\pu.length=pt.length/\Q1 mv pt st pu /\
 ∀t H',H t=none->aL H H'->cw K H' t (fw mv pt st pu)->Q (.ref t) H'
structure Bd (mv pt:List (List Rat)) (M1 M2 V a1 a2 c:Nat):Prop where
 m1:0 < M1
 m2:0 < M2
 b1:M1<=2^a1
 b2:M2<=2^a2
 gm:GF M1 V mv
 gp:GF M2 V pt
 vc:(mv.length+4)*V<=2^c
section
variable {mv pt lk pus:List (List Rat)} {st pu go:List Rat} {M1 M2 V a1 a2 c N Np p t T ν:Nat}
theorem Bd.v1 (B:Bd mv pt M1 M2 V a1 a2 c):V<=2^c:=aj (cH _ (by lia)) B.vc
theorem tz {M W:Nat} {x:Rat} (h0:0 < M) {a b:Nat} (h1:M<=2^a) (h2:W<=2^b) (hab:a+b<=3990) (h:Fr M W x):rW x:=by
 refine Om (Tp.of h (ao _)) h0 (aj h1 (au (by decide) (by lia))) ?_;refine aj (aF h2 h1) ?_;rw[<- bf];exact au (by decide) (by lia)
theorem Bd.next (B:Bd mv pt M1 M2 V a1 a2 c) (D:fz mv pt lk) (ls:st.length=mv.length) (lu:pu.length=pt.length) (N0:0 < N) (dv:M2*Np∣M1*N) (hs:∀x∈st,Fr N (2^p) x) (hu:∀x∈pu,Fr Np (2^p) x) (hN:N<=2^ν) (sz:a1+ν+c+p<=3900) (sp2:a2+c<=3900):Q1 mv pt st pu/\∀x∈fw mv pt st pu,Fr (M1*N) (2^(c+p)) x:=by
 have V1:=B.v1;have i4:=D.i4;have MN0:0 < M1*N:=bW B.m1 N0;have MN:M1*N<=2^(a1+ν):=by rw[bf];exact aF B.b1 hN
 have Np0:0 < Np:=by
  rcases gA Np with z | z
  ·rw[z,Aq] at dv;have:=Q6 dv
   lia
  ·exact z
 have NpMN:Np<=M1*N:=aj (cH _ B.m2) (kg MN0 dv)
 have one:∀u∈pu,∀row∈pt,∀y∈row,Fr (M1*N) (V*2^p) (u*y):=fun u hu' row hr y hy=>by
  have:=(B.gp row hr y hy).mul (hu u hu');rw[fj];exact this.dvd dv
 have part:∀kk,kk<=pt.length->∀x∈nextK mv pt st pu kk,Fr (M1*N) (2^(c+p)) x:=fun kk hkk x hx=>by
  obtain ⟨j,hj,e⟩:=bS hx;rw[j8] at hj;have e2:=A3 (mv:=mv) (pt:=pt) (st:=st) (pu:=pu) (k:=kk) hj;rw[ae,ag (by rw[j8];exact hj)] at e2;have e3:x=dh (mv[j]++(pt.map fun xs=>xs.getD j 0).take kk) (st++pu.take kk):=by rw[<- e,<- e2];rfl
  have wj:=D.mw _ (aJ hj);rw[e3,vn (by lia)];have f1:=Fr.dot (B.gm _ (aJ hj)) hs;rw[wj] at f1
  have f2:Fr (M1*N) (4*(V*2^p)) (dh ((pt.map fun xs=>xs.getD j 0).take kk) (pu.take kk)):=by
   have hc:∀y∈(pt.map fun xs=>xs.getD j 0).take kk,Fr M2 V y:=fun y hy=>by
    obtain ⟨xs,hxs,rfl⟩:=aD.mp (cz hy);rw[ae];cases e:xs[j]? with
    | none=>exact Fr.zero
    | some z=>exact B.gp xs hxs z (ay e)
   have:=Fr.dot (ys:=pu.take kk) hc (fun y hy=>hu y (cz hy));refine (this.dvd dv).mono (aA _ ?_);rw[cO,ar]
   lia
  refine (f1.add f2).mono ?_;rw[<- LR,bf,<- cE];exact aA _ B.vc
 have szb:∀{x:Rat},Fr (M1*N) (2^(c+p)) x->rW x:=fun h=>tz MN0 MN (ao _) (by lia) h
 have all:∀kk,∀x∈nextK mv pt st pu kk,Fr (M1*N) (2^(c+p)) x:=fun kk x hx=>by
  rcases cR pt.length kk with z | z
  ·have e:nextK mv pt st pu kk=nextK mv pt st pu pt.length:=(vR (by lia) (by lia)).trans (vR (ao _) (by lia)).symm;rw[e] at hx;exact part _ (ao _) x hx
  ·exact part kk z x hx
 refine ⟨⟨fun xs hx=>⟨a1,c,ν,p,⟨M1,V,B.m1,B.b1,V1,B.gm xs hx⟩,⟨N,2^p,N0,hN,ao _,hs⟩,by lia⟩,fun kk x hx=>szb (all kk x hx),fun u hu'=>?_,fun row hr y hy=>?_,fun u hu' row hr y hy=>szb ((one u hu' row hr y hy).mono (by rw[bf];exact aA _ V1))⟩,fun x hx=>?_⟩
 ·exact tz Np0 (aj NpMN MN) (ao _) (by lia) (hu u hu')
 ·exact tz B.m2 B.b2 V1 (by lia) (B.gp row hr y hy)
 ·rw[<- vR (k:=pt.length) (ao _) (by lia)] at hx;exact all _ x hx
end
section
variable {mv pt lk pus:List (List Rat)} {st pu go:List Rat} {M1 M2 V a1 a2 c N Np p t T ν k:Nat}
def JJ (mv pt pus:List (List Rat)) (st:List Rat):Prop:=∃M1 M2 V a1 a2 c N Np p ν,Bd mv pt M1 M2 V a1 a2 c/\0 < N/\N<=2^ν/\M2*Np∣N/\(∀x∈st,Fr N (2^p) x)/\(∀xs∈pus,∀x∈xs,Fr Np (2^p) x)/\a1*(pus.length+1)+ν+c*(pus.length+1)+p<=3900/\a2+c<=3900
theorem jt {M a t N ν:Nat} (h:M<=2^a) (hN:N<=2^ν):M^t*N<=2^(a*t+ν):=by
 rw[bf,yz];exact aF (jg h t) hN
theorem Bd.states (B:Bd mv pt M1 M2 V a1 a2 c) (D:fz mv pt lk) (ls:st.length=mv.length) (wp:∀xs∈pus,xs.length=pt.length) (N0:0 < N) (hN:N<=2^ν) (dv:M2*Np∣N) (hs:∀x∈st,Fr N (2^p) x) (hu:∀xs∈pus,∀x∈xs,Fr Np (2^p) x) (sz:a1*(pus.length+1)+ν+c*(pus.length+1)+p<=3900) (sp2:a2+c<=3900):∀k,k<=pus.length->(∀x∈kX mv pt st pus k,Fr (M1^k*N) (2^(c*k+p)) x)/\∀pu,pus[k]?=some pu->Q1 mv pt (kX mv pt st pus k) pu:=by
 have key:∀k,k<=pus.length->(∀x∈kX mv pt st pus k,Fr (M1^k*N) (2^(c*k+p)) x)->∀pu,pus[k]?=some pu->Q1 mv pt (kX mv pt st pus k) pu/\∀x∈fw mv pt (kX mv pt st pus k) pu,Fr (M1*(M1^k*N)) (2^(c+(c*k+p))) x:=fun k hk f pu hpu=>by
  have mp:=ay hpu;have kl:=(aI.mp hpu).1;have e1:a1*(k+1)<=a1*(pus.length+1):=aN _ (by lia);have e2:c*(k+1)<=c*(pus.length+1):=aN _ (by lia);rw[ft,LQ] at e1 e2;refine B.next D (jz ls hk) (wp pu mp) (bW (dS B.m1) N0) ?_ f (fun x hx=>(hu pu mp x hx).mono (au (by decide) (Nat.le_add_left _ _))) (jt B.b1 hN) (by lia) sp2;exact gh dv (gh (cX _ _) (cX _ _))
 have fr:∀k,k<=pus.length->∀x∈kX mv pt st pus k,Fr (M1^k*N) (2^(c*k+p)) x:=by
  intro k
  induction k with
  | zero =>
   intro _ x hx;rw[Nat.pow_zero,uD,Aq,Nat.zero_add];exact hs x hx
  | succ k ih =>
   intro hk x hx;have e:=ag (show k < pus.length by lia);rw[nC e] at hx;have:=(key k (by lia) (ih (by lia)) _ e).2 x hx;rw[<- cE,b7 M1,<- dO,show c+(c*k+p)=c*(k+1)+p by rw[ft];lia] at this;exact this
 exact fun k hk=>⟨fr k hk,fun pu hpu=>(key k hk (fr k hk) pu hpu).1⟩
theorem JJ.nx (h:JJ mv pt pus st) (D:fz mv pt lk) (ls:st.length=mv.length) (wp:∀xs∈pus,xs.length=pt.length) (hk:k<=pus.length) (hpu:pus[k]?=some pu):Q1 mv pt (kX mv pt st pus k) pu:=by
 obtain ⟨M1,M2,V,a1,a2,c,N,Np,p,ν,B,N0,hN,dv,hs,hu,sz,sp2⟩:=h;exact (B.states D ls wp N0 hN dv hs hu sz sp2 k hk).2 pu hpu
theorem JJ.szn (h:JJ mv pt pus st) (D:fz mv pt lk) (ls:st.length=mv.length) (wp:∀xs∈pus,xs.length=pt.length) (hk:k<=pus.length):∀x∈kX mv pt st pus k,rW x:=fun x hx=>by
 obtain ⟨M1,M2,V,a1,a2,c,N,Np,p,ν,B,N0,hN,dv,hs,hu,sz,sp2⟩:=h;have e1:a1*k<=a1*(pus.length+1):=aN _ (by lia);have e2:c*k<=c*(pus.length+1):=aN _ (by lia);exact tz (bW (dS B.m1) N0) (jt B.b1 hN) (ao _) (by lia) ((B.states D ls wp N0 hN dv hs hu sz sp2 k hk).1 x hx)
def P0 (mv:List (List Rat)) (st:List Rat) (T:Nat):Prop:=∃M1 V a1 c N p ν,0 < M1/\M1<=2^a1/\GF M1 V mv/\(mv.length+4)*V<=2^c/\0 < N/\N<=2^ν/\(∀x∈st,Fr N (2^p) x)/\a1*(T+1)+ν+c*(T+1)+p<=3900
theorem KH (gm:GF M1 V mv) (wm:∀xs∈mv,xs.length=mv.length) (vc:(mv.length+4)*V<=2^c) (ls:st.length=mv.length) (hs:∀x∈st,Fr N (2^p) x):∀t,∀x∈jq mv t st,Fr (M1^t*N) (2^(c*t+p)) x:=by
 intro t
 induction t with
 | zero =>
  intro x hx;rw[Nat.pow_zero,uD,Aq,Nat.zero_add];exact hs x hx
 | succ t ih =>
  intro x hx;obtain ⟨row,hr,rfl⟩:=aD.mp (show x∈mv.map fun xs=>dh xs (jq mv t st) from hx);have f:=Fr.dot (gm row hr) ih;rw[<- cE,b7 M1,<- dO] at f;refine f.mono ?_;rw[wm row hr,<- cE,show c*(t+1)+p=c+(c*t+p) by rw[ft];lia,bf 2 c];exact aA _ (aj (aA V (show mv.length<=mv.length+4 by lia)) vc)
theorem P0.fit (h:P0 mv st T) (wm:∀xs∈mv,xs.length=mv.length) (ls:st.length=mv.length) (ht:t<=T):(∀xs∈mv,yx xs (jq mv t st))/\∀x∈jq mv t st,rW x:=by
 obtain ⟨M1,V,a1,c,N,p,ν,m0,m1,gm,vc,N0,hN,hs,sz⟩:=h;have f:=KH gm wm vc ls hs t;have V1:V<=2^c:=aj (cH _ (by lia)) vc;have e1:a1*t<=a1*T:=aN _ ht;have e2:c*t<=c*T:=aN _ ht;rw[ft,ft,LQ,LQ] at sz;exact ⟨fun xs hx=>⟨a1,c,a1*t+ν,c*t+p,⟨M1,V,m0,m1,V1,gm xs hx⟩,⟨M1^t*N,2^(c*t+p),bW (dS m0) N0,jt m1 hN,ao _,f⟩,by lia⟩,fun x hx=>tz (bW (dS m0) N0) (jt m1 hN) (ao _) (by lia) (f x hx)⟩
def Rt (mv pt:List (List Rat)) (T:Nat):Prop:=∃M1 M2 V a1 a2 c,Bd mv pt M1 M2 V a1 a2 c/\a1*(T+1)+a2+c*(T+2)<=3900
theorem Rt.row (h:Rt mv pt T) (wm:∀xs∈mv,xs.length=mv.length) (wp:∀xs∈pt,xs.length=mv.length):∀xs∈pt,P0 mv xs T:=fun xs hx=>by
 obtain ⟨M1,M2,V,a1,a2,c,B,sz⟩:=h;refine ⟨M1,V,a1,c,M2,c,a2,B.m1,B.b1,B.gm,B.vc,B.m2,B.b2,fun x hx'=>(B.gp xs hx x hx').mono B.v1,?_⟩;rw[ft c T 2] at sz;rw[ft c T 1]
 lia
end
def Me (K:PySem.W.Frag):Sp:=fun vs H Q _=>∃(r s p:Addr) (H0 H1:Hp) (mv pt lk pus:List (List Rat)) (st:List Rat),vs=[.ref r,.ref s,.ref p]/\ee K H0 H r mv pt lk/\fz mv pt lk/\cw K H s st/\st.length=mv.length/\bR K H1 H p pus/\pus.length<=100/\(∀xs∈pus,xs.length=pt.length)/\JJ mv pt pus st /\
 ∀t H',H t=none->aL H H'->cw K H' t (kX mv pt st pus pus.length)->Q (.ref t) H'
def IL (K:PySem.W.Frag):Sp:=fun vs H Q _=>∃(r s:Addr) (T:Nat) (H0:Hp) (mv pt lk:List (List Rat)) (st:List Rat),vs=[.ref r,.ref s,.int T]/\T<=100/\ee K H0 H r mv pt lk/\fz mv pt lk/\cw K H s st/\st.length=mv.length/\P0 mv st T /\
 ∀t H',H t=none->aL H H'->cw K H' t (jq mv T st)->Q (.ref t) H'
def IM (K:PySem.W.Frag):Sp:=fun vs H Q _=>∃(r:Addr) (T:Nat) (H0:Hp) (mv pt lk:List (List Rat)),vs=[.ref r,.int T]/\T<=20/\ee K H0 H r mv pt lk/\fz mv pt lk/\Rt mv pt T /\
 ∀q H',H q=none->aL H H'->bR K H H' q (kry mv pt T)->Q (.ref q) H'
section
variable {X:Cx}
theorem Jz (hc:X.calm=true):uC X (.builtin "max") (fun xs H Q=>∃(p:Addr) (ns:List Int),xs=[.ref p]/\bV X.K H p (ns.map V.int)/\0 < ns.length/\∀M,M∈ns->(∀a,a∈ns->a<=M)->Q (.int M) H):=by
 intro pins s σ H xs us Q I r h;obtain ⟨p,ns,rfl,hp,hne,q⟩:=h;obtain ⟨u,rfl,ru⟩:=vals1 r;cases ru;obtain ⟨its,r2,pl,_⟩:=I.list hp;have hi:=intsAre_of r2;have hl:=pl.isList;obtain ⟨xs,e⟩:=hi.allInts.items
 have hns:ns=xs.toList.map (·.1):=by
  rw[<- hi.numsOf,<- nums_intItems,<- e]
 have hsz:0 < xs.size:=by
  have h3:=hne;rw[hns,ar,Array.length_toList] at h3;exact h3
 rw[e] at hl;refine max_intList (I.ok.hd hc) hl hsz fun v h' tk hv hk=>?_
 obtain ⟨t,rfl⟩:=intItems_at hv;obtain ⟨h1,h2⟩:=argBest_gt (numAt xs) (xs.size - 1);refine ⟨.int _,H,I.kept hk,⟨_,rfl⟩,q _ ?_ fun a ha=>?_⟩
 ·rw[hns,numAt_eq];exact getD_in (by rw[ar,Array.length_toList];lia)
 ·rw[hns] at ha;obtain ⟨j,hj,rfl⟩:=mem_getD ha;rw[ar,Array.length_toList] at hj;rw[<- numAt_eq];exact h2 j (by lia)
end
theorem Cj {α β:Type} {f:α->β}:∀{l1:List α} {l2:List β},Paired (fun a b=>b=f a) l1 l2->l2=l1.map f
 | _,_,.nil=>rfl
 | _,_,.cons h r=>by rw[h,Cj r];rfl
def StP (mv pt:List (List Rat)) (T:Nat):Prop:=T<=12/\(T<=3\/((∀xs∈mv++pt,∀x∈xs,x.den<=9/\x.num.natAbs < 1000)/\(5 < mv.length->T<=mv.length)/\(3<=mv.length->mv.length<=5->T<=mv.length+1)))
def PU (x:Rat):Int:=(x.den:Int)+(x.num.natAbs:Int) / 1000*9
theorem Nr {x:Rat} (h:PU x<=9):x.den<=9/\x.num.natAbs < 1000:=by
 unfold PU at h;have:=x.den_pos
 lia
def Iw (K:PySem.W.Frag):Sp:=fun vs H Q _=>∃(b r:Addr) (H0:Hp) (mv pt lk:List (List Rat)),vs=[.ref b,.ref r]/\ir H b/\H0 b≠none/\ee K H0 H r mv pt lk/\fz mv pt lk/\(∀xs∈mv++pt,∀x∈xs,rW x) /\
 ∀(T:Nat) H',StP mv pt T->ir H' b->cT b H H'->Q (.int T) H'
def J9 (K:PySem.W.Frag):Sp:=fun vs H Q _=>∃(b r:Addr) (T w:Nat) (H0:Hp) (mv pt lk:List (List Rat)),vs=[.ref b,.ref r,.int T,.int w]/\T<=100/\1<=w/\w<=1000/\ir H b/\H0 b≠none/\ee K H0 H r mv pt lk/\fz mv pt lk /\
 ∀p pus H',H p=none->bR K H H' p pus->pus.length=T->(∀xs∈pus,xs.length=pt.length/\∀x∈xs,Dr (max w 6) x)->ir H' b->cT b H H'->Q (.ref p) H'
section
variable {mv pt lk pus:List (List Rat)} {st pr go:List Rat} {T k:Nat}
theorem Cn (D:fz mv pt lk) (ls:st.length=mv.length) (lg:go.length=mv.length) (lp:pus.length=T) (wp:∀xs∈pus,xs.length=pt.length) (h1:kX mv pt st pus T=go) (lpr:pr.length=mv.length) (h2:∀xs∈kry mv pt T,dh xs pr=0):dh pr (fO mv T st go)=0:=by
 have ll:=sF (T:=T) ls lg;rw[fG (by lia),lpr];have f:=xG (pus:=pus) (st:=st) D ls T (by lia) wp;rw[h1] at f;have wT:=gM (mv:=mv) rfl D.pw T
 have e1:(bX mv.length fun c=>pr.getD c 0*(fO mv T st go).getD c 0)=bX (kry mv pt T).length fun i=>((pus.take T).reverse.flatten).getD i 0*bX mv.length fun c=>cS (kry mv pt T) i c*pr.getD c 0:=by
  have q:∀c,c < mv.length->pr.getD c 0*(fO mv T st go).getD c 0=bX (kry mv pt T).length fun i=>((pus.take T).reverse.flatten).getD i 0*(cS (kry mv pt T) i c*pr.getD c 0):=fun c hc=>by
   have e:(fO mv T st go).getD c 0=bX (kry mv pt T).length fun i=>((pus.take T).reverse.flatten).getD i 0*cS (kry mv pt T) i c:=by
    unfold fO;rw[Fi (by rw[lg,gH ls]) (by lia),f c hc];grind
   rw[e,<- dk];exact bB fun i _=>by grind
  rw[bB q,jM];exact bB fun i _=>dk
 rw[e1];refine dH fun i hi=>?_
 have w1:=wT _ (aJ hi);have:=h2 _ (aJ hi);rw[fG (by lia),w1] at this
 have q:(bX mv.length fun c=>cS (kry mv pt T) i c*pr.getD c 0)=0:=by
  refine Eq.trans (bB fun c _=>?_) this;unfold cS;rw[ae (l:=kry mv pt T),ag hi];rfl
 rw[q,mZ]
theorem JJ.sznP (h:JJ mv pt pus st):∀xs∈pus,∀x∈xs,rW x:=fun xs hx x hx'=>by
 obtain ⟨M1,M2,V,a1,a2,c,N,Np,p,ν,B,N0,hN,dv,hs,hu,sz,sp2⟩:=h
 have Np0:0 < Np:=by
  rcases gA Np with z | z
  ·rw[z,Aq] at dv;have:=Q6 dv
   lia
  ·exact z
 have le:Np<=N:=aj (cH _ B.m2) (kg N0 dv);exact tz Np0 (aj le hN) (ao _) (by lia) (hu xs hx x hx')
end
def IF (K:PySem.W.Frag):Sp:=fun vs H Q _=>∃(r s g p:Addr) (T:Nat) (H0 H1:Hp) (mv pt lk pus:List (List Rat)) (st go:List Rat),vs=[.ref r,.ref s,.ref g,.int T,.ref p]/\T<=100/\ee K H0 H r mv pt lk/\fz mv pt lk/\cw K H s st/\st.length=mv.length/\cw K H g go/\bR K H1 H p pus/\pus.length=T/\(∀xs∈pus,xs.length=pt.length)/\JJ mv pt pus st/\kX mv pt st pus T=go/\∀H',aL H H'->Q (.bl true) H'
structure RU (mv pt:List (List Rat)) (T:Nat) (st go pr:List Rat):Prop where
 ad:Rt mv pt T
 al:P0 mv st T
 sg:∀x∈go,rW x
 sr:∀x∈pr,rW x
 f1:∀xs∈kry mv pt T,yx pr xs
 f2:yx pr (fO mv T st go)
def Fp (K:PySem.W.Frag):Sp:=fun vs H Q _=>∃(r s g p:Addr) (T:Nat) (H0:Hp) (mv pt lk:List (List Rat)) (st go pr:List Rat),vs=[.ref r,.ref s,.ref g,.int T,.ref p]/\T<=20/\ee K H0 H r mv pt lk/\fz mv pt lk/\cw K H s st/\st.length=mv.length/\cw K H g go/\go.length=mv.length/\cw K H p pr/\pr.length=mv.length/\RU mv pt T st go pr/\(∀xs∈kry mv pt T,dh xs pr=0)/\dh pr (fO mv T st go)=1/\∀H',aL H H'->Q (.bl true) H'
structure PZ (mv pt:List (List Rat)) (T:Nat) (st go:List Rat) (D W0 E W1:Nat):Prop where
 cf:Fc mv pt st (List.replicate T (List.replicate pt.length 0))
 sg:∀x∈go,rW x
 co:Ro mv pt (fO mv T st go) D W0 E W1
 en:∀(pus:List (List Rat)) (q:Nat),0 < q->q<=(16*W0)^mv.length->pus.length=T->(∀xs∈pus,∀x∈xs,Tp (E*q) (D*(mv.length*(W1*(16*W0)^mv.length))) x)->JJ mv pt pus st
def Ov (K:PySem.W.Frag) (C:Addr):Sp:=fun vs H Q _=>∃(x r s g:Addr) (T a c D W0 E W1:Nat) (H0 H1:Hp) (mv pt lk pus:List (List Rat)) (st go:List Rat),vs=[.ref x,.ref r,.ref s,.ref g,.int T]/\T<=20/\nW K H0 H C x mv pt lk/\ee K H1 H r mv pt lk/\fz mv pt lk/\JH mv pt lk/\vA mv pt a c/\cw K H s st/\st.length=mv.length/\cw K H g go/\go.length=mv.length/\PZ mv pt T st go D W0 E W1/\pus.length=T/\(∀xs∈pus,xs.length=pt.length)/\kX mv pt st pus T=go/\∀H',aL H H'->Q (.bl true) H'
def L5 (v:Nat):Rat:=⟨1,v+1,Nat.succ_ne_zero v,by simp⟩
theorem NB {v:Nat} (h:v < 3):Fr 6 1 (L5 v):=by
 have e:(L5 v).num.natAbs<=1:=ao _;have f:=Fr.own (L5 v) e
 have d:(L5 v).den∣6:=by
  show v+1∣6
  rcases (show v=0\/v=1\/v=2 by lia) with rfl | rfl | rfl <;> decide
 exact f.dvd d
def LV (pt:List (List Rat)) (T w:Nat) (pus:List (List Rat)):Prop:=pus.length=T/\∀xs∈pus,xs.length=pt.length/\∀x∈xs,Dr (max w 6) x
def GoP (mv pt:List (List Rat)) (T w:Nat) (st go:List Rat):Prop:=(∀x∈go,Dr (max w 6) x)\/∃pus,LV pt T w pus/\(go=kX mv pt st pus T\/∃a v,v < 3/\go=(kX mv pt st pus T).set a ((kX mv pt st pus T).getD a 0+L5 v))
def Kg (K:PySem.W.Frag):Sp:=fun vs H Q _=>∃(b r s:Addr) (T w:Nat) (H0:Hp) (mv pt lk:List (List Rat)) (st:List Rat),vs=[.ref b,.ref r,.ref s,.int T,.int w]/\T<=100/\1<=w/\w<=1000/\ir H b/\H0 b≠none/\ee K H0 H r mv pt lk/\fz mv pt lk/\cw K H s st/\s≠b/\st.length=mv.length/\(∀pus,LV pt T w pus->JJ mv pt pus st) /\
 ∀g go H',H g=none->cw K H' g go->go.length=mv.length->GoP mv pt T w st go->ir H' b->cT b H H'->Q (.ref g) H'
theorem KW (ws vs:List V) (M1 M2 M3:Nat):∃μ:V->Nat,(∀x∈ws,μ x=M2)/\(∀x∈vs,x∉ws->μ x=M3)/\(∀x,x∉ws->x∉vs->μ x=M1)/\∀x,μ x=M1\/μ x=M2\/μ x=M3:=by
 classical
 refine ⟨fun x=>if x∈ws then M2 else if x∈vs then M3 else M1,fun x h=>if_pos h,fun x h h'=>?_,fun x h h'=>?_,fun x=>?_⟩
 ·show (if x∈ws then M2 else if x∈vs then M3 else M1)=M3
  rw[if_neg h',if_pos h]
 ·show (if x∈ws then M2 else if x∈vs then M3 else M1)=M1
  rw[if_neg h,if_neg h']
 ·show (if x∈ws then M2 else if x∈vs then M3 else M1)=M1\/(if x∈ws then M2 else if x∈vs then M3 else M1)=M2\/(if x∈ws then M2 else if x∈vs then M3 else M1)=M3
  by_cases h:x∈ws
  ·rw[if_pos h];exact .inr (.inl rfl)
  ·rw[if_neg h];by_cases h':x∈vs
   ·rw[if_pos h'];exact .inr (.inr rfl)
   ·rw[if_neg h'];exact .inl rfl
theorem kQ.apart {K:PySem.W.Frag} {A:Addr->Prop} {H:Hp} {n:Nat} {C:V->Rat->Prop} {m p l b q0:Addr} {us ws vs:List V} (h:kQ K A H n C m p l b q0 us ws vs):(∀x∈us,x∉ws/\x∉vs)/\∀x∈vs,x∉ws:=by
 obtain ⟨n1,n2,n3⟩:=dG.mp h.nd;obtain ⟨n4,n5,n6⟩:=dG.mp n1;exact ⟨fun x hx=>⟨fun z=>n3 x (az.mpr (.inl hx)) x z rfl,fun z=>n6 x hx x z rfl⟩,fun x hx z=>n3 x (az.mpr (.inr hx)) x z rfl⟩
theorem kQ.fr3 {K:PySem.W.Frag} {A:Addr->Prop} {H:Hp} {n c:Nat} {m p l b q0:Addr} {us ws vs:List V} (h:kQ K A H n (fun _=>Dr (2^c)) m p l b q0 us ws vs):∃M1 M2 M3,0 < M1/\0 < M2/\0 < M3/\M1<=2^(c*(n*n))/\M2<=2^(c*(ws.length*n))/\M3<=2^(c*(vs.length*n))/\(∀x∈us,fP K A H n (Fr M1 (2^c)) x)/\(∀x∈ws,fP K A H n (Fr M2 (2^c)) x)/\∀x∈vs,fP K A H n (Fr M3 (2^c)) x:=by
 have one:∀l:List V,(∀x∈l,x∈us++vs++ws)->∃M,0 < M/\M<=2^(c*(l.length*n))/\∀x∈l,fP K A H n (Fr M (2^c)) x:=fun l hl=>by
  obtain ⟨ra,pa,la,ha⟩:=AH fun x hx=>h.row x (hl x hx)
  obtain ⟨M,m0,m1,m2⟩:=Mr (c:=c) (n:=n) (rows:=ra) ha;exact ⟨M,m0,by rw[la] at m1;exact m1,FD pa fun qs hq=>⟨(ha qs hq).1,m2 qs hq⟩⟩
 obtain ⟨M1,a1,a2,a3⟩:=one us fun x hx=>by simp [hx]
 obtain ⟨M2,b1,b2,b3⟩:=one ws fun x hx=>by simp [hx]
 obtain ⟨M3,c1,c2,c3⟩:=one vs fun x hx=>by simp [hx]
 rw[h.lm] at a2;exact ⟨M1,M2,M3,a1,b1,c1,a2,b2,c2,a3,b3,c3⟩
def ID (K:PySem.W.Frag):Sp:=fun xs H Q _=>∃(b m p l q0:Addr) (n V1:Nat) (μ:V->Nat) (A:Addr->Prop) (us ws vs:List V),xs=[.ref b,.ref m,.ref p,.ref l]/\E9 A m p l b q0/\kQ K A H n (fun x=>Fr (μ x) V1) m p l b q0 us ws vs/\n<=8/\ws.length<=4/\vs.length<=4/\(∀x,0 < μ x)/\(∀x,μ x<=2^800)/\(∃M,∀x,x∉ws->x∉vs->μ x=M)/\V1<=2^20/\(∀q,H q=none->A q) /\
 ∀r us' H',H' r=some (.tup [.ref m,.ref p,.ref l])->kQ K A H' n (fun x=>Fr (μ x) (9^3*V1)) m p l b q0 us' ws vs->iG A b m H H'->Q (.ref r) H'
def RT (n i o w c:Nat) (mv pt lk:List (List Rat)):Prop:=∃M1 M2 M3 V1:Nat,0 < M1/\0 < M2/\0 < M3/\GF M1 V1 mv/\GF M2 V1 pt/\GF M3 V1 lk/\((w<=9/\M1=2520/\M2=2520/\M3=2520/\V1=9^3*9)\/(9 < w/\M1<=2^(c*(n*n))/\M2<=2^(c*(i*n))/\M3<=2^(c*(o*n))/\V1=9^3*2^c))
def IA (K:PySem.W.Frag):Sp:=fun vs H Q _=>∃(b:Addr) (n i o w c:Nat),vs=[.ref b,.int n,.int i,.int o,.int w]/\ir H b/\n<=8/\i<=4/\o<=4/\1<=w/\w<=1000000/\max w 6<=2^c/\c<=20/\c*((n+i+o)*n)<=800 /\
 ∀r mv pt lk H',ee K H H' r mv pt lk->mv.length=n->pt.length=i->lk.length=o->fz mv pt lk->RT n i o w c mv pt lk->ir H' b->cT b H H'->Q (.ref r) H'
def Rg (mv pt:List (List Rat)) (w:Nat):Prop:=(w<=9/\Bd mv pt 1 1 (9^3) 0 0 14)\/(w<=9/\mv.length<=5/\Bd mv pt 2520 2520 (9^3*9) 12 12 16)\/(w=1000/\mv.length<=2/\∃M1 M2,Bd mv pt M1 M2 (9^3*2^20) 80 160 33)
def Mc (K:PySem.W.Frag):Sp:=fun vs H Q _=>∃b:Addr,vs=[.ref b]/\ir H b /\
 ∀t r (w a c:Nat) mv pt lk H',H' t=some (.tup [.ref r,.int w])->ee K H H' r mv pt lk->fz mv pt lk->JH mv pt lk->vA mv pt a c->Rg mv pt w->1<=w->w<=1000->ir H' b->cT b H H'->Q (.ref t) H'
theorem FZ {M V:Nat} {l:List (List Rat)} (h:GF M V l) (k:Nat):GF (k*M) V l:=fun xs hx x hx'=>(h xs hx x hx').scaleL k
theorem RT.n {n i o w c:Nat} {mv pt lk:List (List Rat)} (h:RT n i o w c mv pt lk):PtF n i o w c mv pt lk:=by
 obtain ⟨M1,M2,M3,V1,a1,a2,a3,f1,f2,f3,hc⟩:=h;rcases hc with ⟨w9,rfl,rfl,rfl,e⟩ | ⟨w9,e1,e2,e3,e⟩
 ·exact ⟨2520,V1,by decide,f1,f2,f3,.inl ⟨w9,rfl,e⟩⟩
 ·refine ⟨M1*M2*M3,V1,bW (bW a1 a2) a3,?_,?_,?_,.inr ⟨w9,?_,e⟩⟩
  ·have:=FZ f1 (M2*M3);rwa [show M2*M3*M1=M1*M2*M3 by rw[b7 (M2*M3),cE]] at this
  ·have:=FZ f2 (M1*M3);rwa [show M1*M3*M2=M1*M2*M3 by rw[cE,b7 M3,cE]] at this
  ·exact FZ f3 (M1*M2)
  ·refine aj (aF (aF e1 e2) e3) ?_;rw[<- bf,<- bf,show c*((n+i+o)*n)=c*(n*n)+c*(i*n)+c*(o*n) by rw[LR,LR,ft,ft]];exact ao _
def Mq (a b:List (List Rat)):List (List Rat):=List.zipWith (fun x y=>List.zipWith (fun u v=>u+v) x y) a b
theorem DI {x y:Rat} {xs ys:List Rat}:dh (x :: xs) (y :: ys)=x*y+dh xs ys:=by
 unfold dh;rw[eF,P7]
theorem DE {ys:List Rat}:dh [] ys=0:=rfl
theorem Nk {xs:List Rat}:dh xs []=0:=by
 unfold dh;rw[List.zipWith_nil_right];rfl
theorem HM:∀{P p q:List Rat},p.length=q.length->dh P (List.zipWith (fun u v=>u+v) p q)=dh P p+dh P q
 | [],_,_,_=>by rw[DE,DE,DE,nh]
 | a :: P,[],[],_=>by rw[List.zipWith_nil_right,Nk,nh]
 | a :: P,x :: p,y :: q,h=>by
  rw[eF,DI,DI,DI,HM (P:=P) (by simpa using h)];grind
theorem JM {α β:Type} {f g:α->β->Rat}:∀{A:List α} {B:List β},List.zipWith (fun l c=>f l c+g l c) A B=List.zipWith (fun u v=>u+v) (List.zipWith f A B) (List.zipWith g A B)
 | [],_=>by simp
 | _ :: _,[]=>by simp
 | a :: A,b :: B=>by rw[eF,eF,eF,eF,JM (A:=A) (B:=B)]
section
variable {mv pt lk ps qs:List (List Rat)} {a b p q:List Rat} {c:Rat} {k:Nat}
theorem Jm (h1:a.length=b.length) (h2:p.length=q.length):fw mv pt (List.zipWith (fun u v=>u+v) a b) (List.zipWith (fun u v=>u+v) p q)=List.zipWith (fun u v=>u+v) (fw mv pt a p) (fw mv pt b q):=by
 unfold fw;rw[<- JM];congr 1;funext line col;rw[<- D7 h1,HM (by rw[av,av,h1,h2])]
theorem Qu {x y:List Rat} (h1:ps[k]?=some x) (h2:qs[k]?=some y):(Mq ps qs)[k]?=some (List.zipWith (fun u v=>u+v) x y):=by
 unfold Mq;rw[bY,h1,h2]
theorem OE (h:ps.length=qs.length):(Mq ps qs).length=ps.length:=by unfold Mq;rw[b9];lia
theorem J5 (la:a.length=mv.length) (lb:b.length=mv.length) (hl:ps.length=qs.length) (w1:∀xs∈ps,xs.length=pt.length) (w2:∀xs∈qs,xs.length=pt.length):∀{k:Nat},k<=ps.length->kX mv pt (List.zipWith (fun u v=>u+v) a b) (Mq ps qs) k=List.zipWith (fun u v=>u+v) (kX mv pt a ps k) (kX mv pt b qs k)
 | 0,_=>rfl
 | k+1,hk=>by
  have e1:=ag (show k < ps.length by lia);have e2:=ag (show k < qs.length by lia);rw[nC (Qu e1 e2),nC e1,nC e2,J5 la lb hl w1 w2 (by lia),Jm (by rw[jz la (by lia),jz lb (by lia)]) (by rw[w1 _ (aJ _),w2 _ (aJ _)])]
end
def zd (n a1 a2:Nat):Nat:=a1*(n - 1)+a2
def zw (n a1 a2 c:Nat):Nat:=zd n a1 a2+c*n
def zq (n a1 a2 c:Nat):Nat:=n*(4+zw n a1 a2 c)
def ze (a1 a2 T b:Nat):Nat:=a1*T+a2+b
def zu (a1 a2 c T b g:Nat):Nat:=ze a1 a2 T b+(c*T+g+1)
abbrev ZS (n a1 a2 c T b g:Nat):Prop:=ze a1 a2 T b<=1500/\c*T+g<=1800/\zw n a1 a2 c+ze a1 a2 T b+zu a1 a2 c T b g+zd n a1 a2+2<=4300/\(n+1)*(zw n a1 a2 c+ze a1 a2 T b+zu a1 a2 c T b g+zd n a1 a2+6)<=8900/\a1*(T+1)+(a2+ze a1 a2 T b+zq n a1 a2 c)+c*(T+1)+(zd n a1 a2+3+zu a1 a2 c T b g+zq n a1 a2 c)<=3900/\a2+c<=3900/\a1*(T+1)+a2+c*(T+2)<=3900
abbrev ZP (n a1 a2 c T b g:Nat):Prop:=2*(zq n a1 a2 c+5+zu a1 a2 c T b g)+zu a1 a2 c T b g<=3930/\2*(zq n a1 a2 c+5+zu a1 a2 c T b g)+(a1*T+a2+c*(T+1))<=3930
theorem JS {n n' a1 a2 c T T' b b' g:Nat} (hn:n<=n') (hT:T<=T') (hb:b<=b'):zd n a1 a2<=zd n' a1 a2/\zw n a1 a2 c<=zw n' a1 a2 c/\zq n a1 a2 c<=zq n' a1 a2 c/\ze a1 a2 T b<=ze a1 a2 T' b'/\zu a1 a2 c T b g<=zu a1 a2 c T' b' g/\a1*T<=a1*T'/\c*T<=c*T'/\a1*(T+1)<=a1*(T'+1)/\c*(T+1)<=c*(T'+1)/\c*(T+2)<=c*(T'+2):=by
 have e1:a1*(n - 1)<=a1*(n' - 1):=aN _ (by lia);have e2:c*n<=c*n':=aN _ hn;have e3:a1*T<=a1*T':=aN _ hT;have e4:c*T<=c*T':=aN _ hT;have w:zw n a1 a2 c<=zw n' a1 a2 c:=by unfold zw zd;lia
 have q:zq n a1 a2 c<=zq n' a1 a2 c:=aF hn (by lia);refine ⟨by unfold zd;lia,w,q,by unfold ze;lia,by unfold zu ze;lia,e3,e4,aN _ (by lia),aN _ (by lia),aN _ (by lia)⟩
theorem pX {n n' a1 a2 c T T' b b' g:Nat} (hn:n<=n') (hT:T<=T') (hb:b<=b') (h:ZS n' a1 a2 c T' b' g):ZS n a1 a2 c T b g:=by
 obtain ⟨h1,h2,h3,h4,h5,h6,h7⟩:=h;obtain ⟨m1,m2,m3,m4,m5,m6,m7,m8,m9,m10⟩:=JS (a1:=a1) (a2:=a2) (c:=c) (g:=g) hn hT hb;refine ⟨by lia,by lia,by lia,aj (aF (by lia) (by lia)) h4,by lia,h6,by lia⟩
theorem z5 {n n' a1 a2 c T T' b b' g:Nat} (hn:n<=n') (hT:T<=T') (hb:b<=b') (h:ZP n' a1 a2 c T' b' g):ZP n a1 a2 c T b g:=by
 obtain ⟨h1,h2⟩:=h;obtain ⟨m1,m2,m3,m4,m5,m6,m7,m8,m9,m10⟩:=JS (a1:=a1) (a2:=a2) (c:=c) (g:=g) hn hT hb;exact ⟨by lia,by lia⟩
section
variable {mv pt lk pus:List (List Rat)} {st pu go pr:List Rat} {M1 M2 V a1 a2 c B b g p t T w:Nat}
theorem Bd.kry (X:Bd mv pt M1 M2 V a1 a2 c) (D:fz mv pt lk):∀t,∀xs∈kry mv pt t,∀x∈xs,Fr (M1^(t - 1)*M2) (2^(c*t)) x:=by
 intro t
 induction t with
 | zero=>intro xs hx;exact nomatch hx
 | succ t ih =>
  intro xs hx x hx';rcases az.mp (show xs∈pt++(L2.kry mv pt t).map (uG mv) from hx) with hx | hx
  ·refine Fr.up (X.gp xs hx x hx') (cX _ _) (aj X.v1 (au (by decide) ?_));exact dn _ (by lia)
  ·obtain ⟨ys,hy,rfl⟩:=aD.mp hx;obtain ⟨row,hr,rfl⟩:=aD.mp (show x∈mv.map fun zs=>dh zs ys from hx');rcases t with _ | t
   ·exact nomatch hy
   have f:=Fr.dot (X.gm row hr) (ih ys hy);rw[show M1*(M1^(t+1 - 1)*M2)=M1^(t+1+1 - 1)*M2 by rw[<- cE,show t+1 - 1=t by lia,show t+1+1 - 1=t+1 by lia,dO,b7 M1]] at f;refine f.mono ?_;rw[D.mw row hr,<- cE,show c*(t+1+1)=c+c*(t+1) by rw[ft c (t+1)];lia,bf 2 c];exact aA _ (aj (aA V (show mv.length<=mv.length+4 by lia)) X.vc)
theorem Bd.lack (X:Bd mv pt M1 M2 V a1 a2 c) (D:fz mv pt lk) (ls:st.length=mv.length) (hs:∀x∈st,Fr B (2^g) x) (hg:∀x∈go,Fr (M1^T*(M2*B)) (2^(c*T+g)) x):∀x∈fO mv T st go,Fr (M1^T*(M2*B)) (2^(c*T+g+1)) x:=fun x hx=>by
 unfold fO at hx;obtain ⟨j,hj,e⟩:=bS hx;rw[fu] at e;rw[<- e,show 2^(c*T+g+1)=2^(c*T+g)+2^(c*T+g) by rw[dO];lia];exact (hg _ (aJ _)).sub ((KH X.gm D.mw X.vc ls hs T _ (aJ _)).dvd (Nat.mul_dvd_mul_left _ (cX _ _)))
theorem Bd.end (X:Bd mv pt M1 M2 V a1 a2 c) (D:fz mv pt lk) (ls:st.length=mv.length) (lp:pus.length=T) (wp:∀xs∈pus,xs.length=pt.length) (b0:0 < B) (b1:B<=2^b) (hs:∀x∈st,Fr B (2^g) x) (hu:∀xs∈pus,∀x∈xs,Fr B (2^g) x) (Z:ZS mv.length a1 a2 c T b g):JJ mv pt pus st/\∀k,k<=T->∀x∈kX mv pt st pus k,Fr (M1^k*(M2*B)) (2^(c*k+g)) x:=by
 obtain ⟨h1,h2,h3,h4,h5,h6,h7⟩:=Z;have n0:0 < M2*B:=bW X.m2 b0;have hN:M2*B<=2^(a2+b):=by rw[bf];exact aF X.b2 b1
 have hs':∀x∈st,Fr (M2*B) (2^g) x:=fun x hx=>(hs x hx).scaleL _
 have sz:a1*(pus.length+1)+(a2+b)+c*(pus.length+1)+g<=3900:=by
  rw[lp];unfold zu ze at h5
  lia
 exact ⟨⟨M1,M2,V,a1,a2,c,M2*B,B,g,a2+b,X,n0,hN,Ar _,hs',hu,sz,h6⟩,fun k hk=>(X.states D ls wp n0 hN (Ar _) hs' hu sz h6 k (by lia)).1⟩
theorem Eu {T i:Nat} {xs:List Rat} {x:Rat} (h:xs∈List.replicate T (List.replicate i (0:Rat))) (hx:x∈xs):x=0:=by
 rw[iw h] at hx;exact iw hx
theorem Bd.ctf (X:Bd mv pt M1 M2 V a1 a2 c) (D:fz mv pt lk) (ls:st.length=mv.length) (b0:0 < B) (b1:B<=2^b) (hs:∀x∈st,Fr B (2^g) x) (hg:∀x∈go,Fr (M1^T*(M2*B)) (2^(c*T+g)) x) (Z:ZS mv.length a1 a2 c T b g):PZ mv pt T st go (M1^(mv.length - 1)*M2) (2^(c*mv.length)*(M1^(mv.length - 1)*M2)) (M1^T*(M2*B)) (2^(c*T+g+1)*(M1^T*(M2*B))):=by
 have Z':=Z;obtain ⟨h1,h2,h3,h4,h5,h6,h7⟩:=Z;have n0:0 < M2*B:=bW X.m2 b0;have hN:M2*B<=2^(a2+b):=by rw[bf];exact aF X.b2 b1
 obtain ⟨Dd,eD⟩:∃d,M1^(mv.length - 1)*M2=d:=⟨_,rfl⟩;obtain ⟨E,eE⟩:∃d,M1^T*(M2*B)=d:=⟨_,rfl⟩;have D0:0 < Dd:=by rw[<- eD];exact bW (dS X.m1) X.m2
 have E0:0 < E:=by rw[<- eE];exact bW (dS X.m1) n0
 have dD:Dd<=2^zd mv.length a1 a2:=by rw[<- eD];exact jt X.b1 X.b2
 have dE:E<=2^ze a1 a2 T b:=by
  rw[<- eE,show ze a1 a2 T b=a1*T+(a2+b) by unfold ze;lia];exact jt X.b1 hN
 have dW:2^(c*mv.length)*Dd<=2^zw mv.length a1 a2 c:=by
  rw[show zw mv.length a1 a2 c=c*mv.length+zd mv.length a1 a2 by unfold zw;lia,bf];exact aN _ dD
 have dU:2^(c*T+g+1)*E<=2^zu a1 a2 c T b g:=by
  rw[show zu a1 a2 c T b g=c*T+g+1+ze a1 a2 T b by unfold zu;lia,bf 2 (c*T+g+1)];exact aN _ dE
 have hl:=X.lack D ls hs hg;have hg':=hg;rw[eD,eE];rw[eE] at hl hg'
 have q2:(16*(2^(c*mv.length)*Dd))^mv.length<=2^zq mv.length a1 a2 c:=by
  have:16*(2^(c*mv.length)*Dd)<=2^(4+zw mv.length a1 a2 c):=by rw[bf];exact aN _ dW
  refine aj (jg this _) ?_;rw[<- yz,b7];exact ao _
 refine ⟨fun k hk=>?_,fun x hx=>tz E0 dE (ao _) (by lia) (hg' x hx),⟨D0,E0,bW (dS (by decide)) D0,bW (dS (by decide)) E0,fun u hu xs hx x hx'=>?_,fun x hx=>Tp.of (hl x hx) (ao _),?_,?_⟩,fun qs q q0 hq lq hp=>?_⟩
 ·have wz:∀xs∈List.replicate T (List.replicate pt.length (0:Rat)),xs.length=pt.length:=fun xs hx=>by rw[iw hx,aE]
  have lz:(List.replicate T (List.replicate pt.length (0:Rat))).length=T:=aE ..;rw[lz] at hk;obtain ⟨_,f⟩:=X.end D ls lz wz b0 b1 hs (fun xs hx x hx'=>by rw[Eu hx hx'];exact Fr.zero) Z';have m1:a1*k<=a1*T:=aN _ hk;have m2:c*k<=c*T:=aN _ hk;exact ⟨M1^k*(M2*B),2^(c*k+g),bW (dS X.m1) n0,aj (jt X.b1 hN) (au (by decide) (by unfold ze at h1;lia)),au (by decide) (by lia),f k hk,fun xs hx x hx'=>by rw[Eu hx hx'];exact Fr.zero⟩
 ·have f:=X.kry D u xs hx x hx';rw[<- eD];refine Tp.of (Fr.up (M':=M1^(mv.length - 1)*M2) (V':=2^(c*mv.length)) f (Nat.mul_dvd_mul_right (Nat.pow_dvd_pow _ (by lia)) _) (au (by decide) (aN _ hu))) (ao _)
 ·refine aj (aF dD dE) ?_;rw[<- bf];exact au (by decide) (by lia)
 ·refine ⟨zw mv.length a1 a2 c+ze a1 a2 T b+zu a1 a2 c T b g+zd mv.length a1 a2+2,?_,h3,h4⟩
  have S:∀{x y k j:Nat},x<=2^k->y<=2^j->k+j<=zw mv.length a1 a2 c+ze a1 a2 T b+zu a1 a2 c T b g+zd mv.length a1 a2->x*y<=2^(zw mv.length a1 a2 c+ze a1 a2 T b+zu a1 a2 c T b g+zd mv.length a1 a2):=fun hx hy hk=>by
   refine aj (aF hx hy) ?_;rw[<- bf];exact au (by decide) hk
  have s1:=S dW dE (by lia);have s2:=S dU dD (by lia);have s3:=S dD dE (by lia);rw[bf _ _ 2];generalize 2^(zw mv.length a1 a2 c+ze a1 a2 T b+zu a1 a2 c T b g+zd mv.length a1 a2)=P at s1 s2 s3 ⊢
  lia
 ·have Np0:0 < E*q:=bW E0 q0;have hq':q<=2^zq mv.length a1 a2 c:=aj hq q2
  have hP:Dd*(mv.length*(2^(c*T+g+1)*E*(16*(2^(c*mv.length)*Dd))^mv.length))<=2^(zd mv.length a1 a2+3+zu a1 a2 c T b g+zq mv.length a1 a2 c):=by
   have n3:mv.length<=2^3:=D.n8;refine aj (aF dD (aF n3 (aF dU q2))) ?_;rw[<- bf,<- bf,<- bf];exact au (by decide) (by lia)
  refine ⟨M1,M2,V,a1,a2,c,M2*(E*q),E*q,zd mv.length a1 a2+3+zu a1 a2 c T b g+zq mv.length a1 a2 c,a2+ze a1 a2 T b+zq mv.length a1 a2 c,X,bW X.m2 Np0,?_,Ar _,fun x hx=>?_,fun xs hx x hx'=>((hp xs hx x hx').fr Np0).mono hP,?_,h6⟩
  ·rw[bf,bf,cE];exact aF X.b2 (aF dE hq')
  ·refine Fr.up (hs x hx) ?_ (au (by decide) (by unfold zu;lia));rw[<- eE];exact gh (gh (gh (cX _ M2) (cX _ (M1^T))) (Ii _ q)) (cX _ _)
  ·rw[lq];exact h5
theorem Bd.prf (X:Bd mv pt M1 M2 V a1 a2 c) (D:fz mv pt lk) (ls:st.length=mv.length) (b0:0 < B) (b1:B<=2^b) (hs:∀x∈st,Fr B (2^g) x) (hg:∀x∈go,Fr (M1^T*(M2*B)) (2^(c*T+g)) x) (Z:ZS mv.length a1 a2 c T b g) (P:ZP mv.length a1 a2 c T b g) {q:Nat} (q0:0 < q) (hq:q<=(16*(2^(c*mv.length)*(M1^(mv.length - 1)*M2)))^mv.length*(16*(2^(c*T+g+1)*(M1^T*(M2*B))+M1^T*(M2*B)))) (hp:∀y∈pr,Tp q ((16*(2^(c*mv.length)*(M1^(mv.length - 1)*M2)))^mv.length*(16*(2^(c*T+g+1)*(M1^T*(M2*B))+M1^T*(M2*B)))) y):RU mv pt T st go pr/\∀(L:List Rat) (B':Nat),0 < B'->B'<=2^b->(∀x∈L,Fr (M1^T*(M2*B')) (2^(c*T+g+1)) x)->yx pr L:=by
 have n0:∀{B'},0 < B'->0 < M1^T*(M2*B'):=fun h=>bW (dS X.m1) (bW X.m2 h)
 have hN:∀{B'},B'<=2^b->M1^T*(M2*B')<=2^ze a1 a2 T b:=fun h=>by
  rw[show ze a1 a2 T b=a1*T+(a2+b) by unfold ze;lia];exact jt X.b1 (by rw[bf];exact aF X.b2 h)
 have ct:=X.ctf D ls b0 b1 hs hg Z;have hl:=X.lack D ls hs hg;obtain ⟨h1,h2,h3,h4,h5,h6,h7⟩:=Z;obtain ⟨p1,p2⟩:=P;have dD:M1^(mv.length - 1)*M2<=2^zd mv.length a1 a2:=jt X.b1 X.b2;have dE:=hN b1
 have W:(16*(2^(c*mv.length)*(M1^(mv.length - 1)*M2)))^mv.length*(16*(2^(c*T+g+1)*(M1^T*(M2*B))+M1^T*(M2*B)))<=2^(zq mv.length a1 a2 c+5+zu a1 a2 c T b g):=by
  have e1:16*(2^(c*mv.length)*(M1^(mv.length - 1)*M2))<=2^(4+zw mv.length a1 a2 c):=by
   rw[show zw mv.length a1 a2 c=c*mv.length+zd mv.length a1 a2 by unfold zw;lia,bf 2 4,bf];exact aN _ (aN _ dD)
  have e2:=jg e1 mv.length;rw[<- yz,b7 (4+zw mv.length a1 a2 c)] at e2
  have e3:2^(c*T+g+1)*(M1^T*(M2*B))<=2^zu a1 a2 c T b g:=by
   rw[show zu a1 a2 c T b g=c*T+g+1+ze a1 a2 T b by unfold zu;lia,bf 2 (c*T+g+1)];exact aN _ dE
  have e4:M1^T*(M2*B)<=2^(c*T+g+1)*(M1^T*(M2*B)):=cH _ (dS (by decide));generalize 2^(c*T+g+1)*(M1^T*(M2*B))=u at e3 e4 ⊢;rw[show zq mv.length a1 a2 c+5+zu a1 a2 c T b g=mv.length*(4+zw mv.length a1 a2 c)+(5+zu a1 a2 c T b g) by unfold zq;lia,bf];refine aF e2 ?_;rw[bf];generalize M1^T*(M2*B)=v at e4 ⊢
  lia
 have fp:sL (zq mv.length a1 a2 c+5+zu a1 a2 c T b g) (zq mv.length a1 a2 c+5+zu a1 a2 c T b g) pr:=⟨q,_,q0,aj hq W,W,fun x hx=>(hp x hx).fr q0⟩;have key:∀(L:List Rat) (B':Nat),0 < B'->B'<=2^b->(∀x∈L,Fr (M1^T*(M2*B')) (2^(c*T+g+1)) x)->yx pr L:=fun L B' c0 c1 h=>⟨_,_,ze a1 a2 T b,c*T+g+1,fp,⟨_,_,n0 c0,hN c1,ao _,h⟩,by unfold zu at p1 ⊢;lia⟩
 refine ⟨⟨⟨M1,M2,V,a1,a2,c,X,h7⟩,⟨M1,V,a1,c,B,g,b,X.m1,X.b1,X.gm,X.vc,b0,b1,hs,by unfold zu ze at h5;lia⟩,ct.sg,fun x hx=>tz q0 (aj hq W) W (by lia) ((hp x hx).fr q0),fun xs hx=>?_,key _ B b0 b1 hl⟩,key⟩;refine ⟨_,_,a1*T+a2,c*(T+1),fp,⟨M1^T*M2,2^(c*T),bW (dS X.m1) X.m2,jt X.b1 X.b2,au (by decide) (aN _ (by lia)),fun x hx'=>(X.kry D T xs hx x hx').dvd (Nat.mul_dvd_mul_right (Nat.pow_dvd_pow _ (by lia)) _)⟩,by lia⟩
theorem JN {n a1 a2 c T b g:Nat} (h:ZS n a1 a2 c T b (g+1)):ZS n a1 a2 c T b g:=by
 obtain ⟨h1,h2,h3,h4,h5,h6,h7⟩:=h;have e:zu a1 a2 c T b g<=zu a1 a2 c T b (g+1):=by unfold zu;lia
 exact ⟨h1,by lia,by lia,aj (aN _ (by lia)) h4,by lia,h6,h7⟩
structure Us (mv pt:List (List Rat)) (w T M1 M2 V a1 a2 c b1 b2:Nat):Prop where
 bd:Bd mv pt M1 M2 V a1 a2 c
 z1:ZS mv.length a1 a2 c T b1 23
 zp:ZP mv.length a1 a2 c T b1 23
 z2:ZS mv.length a1 a2 c T b2 23
 dr:∀l:List Rat,(∀x∈l,Dr (max w 6) x)->∃B,0 < B/\6∣B/\(∀x∈l,Fr B (2^22) x)/\(l.length<=2*mv.length+T*pt.length->B<=2^b1)/\(l.length<=2*mv.length+2*(T*pt.length)->B<=2^b2)
theorem OF (R:Rg mv pt w) (D:fz mv pt lk) (S:StP mv pt T):∃M1 M2 V a1 a2 c b1 b2,Us mv pt w T M1 M2 V a1 a2 c b1 b2:=by
 have i4:=D.i4;have n8:=D.n8;have small:w<=9->∀l:List Rat,(∀x∈l,Dr (max w 6) x)->∃B,0 < B/\6∣B/\(∀x∈l,Fr B (2^22) x)/\(l.length<=2*mv.length+T*pt.length->B<=2^12)/\(l.length<=2*mv.length+2*(T*pt.length)->B<=2^12):=fun w9 l h=>⟨2520,by decide,by decide,fun x hx=>(Lx ⟨aj (h x hx).1 (by lia),aj (h x hx).2 (by lia)⟩ (Ar _)).mono (by decide),fun _=>by decide,fun _=>by decide⟩
 have wide:w=1000->∀t,T*pt.length<=t->mv.length<=2->∀l:List Rat,(∀x∈l,Dr (max w 6) x)->∃B,0 < B/\6∣B/\(∀x∈l,Fr B (2^22) x)/\(l.length<=2*mv.length+T*pt.length->B<=2^(45+10*t))/\(l.length<=2*mv.length+2*(T*pt.length)->B<=2^(45+20*t)):=fun w9 t ht n2 l h=>by
  obtain ⟨B,h0,h1,h2⟩:=Jx (c:=10) (l:=l) (fun x hx=>⟨aj (h x hx).1 (by rw[w9];decide),aj (h x hx).2 (by rw[w9];decide)⟩) (by decide)
  have up:∀k,3+(10*l.length+2)<=k->6*B<=2^k:=fun k hk=>by
   refine aj ?_ (au (by decide) hk);rw[bf 2 3];exact aF (by decide) h1
  exact ⟨6*B,by lia,Ii _ _,fun x hx=>(h2 x hx).scaleL 6,fun hl=>up _ (by lia),fun hl=>up _ (by lia)⟩
 rcases R with ⟨w9,X⟩ | ⟨w9,n5,X⟩ | ⟨w9,n2,M1,M2,X⟩
 ·exact ⟨_,_,_,_,_,_,12,12,X,pX (n':=8) (T':=12) (b':=12) n8 S.1 (ao _) (by decide),z5 (n':=8) (T':=12) (b':=12) n8 S.1 (ao _) (by decide),pX (n':=8) (T':=12) (b':=12) n8 S.1 (ao _) (by decide),small w9⟩
 ·exact ⟨_,_,_,_,_,_,12,12,X,pX (n':=5) (T':=12) (b':=12) n5 S.1 (ao _) (by decide),z5 (n':=5) (T':=12) (b':=12) n5 S.1 (ao _) (by decide),pX (n':=5) (T':=12) (b':=12) n5 S.1 (ao _) (by decide),small w9⟩
 ·by_cases T3:T<=3
  ·have m:T*pt.length<=3*4:=aF T3 i4;exact ⟨_,_,_,_,_,_,165,285,X,pX (n':=2) (T':=3) (b':=165) n2 T3 (ao _) (by decide),z5 (n':=2) (T':=3) (b':=165) n2 T3 (ao _) (by decide),pX (n':=2) (T':=3) (b':=285) n2 T3 (ao _) (by decide),wide w9 12 m n2⟩
  ·obtain ⟨T12,z | ⟨hd,_⟩⟩:=S
   ·exact absurd z T3
   have m:T*pt.length<=12*4:=aF T12 i4
   have gf:∀l:List (List Rat),(∀xs∈l,xs∈mv++pt)->GF 2520 1000 l:=fun l hl xs hx x hx'=>by
    have:=hd xs (hl xs hx) x hx';exact (Fr.own x (aY this.2)).dvd (HN this.1)
   have X2:Bd mv pt 2520 2520 1000 12 12 13:=⟨by decide,by decide,by decide,by decide,gf mv fun xs hx=>az.mpr (.inl hx),gf pt fun xs hx=>az.mpr (.inr hx),aj (aA _ (show mv.length+4<=6 by lia)) (by decide)⟩;exact ⟨_,_,_,_,_,_,525,1005,X2,pX (n':=2) (T':=12) (b':=525) n2 T12 (ao _) (by decide),z5 (n':=2) (T':=12) (b':=525) n2 T12 (ao _) (by decide),pX (n':=2) (T':=12) (b':=1005) n2 T12 (ao _) (by decide),wide w9 48 m n2⟩
end
section
variable {mv pt lk pus pus':List (List Rat)} {st st' pu go pr:List Rat} {M1 M2 V a1 a2 c B b1 b2 g p t T w:Nat}
theorem ER:∀(xs:List Rat) (k:Nat),dh xs (List.replicate k 0)=0
 | [],_=>by simp [dh]
 | x :: xs,0=>by simp [dh]
 | x :: xs,k+1=>by
  have:=ER xs k;simp only[dh,jh,eF,P7] at this ⊢;rw[this];grind
theorem AM:∀t,jq mv t (List.replicate mv.length 0)=List.replicate mv.length 0
 | 0=>rfl
 | t+1=>by
  show (mv.map fun xs=>dh xs (jq mv t (List.replicate mv.length 0)))=_
  rw[AM t]
  have:∀xs:List Rat,dh xs (List.replicate mv.length (0:Rat))=0:=fun xs=>by
   exact ER xs _
  rw[D8 fun xs _=>this xs,uI]
theorem Ir (D:fz mv pt lk) (ls:st.length=mv.length) (lp:pus.length=T) (wp:∀xs∈pus,xs.length=pt.length):kX mv pt (List.replicate mv.length 0) pus T=fO mv T st (kX mv pt st pus T):=by
 have l0:(List.replicate mv.length (0:Rat)).length=mv.length:=aE ..;have l1:=jz (mv:=mv) (pt:=pt) (pus:=pus) (k:=T) ls (by lia);have l2:=jz (mv:=mv) (pt:=pt) (pus:=pus) (k:=T) l0 (by lia);have l3:=sF (T:=T) ls l1;refine Gf (by lia) fun c hc=>?_
 rw[l2] at hc;unfold fO;rw[Fi (by rw[l1,gH ls]) (by lia),xG D ls T (by lia) wp c hc,xG D l0 T (by lia) wp c hc,AM]
 have:(List.replicate mv.length (0:Rat)).getD c 0=0:=by
  rw[ae];cases h:(List.replicate mv.length (0:Rat))[c]? with
  | none=>rfl
  | some x=>exact iw (ay h)
 rw[this];grind
theorem Us.pair (U:Us mv pt w T M1 M2 V a1 a2 c b1 b2) (ls:st.length=mv.length) (hs:∀x∈st,Dr (max w 6) x) (hp:LV pt T w pus):∃B,0 < B/\B<=2^b1/\6∣B/\(∀x∈st,Fr B (2^22) x)/\∀xs∈pus,∀x∈xs,Fr B (2^22) x:=by
 obtain ⟨B,h0,h6,h,h1,_⟩:=U.dr (st++pus.flatten) fun x hx=>by
  rcases az.mp hx with hx | hx
  ·exact hs x hx
  ·obtain ⟨xs,m1,m2⟩:=eX.mp hx;exact (hp.2 xs m1).2 x m2
 refine ⟨B,h0,h1 ?_,h6,fun x hx=>h x (dY _ hx),fun xs hx x hx'=>h x (bC _ (eX.mpr ⟨xs,hx,hx'⟩))⟩;rw[av,sG fun xs hx=>(hp.2 xs hx).1,hp.1,ls]
 lia
theorem FU {l:List Rat} (h:∀x∈l,Fr B (2^22) x):∀x∈l,Fr B (2^23) x:=fun x hx=>(h x hx).mono (by decide)
theorem Us.ends (U:Us mv pt w T M1 M2 V a1 a2 c b1 b2) (D:fz mv pt lk) (ls:st.length=mv.length) (hs:∀x∈st,Dr (max w 6) x) (hp:LV pt T w pus):JJ mv pt pus st/\P0 mv st T/\(∃d w0 e w1,PZ mv pt T st (kX mv pt st pus T) d w0 e w1)/\∃d w0 e w1,PZ mv pt T (List.replicate mv.length 0) (fO mv T st (kX mv pt st pus T)) d w0 e w1:=by
 obtain ⟨B,h0,h1,h6,f1,f2⟩:=U.pair ls hs hp;have wp:=fun xs hx=>(hp.2 xs hx).1
 obtain ⟨E,fe⟩:=U.bd.end D ls hp.1 wp h0 h1 f1 f2 (JN U.z1);have fe:=fe T (ao _);have up:2^(c*T+22)<=2^(c*T+23):=au (by decide) (by lia);refine ⟨E,⟨M1,V,a1,c,B,22,b1,U.bd.m1,U.bd.b1,U.bd.gm,U.bd.vc,h0,h1,f1,?_⟩,⟨_,_,_,_,U.bd.ctf D ls h0 h1 (FU f1) (fun x hx=>(fe x hx).mono up) U.z1⟩,⟨_,_,_,_,U.bd.ctf D (aE ..) h0 h1 (fun x hx=>by rw[iw hx];exact Fr.zero) (fun x hx=>(U.bd.lack D ls f1 fe x hx).mono (au (by decide) (by lia))) U.z1⟩⟩;have h5:=U.z1.2.2.2.2.1;unfold zu ze at h5
 lia
theorem Us.sum (U:Us mv pt w T M1 M2 V a1 a2 c b1 b2) (D:fz mv pt lk) (ls:st.length=mv.length) (hs:∀x∈st,Dr (max w 6) x) (hp:LV pt T w pus) (ls':st'.length=mv.length) (hs':∀x∈st',Dr (max w 6) x) (hp':LV pt T w pus'):∃d w0 e w1,PZ mv pt T (List.zipWith (fun x y=>x+y) st st') (List.zipWith (fun x y=>x+y) (kX mv pt st pus T) (kX mv pt st' pus' T)) d w0 e w1:=by
 obtain ⟨B,h0,h6,h,_,h1⟩:=U.dr ((st++pus.flatten)++(st'++pus'.flatten)) fun x hx=>by
  rcases az.mp hx with hx | hx
  ·rcases az.mp hx with hx | hx
   ·exact hs x hx
   ·obtain ⟨xs,m1,m2⟩:=eX.mp hx;exact (hp.2 xs m1).2 x m2
  ·rcases az.mp hx with hx | hx
   ·exact hs' x hx
   ·obtain ⟨xs,m1,m2⟩:=eX.mp hx;exact (hp'.2 xs m1).2 x m2
 have h1:B<=2^b2:=h1 (by
  rw[av,av,av,sG fun xs hx=>(hp.2 xs hx).1,sG fun xs hx=>(hp'.2 xs hx).1,hp.1,hp'.1,ls,ls']
  lia)
 have f1:∀x∈st,Fr B (2^22) x:=fun x hx=>h x (by simp [hx])
 have f1':∀x∈st',Fr B (2^22) x:=fun x hx=>h x (by simp [hx])
 have f2:∀xs∈pus,∀x∈xs,Fr B (2^22) x:=fun xs hx x hx'=>h x (dY _ (bC _ (eX.mpr ⟨xs,hx,hx'⟩)))
 have f2':∀xs∈pus',∀x∈xs,Fr B (2^22) x:=fun xs hx x hx'=>h x (bC _ (bC _ (eX.mpr ⟨xs,hx,hx'⟩)))
 have fe:=(U.bd.end D ls hp.1 (fun xs hx=>(hp.2 xs hx).1) h0 h1 f1 f2 (JN U.z2)).2 T (ao _);have fe':=(U.bd.end D ls' hp'.1 (fun xs hx=>(hp'.2 xs hx).1) h0 h1 f1' f2' (JN U.z2)).2 T (ao _)
 have zz:∀{N k:Nat} {x y:List Rat},(∀u∈x,Fr N (2^k) u)->(∀u∈y,Fr N (2^k) u)->∀u∈List.zipWith (fun x y=>x+y) x y,Fr N (2^(k+1)) u:=fun {N k x y} hx hy u hu=>by
  obtain ⟨j,hj,e⟩:=bS hu;rw[fu] at e;rw[<- e,show 2^(k+1)=2^k+2^k by rw[dO];lia];exact (hx _ (aJ _)).add (hy _ (aJ _))
 exact ⟨_,_,_,_,U.bd.ctf D (by rw[b9];lia) h0 h1 (zz f1 f1') (zz fe fe') U.z2⟩
theorem Us.goal (U:Us mv pt w T M1 M2 V a1 a2 c b1 b2) (D:fz mv pt lk) (ls:st.length=mv.length) (lg:go.length=mv.length) (hs:∀x∈st,Dr (max w 6) x) (hg:GoP mv pt T w st go):∃d w0 e w1,PZ mv pt T st go d w0 e w1/\∀(pr:List Rat) (q:Nat),0 < q->q<=(16*w0)^mv.length*(16*(w1+e))->(∀y∈pr,Tp q ((16*w0)^mv.length*(16*(w1+e))) y)->RU mv pt T st go pr/\∀pus,LV pt T w pus->yx pr (fO mv T st (kX mv pt st pus T)):=by
 have up:2^(c*T+22)+1<=2^(c*T+23):=by
  rw[show c*T+23=1+(c*T+22) by lia,bf 2 1];have:0 < 2^(c*T+22):=dS (by decide)
  lia
 obtain ⟨B,h0,h1,f1,fg⟩:∃B,0 < B/\B<=2^b1/\(∀x∈st,Fr B (2^22) x)/\∀x∈go,Fr (M1^T*(M2*B)) (2^(c*T+23)) x:=by
  rcases hg with hg | ⟨pus,hp,hg⟩
  ·obtain ⟨B,h0,h6,h,h1,_⟩:=U.dr (st++go) fun x hx=>(az.mp hx).elim (hs x) (hg x)
   refine ⟨B,h0,h1 (by rw[av,ls,lg];lia),fun x hx=>h x (dY _ hx),fun x hx=>Fr.up (h x (bC _ hx)) (gh (cX _ _) (cX _ _)) (au (by decide) (by lia))⟩
  ·obtain ⟨B,h0,h1,h6,f1,f2⟩:=U.pair ls hs hp;have fe:=(U.bd.end D ls hp.1 (fun xs hx=>(hp.2 xs hx).1) h0 h1 f1 f2 (JN U.z1)).2 T (ao _);refine ⟨B,h0,h1,f1,fun x hx=>?_⟩;rcases hg with rfl | ⟨a,v,v3,rfl⟩
   ·exact (fe x hx).mono (by lia)
   ·rcases cv hx with hx | rfl
    ·exact (fe x hx).mono (by lia)
    ·have u1:Fr (M1^T*(M2*B)) 1 (L5 v):=(NB v3).dvd (gh h6 (gh (cX _ _) (cX _ _)))
     have u2:Fr (M1^T*(M2*B)) (2^(c*T+22)) ((kX mv pt st pus T).getD a 0):=by
      rw[ae];cases h:(kX mv pt st pus T)[a]? with
      | none=>exact Fr.zero
      | some y=>exact fe y (ay h)
     exact (u2.add u1).mono up
 refine ⟨_,_,_,_,U.bd.ctf D ls h0 h1 (FU f1) fg U.z1,fun pr q q0 hq hp=>?_⟩;obtain ⟨P,key⟩:=U.bd.prf D ls h0 h1 (FU f1) fg U.z1 U.zp q0 hq hp;refine ⟨P,fun pus dp=>?_⟩;obtain ⟨B',k0,k1,k6,g1,g2⟩:=U.pair ls hs dp;have fe:=(U.bd.end D ls dp.1 (fun xs hx=>(dp.2 xs hx).1) k0 k1 g1 g2 (JN U.z1)).2 T (ao _);exact key _ B' k0 k1 fun x hx=>(U.bd.lack D ls g1 fe x hx).mono (au (by decide) (by lia))
end
end L2
open L2
local macro_rules | `(tactic| walk_at "hl") => `(tactic| first | (show _ ≤ sizeLine; with_unfolding_all decide) | (with_unfolding_all exact (by decide)))
local macro_rules | `(tactic| walk_at "sq") => `(tactic| first | with_reducible assumption | with_reducible exact uc.of (by assumption) | with_reducible exact bV.of (by assumption) | with_reducible exact uc.of aM | with_reducible exact bV.of aM | assumption)
local macro_rules | `(tactic| walk_at "sc") => `(tactic| first | (with_reducible show (0 : Int) < _; decide) | with_reducible exact HU (by decide) (by decide) | with_reducible exact DM (by decide) (by decide) | with_reducible exact cpow_of (by decide) (by decide) (by decide))
local macro_rules | `(tactic| walk_at "rd") => `(tactic| first
  | with_reducible refine OK ?_
  | with_reducible refine My ?_
  | with_reducible refine OY ?_
  | with_reducible refine KA ?_
  | ((with_reducible refine' OH ?hx1 ?_); (case hx1 => with_unfolding_all rfl))
  | with_reducible refine RB ?_
  | with_reducible refine Qz ?_
  | with_reducible refine QE ?_
  | with_reducible refine Qv ?_
  | with_reducible refine RC ?_
  | with_reducible refine OX ?_
  | with_reducible refine OP ?_
  | with_reducible refine OW ?_
  | with_reducible refine rd_neS ?_
  | with_reducible refine rd_eqB ?_
  | with_reducible refine rd_neB ?_
  | with_reducible refine MC ?_
  | with_reducible refine FE ?_
  | with_reducible refine OV ?_
  | with_reducible refine Mv ?_
  | with_reducible refine Mz ?_
  | with_reducible refine MB ?_
  | with_reducible refine Kz ?_
  | with_reducible refine Mu ?_
  | with_reducible refine Qw ?_
  | with_reducible refine OL ?_
  | with_reducible refine rd_retN ?_
  | with_reducible refine OS ?_
  | with_reducible refine OZ ?_
  | with_reducible refine Qy ?_
  | with_reducible refine ON ?_
  | with_reducible refine MO ?_
  | with_reducible refine rd_orV ?_
  | with_reducible refine Mx ?_
  | with_reducible refine OT ?_
  | with_reducible refine OG ?_
  | with_reducible refine Nb ?_
  | with_reducible refine QN ?_
  | with_reducible refine QP ?_
  | with_reducible refine QQ ?_
  | with_reducible refine NO ?_
  | with_reducible refine OO ?_
  | with_reducible refine MJ ?_
  | with_reducible refine OI ?_
  | with_reducible refine OQ ?_
  | with_reducible refine ML ?_
  | with_reducible refine QC ?_
  | with_reducible refine MI ?_
  | with_reducible refine OM ?_
  | with_reducible refine MM ?_
  | ((with_reducible refine' rd_aug ?hx1 ?_); (case hx1 => with_unfolding_all rfl))
  | with_reducible refine OR ?_
  | with_reducible refine MF ?_
  | with_reducible refine KC ?_
  | with_reducible refine MG ?_
  | with_reducible refine Qx ?_
  | with_reducible refine IV ?_
  | with_reducible refine Mw ?_
  | with_reducible refine OU ?_
  | with_reducible refine Ky ?_
  | with_reducible refine MD ?_
  | with_reducible refine Kx ?_
  | with_reducible refine Kw ?_
  | ((with_reducible refine' MK ?hx1 ?_); (case hx1 => with_unfolding_all rfl))
  | with_reducible refine Mt ?_
  | with_reducible refine QD ?_
  | with_reducible refine rd_bm0 ?_
  | with_reducible refine rd_brk ?_
  | ((with_reducible refine' ME ?hx1 ?hx2 ?_); (case hx1 => walk_at "sq"); (case hx2 => with_unfolding_all rfl))
  | with_reducible refine rd_cont ?_
  | ((with_reducible refine' gG ?hx1 ?_); (case hx1 => walk_at "sc"))
  | ((with_reducible refine' FG ?hx1 ?hx2 ?_); (case hx1 => walk_at "sq"); (case hx2 => with_unfolding_all rfl))
  | ((with_reducible refine' cB ?hx1 ?hx2 ?_); (case hx1 => walk_at "sq"); (case hx2 => with_unfolding_all rfl))
  | ((with_reducible refine' MH ?hx1 ?hx2 ?_); (case hx1 => walk_at "sq"); (case hx2 => with_unfolding_all rfl))
  | ((with_reducible refine' fh ?hx1 ?hx2 ?hx3 ?_); (case hx1 => with_reducible first | assumption | exact aM); (case hx2 => with_unfolding_all rfl); (case hx3 => with_unfolding_all rfl))
  | with_reducible refine ⟨_, rfl, ?_⟩
  | with_reducible refine ⟨_, _, rfl, ?_⟩)
local macro_rules | `(tactic| walk_at "w") => `(tactic| repeat walk_at "rd")
local macro_rules | `(tactic| walk_at "d") => `(tactic| exact ⟨rfl,rfl,rfl,by decide +kernel,rfl,by decide +kernel,by decide +kernel⟩)
namespace Lw
open PySem PySem.Spec PyProof.Rows L2 Nm
set_option maxHeartbeats 4000000
def top (i:Nat):Stmt:=PySem.Challenge.pw_helmsum_k44_whole_where_puts_lead.main.body.getD i (.Pass ⟨0,0,0,0⟩)
abbrev lF:Stmt:=top 54
abbrev jS:Stmt:=top 55
abbrev gF:Stmt:=top 70
abbrev jZ:Stmt:=top 72
abbrev lC:Stmt:=top 56
abbrev lA:Stmt:=top 57
abbrev jV:Stmt:=top 63
abbrev jU:Stmt:=top 59
abbrev pz:Stmt:=top 65
abbrev iS:Stmt:=top 67
abbrev eT:Stmt:=top 73
abbrev gZ:Stmt:=top 60
abbrev lB:Stmt:=top 61
abbrev jX:Stmt:=top 66
abbrev iQ:Stmt:=top 68
abbrev gX:Stmt:=top 74
abbrev jN:Stmt:=top 50
abbrev lh:Stmt:=top 9
abbrev eQ:Stmt:=top 10
abbrev jQ:Stmt:=top 12
abbrev so:Stmt:=top 16
abbrev gW:Stmt:=top 51
abbrev eo:Stmt:=inClass (top 52) 0
abbrev hZ:Stmt:=top 69
abbrev jY:Stmt:=top 75
abbrev iP:Stmt:=top 76
abbrev jT:Stmt:=top 77
abbrev lE:Stmt:=top 62
abbrev pk:Stmt:=top 71
abbrev jW:Stmt:=top 78
abbrev lD:Stmt:=top 79
abbrev jO:Stmt:=top 19
abbrev eh:Stmt:=top 11
abbrev fA:Stmt:=top 18
abbrev iN:Stmt:=top 30
abbrev ph:Stmt:=top 32
abbrev iO:Stmt:=top 31
abbrev vL:Stmt:=top 33
abbrev rZ:Stmt:=top 13
abbrev o7:Stmt:=top 34
abbrev o6:Stmt:=top 20
abbrev o9:Stmt:=top 23
abbrev iM:Stmt:=top 40
abbrev gQ:Stmt:=top 42
abbrev yL:Stmt:=top 25
abbrev jR:Stmt:=top 41
abbrev iL:Stmt:=top 21
abbrev rY:Stmt:=top 36
abbrev gU:Stmt:=top 24
abbrev vM:Stmt:=top 37
abbrev gP:Stmt:=top 38
abbrev vN:Stmt:=top 14
abbrev jP:Stmt:=top 17
abbrev fW:Stmt:=inClass (top 52) 1
abbrev sv:Stmt:=top 28
abbrev gR:Stmt:=top 43
abbrev o8:Stmt:=top 44
abbrev Ci:Stmt:=top 26
abbrev yM:Stmt:=top 45
abbrev eU:Stmt:=top 80
abbrev hJ:Stmt:=top 81
abbrev fU:Stmt:=top 82
abbrev iU:Stmt:=top 85
abbrev fV:Stmt:=top 88
abbrev j3:Stmt:=top 58
abbrev iT:Stmt:=top 64
abbrev iV:Stmt:=top 84
abbrev j4:Stmt:=top 87
abbrev iW:Stmt:=top 83
abbrev gY:Stmt:=top 86
abbrev Cg:Stmt:=top 89
set_option genInjectivity false in
set_option genSizeOf false in
structure Ads where
 t9:Addr
 tK:FuncData
 qX:Addr
 qB:FuncData
 oO:Addr
 ox:FuncData
 rk:Addr
 qI:FuncData
 tY:Addr
 tH:FuncData
 tV:Addr
 tF:FuncData
 rf:Addr
 qE:FuncData
 qZ:Addr
 qD:FuncData
 wA:Addr
 vY:FuncData
 oQ:Addr
 oz:FuncData
 je:Addr
 i8:FuncData
 mT:Addr
 mF:FuncData
 tW:Addr
 tG:FuncData
 rh:Addr
 qG:FuncData
 oP:Addr
 oy:FuncData
 mR:Addr
 mD:FuncData
 qS:Addr
 qi:FuncData
 tU:Addr
 tE:FuncData
 jd:Addr
 i5:FuncData
 qV:Addr
 qr:FuncData
 yv:Addr
 yh:FuncData
 mQ:Addr
 mC:FuncData
 ij:Addr
 ie:FuncData
 mV:Addr
 mH:FuncData
 rj:Addr
 qH:FuncData
 oN:Addr
 ow:FuncData
 qY:Addr
 qC:FuncData
 t8:Addr
 tJ:FuncData
 wq:Addr
 vX:FuncData
 rg:Addr
 qF:FuncData
 tZ:Addr
 tI:FuncData
 qT:Addr
 qo:FuncData
 ig:Addr
 ic:FuncData
 jD:Addr
 jB:FuncData
 oK:Addr
 ot:FuncData
 wo:Addr
 vW:FuncData
 oM:Addr
 ou:FuncData
 Ai:Addr
 Af:FuncData
 yu:Addr
 yg:FuncData
 wd:Addr
 vT:FuncData
 v9:Addr
 vS:FuncData
 wg:Addr
 vV:FuncData
 oJ:Addr
 oq:FuncData
 mN:Addr
 mo:FuncData
 DU:Addr
 DJ:FuncData
 qW:Addr
 qA:FuncData
 oI:Addr
 oo:FuncData
 yt:Addr
 yf:FuncData
 mP:Addr
 mB:FuncData
 Aj:Addr
 Ag:FuncData
 mM:Addr
 mj:FuncData
 Ak:Addr
 Ah:FuncData
 qU:Addr
 qq:FuncData
 kN:Addr
 kJ:FuncData
 yw:Addr
 yi:FuncData
 mO:Addr
 my:FuncData
 we:Addr
 vU:FuncData
 Ib:Addr
 HS:FuncData
 DV:Addr
 DK:FuncData
 jf:Addr
 ja:FuncData
 mU:Addr
 mG:FuncData
 kL:Addr
 kH:FuncData
 oS:Addr
 oB:FuncData
 kM:Addr
 kI:FuncData
 rn:Addr
 qJ:FuncData
 oR:Addr
 oA:FuncData
 oT:Addr
 oC:FuncData
 rz:Addr
 qK:FuncData
 oU:Addr
 oE:FuncData
 mS:Addr
 mE:FuncData
 LL:Addr
 LB:FuncData
 a_NOUGHT:Addr
 a_ONE:Addr
 t_MOST_STATES:Tok
 t_MOST_PUTS:Tok
 t_MOST_LOOKS:Tok
 a_System:Addr
structure Txt (K:W.Frag) (mg:Str->Option Value) (Z:Ads):Prop where
 zy:mg "_law_bag"=some (.ref Z.t9)
 Bv:Binds K Z.tK ["_law_script"] []
 xC:h8 K "_law_bag" "_law_bag" lF Z.t9 Z.tK
 aU:mg "_law_take"=some (.ref Z.qX)
 bw:Binds K Z.qB ["_law_bag_here","_law_many"] []
 bg:h8 K "_law_take" "_law_take" jS Z.qX Z.qB
 wW:mg "_law_sizes"=some (.ref Z.oO)
 yn:Binds K Z.ox ["_law_bag_here"] []
 uq:h8 K "_law_sizes" "_law_sizes" gF Z.oO Z.ox
 oj:mg "_law_line"=some (.ref Z.rk)
 qQ:Binds K Z.qI ["_law_bag_here","_law_n"] []
 nO:h8 K "_law_line" "_law_line" jZ Z.rk Z.qI
 iC:mg "_law_low"=some (.ref Z.tY)
 jK:Binds K Z.tH ["_law_top","_law_bottom"] []
 iH:h8 K "_law_low" "_law_low" lC Z.tY Z.tH
 j9:mg "_law_sum"=some (.ref Z.tV)
 lO:Binds K Z.tF ["_law_one","_law_other"] []
 jL:h8 K "_law_sum" "_law_sum" lA Z.tV Z.tF
 kF:mg "_law_plus"=some (.ref Z.rf)
 nH:Binds K Z.qE ["_law_one","_law_other"] []
 kf:h8 K "_law_plus" "_law_plus" jV Z.rf Z.qE
 kE:mg "_law_prod"=some (.ref Z.qZ)
 nG:Binds K Z.qD ["_law_one","_law_other"] []
 ke:h8 K "_law_prod" "_law_prod" jU Z.qZ Z.qD
 xx:mg "_law_by"=some (.ref Z.wA)
 y8:Binds K Z.vY ["_law_by_here","_law_row_here"] []
 wC:h8 K "_law_by" "_law_by" pz Z.wA Z.vY
 rK:mg "_law_mixed"=some (.ref Z.oQ)
 tR:Binds K Z.oz ["_law_bag_here","_law_move_here","_law_put","_law_look"] []
 oW:h8 K "_law_mixed" "_law_mixed" iS Z.oQ Z.oz
 qe:mg "_law_two_lines"=some (.ref Z.je)
 sI:Binds K Z.i8 ["_law_bag_here"] []
 lS:h8 K "_law_two_lines" "_law_two_lines" eT Z.je Z.i8
 vf:mg "_law_number"=some (.ref Z.mT)
 xf:Binds K Z.mF ["_law_bag_here","_law_wide"] []
 rV:h8 K "_law_number" "_law_number" gZ Z.mT Z.mF
 gi:mg "_law_row"=some (.ref Z.tW)
 iF:Binds K Z.tG ["_law_bag_here","_law_many","_law_wide"] []
 gI:h8 K "_law_row" "_law_row" lB Z.tW Z.tG
 xU:mg "_law_move"=some (.ref Z.rh)
 zH:Binds K Z.qG ["_law_bag_here","_law_n","_law_way","_law_first","_law_wide"] []
 vG:h8 K "_law_move" "_law_move" jX Z.rh Z.qG
 wX:mg "_law_parts"=some (.ref Z.oP)
 yo:Binds K Z.oy ["_law_bag_here","_law_n","_law_ins","_law_outs","_law_wide"] []
 ur:h8 K "_law_parts" "_law_parts" iQ Z.oP Z.oy
 vd:mg "_law_system"=some (.ref Z.mR)
 xa:Binds K Z.mD ["_law_bag_here"] []
 rS:h8 K "_law_system" "_law_system" gX Z.mR Z.mD
 og:mg "want_list"=some (.ref Z.qS)
 qM:Binds K Z.qi ["thing","at","most"] []
 nK:h8 K "want_list" "want_list" jN Z.qS Z.qi
 vb:mg "is_whole"=some (.ref Z.tU)
 xB:Binds K Z.tE ["thing"] []
 uh:h8 K "is_whole" "is_whole" lh Z.tU Z.tE
 ib:mg "common_divisor"=some (.ref Z.jd)
 jc:Binds K Z.i5 ["one","other"] []
 fZ:h8 K "common_divisor" "common_divisor" eQ Z.jd Z.i5
 xR:mg "is_number"=some (.ref Z.qV)
 zE:Binds K Z.qr ["thing"] []
 vD:h8 K "is_number" "is_number" jQ Z.qV Z.qr
 Cp:mg "is_row"=some (.ref Z.yv)
 E3:Binds K Z.yh ["thing","many"] []
 BB:h8 K "is_row" "is_row" so Z.yv Z.yh
 kD:mg "copied_rows"=some (.ref Z.mQ)
 mK:Binds K Z.mC ["things","wide"] []
 jx:h8 K "copied_rows" "copied_rows" gW Z.mQ Z.mC
 qR:Binds K Z.ie ["self","move","put","look"] []
 rA:h8 K "__init__" "System.__init__" eo Z.ij Z.ie
 kG:mg "_law_copied"=some (.ref Z.mV)
 mL:Binds K Z.mH ["_law_grid"] []
 jy:h8 K "_law_copied" "_law_copied" hZ Z.mV Z.mH
 xV:mg "_law_made"=some (.ref Z.rj)
 zI:Binds K Z.qH ["_law_parts_here"] []
 vH:h8 K "_law_made" "_law_made" jY Z.rj Z.qH
 wV:mg "_law_steps"=some (.ref Z.oN)
 ym:Binds K Z.ow ["_law_bag_here","_law_parts_here"] []
 uo:h8 K "_law_steps" "_law_steps" iP Z.oN Z.ow
 oi:mg "_law_puts"=some (.ref Z.qY)
 qP:Binds K Z.qC ["_law_bag_here","_law_parts_here","_law_steps_here","_law_wide"] []
 nN:h8 K "_law_puts" "_law_puts" jT Z.qY Z.qC
 nF:mg "_law_dot"=some (.ref Z.t8)
 pR:Binds K Z.tJ ["_law_one","_law_other"] []
 lV:h8 K "_law_dot" "_law_dot" lE Z.t8 Z.tJ
 tq:mg "_law_on"=some (.ref Z.wq)
 v7:Binds K Z.vX ["_law_grid","_law_row_here"] []
 sO:h8 K "_law_on" "_law_on" pk Z.wq Z.vX
 xT:mg "_law_next"=some (.ref Z.rg)
 zG:Binds K Z.qF ["_law_parts_here","_law_state","_law_puts_here"] []
 vF:h8 K "_law_next" "_law_next" jW Z.rg Z.qF
 qh:mg "_law_end"=some (.ref Z.tZ)
 tT:Binds K Z.tI ["_law_parts_here","_law_start","_law_rows"] []
 pT:h8 K "_law_end" "_law_end" lD Z.tZ Z.tI
 oh:mg "tops_over"=some (.ref Z.qT)
 qN:Binds K Z.qo ["row","bottom"] []
 nM:h8 K "tops_over" "tops_over" jO Z.qT Z.qo
 pP:mg "common_multiple"=some (.ref Z.ig)
 qO:Binds K Z.ic ["wholes"] []
 kS:h8 K "common_multiple" "common_multiple" eh Z.ig Z.ic
 iZ:mg "common_bottom"=some (.ref Z.jD)
 jC:Binds K Z.jB ["row"] []
 gN:h8 K "common_bottom" "common_bottom" fA Z.jD Z.jB
 wQ:mg "first_with"=some (.ref Z.oK)
 yk:Binds K Z.ot ["lines","begin","place"] []
 ui:h8 K "first_with" "first_with" iN Z.oK Z.ot
 A8:mg "cleared"=some (.ref Z.wo)
 CK:Binds K Z.vW ["lines","at","place","before"] []
 zj:h8 K "cleared" "cleared" ph Z.wo Z.vW
 wU:mg "brought_up"=some (.ref Z.oM)
 yl:Binds K Z.ou ["lines","at","to"] []
 uj:h8 K "brought_up" "brought_up" iO Z.oM Z.ou
 A4:mg "swept"=some (.ref Z.Ai)
 DO:Binds K Z.Af ["rows","wide"] []
 An:h8 K "swept" "swept" vL Z.Ai Z.Af
 sE:mg "lowest"=some (.ref Z.yu)
 vv:Binds K Z.yg ["top","bottom"] []
 sN:h8 K "lowest" "lowest" rZ Z.yu Z.yg
 A5:mg "reduced"=some (.ref Z.wd)
 CH:Binds K Z.vT ["rows","wide"] []
 zg:h8 K "reduced" "reduced" o7 Z.wd Z.vT
 xv:mg "row_dot"=some (.ref Z.v9)
 y7:Binds K Z.vS ["one","other"] []
 wB:h8 K "row_dot" "row_dot" o6 Z.v9 Z.vS
 A7:mg "grid_on"=some (.ref Z.wg)
 CJ:Binds K Z.vV ["grid","row"] []
 zi:h8 K "grid_on" "grid_on" o9 Z.wg Z.vV
 rJ:mg "moved_rows"=some (.ref Z.oJ)
 tQ:Binds K Z.oq ["system","rows"] []
 oV:h8 K "moved_rows" "moved_rows" iM Z.oJ Z.oq
 va:mg "reach_grown"=some (.ref Z.mN)
 w5:Binds K Z.mo ["system","steps"] []
 rR:h8 K "reach_grown" "reach_grown" gQ Z.mN Z.mo
 Ht:mg "flat"=some (.ref Z.DU)
 LJ:Binds K Z.DJ ["lists"] []
 GA:h8 K "flat" "flat" yL Z.DU Z.DJ
 xS:mg "additions"=some (.ref Z.qW)
 zF:Binds K Z.qA ["system","steps"] []
 vE:h8 K "additions" "additions" jR Z.qW Z.qA
 me:mg "nought_row"=some (.ref Z.oI)
 oF:Binds K Z.oo ["many"] []
 kR:h8 K "nought_row" "nought_row" iL Z.oI Z.oo
 yR:mg "solved"=some (.ref Z.yt)
 Bu:Binds K Z.yf ["rows","wide","due"] []
 yy:h8 K "solved" "solved" rY Z.yt Z.yf
 kC:mg "grid_turned"=some (.ref Z.mP)
 mJ:Binds K Z.mB ["grid","wide"] []
 jw:h8 K "grid_turned" "grid_turned" gU Z.mP Z.mB
 EH:mg "solve"=some (.ref Z.Aj)
 HX:Binds K Z.Ag ["rows","wide","due"] []
 DZ:h8 K "solve" "solve" vM Z.Aj Z.Ag
 uZ:mg "weights_for"=some (.ref Z.mM)
 wZ:Binds K Z.mj ["rows","wide","row"] []
 rQ:h8 K "weights_for" "weights_for" gP Z.mM Z.mj
 EI:mg "minus"=some (.ref Z.Ak)
 HZ:Binds K Z.Ah ["one","other"] []
 D3:h8 K "minus" "minus" vN Z.Ak Z.Ah
 xQ:mg "row_minus"=some (.ref Z.qU)
 zD:Binds K Z.qq ["one","other"] []
 vC:h8 K "row_minus" "row_minus" jP Z.qU Z.qq
 uA:PB K Z.a_System "moved" Z.kN
 vz:Binds K Z.kJ ["self","state","puts"] []
 vK:h8 K "moved" "System.moved" fW Z.kN Z.kJ
 Cq:mg "course"=some (.ref Z.yw)
 E4:Binds K Z.yi ["system","start","puts"] []
 BD:h8 K "course" "course" sv Z.yw Z.yi
 pO:mg "nothing_for"=some (.ref Z.mO)
 rN:Binds K Z.my ["system","steps"] []
 mW:h8 K "nothing_for" "nothing_for" gR Z.mO Z.my
 A6:mg "lacking"=some (.ref Z.we)
 CI:Binds K Z.vU ["system","start","goal","steps"] []
 zh:h8 K "lacking" "lacking" o8 Z.we Z.vU
 K2:mg "cut"=some (.ref Z.Ib)
 N9:Binds K Z.HS ["row","many","wide"] []
 LN:h8 K "cut" "cut" Ci Z.Ib Z.HS
 Dv:mg "come"=some (.ref Z.DV)
 Gk:Binds K Z.DK ["system","start","goal","steps"] []
 D4:h8 K "come" "come" yM Z.DV Z.DK
 qg:mg "_law_is_number"=some (.ref Z.jf)
 sJ:Binds K Z.ja ["_law_thing"] []
 lU:h8 K "_law_is_number" "_law_is_number" eU Z.jf Z.ja
 pQ:mg "_law_is_row"=some (.ref Z.mU)
 rO:Binds K Z.mG ["_law_thing","_law_many"] []
 mX:h8 K "_law_is_row" "_law_is_row" hJ Z.mU Z.mG
 uy:mg "_law_is_grid"=some (.ref Z.kL)
 vw:Binds K Z.kH ["_law_thing","_law_many","_law_wide"] []
 pS:h8 K "_law_is_grid" "_law_is_grid" fU Z.kL Z.kH
 rL:mg "_law_leads"=some (.ref Z.oS)
 tS:Binds K Z.oB ["_law_parts_here","_law_start","_law_goal_here","_law_steps_here","_law_puts_here"] []
 oX:h8 K "_law_leads" "_law_leads" iU Z.oS Z.oB
 jA:mg "_law_come_to"=some (.ref Z.kM)
 kK:Binds K Z.kI ["_law_system_here","_law_parts_here","_law_start","_law_goal_here","_law_steps_here"] []
 iI:h8 K "_law_come_to" "_law_come_to" fV Z.kM Z.kI
 xW:mg "_law_less"=some (.ref Z.rn)
 zJ:Binds K Z.qJ ["_law_one","_law_other"] []
 vI:h8 K "_law_less" "_law_less" j3 Z.rn Z.qJ
 mh:mg "_law_minus"=some (.ref Z.oR)
 oG:Binds K Z.oA ["_law_one","_law_other"] []
 kT:h8 K "_law_minus" "_law_minus" iT Z.oR Z.oA
 mi:mg "_law_alone"=some (.ref Z.oT)
 oH:Binds K Z.oC ["_law_parts_here","_law_start","_law_steps_here"] []
 kU:h8 K "_law_alone" "_law_alone" iV Z.oT Z.oC
 xX:mg "_law_goal"=some (.ref Z.rz)
 zK:Binds K Z.qK ["_law_bag_here","_law_parts_here","_law_start","_law_steps_here","_law_wide"] []
 vJ:h8 K "_law_goal" "_law_goal" j4 Z.rz Z.qK
 wY:mg "_law_added"=some (.ref Z.oU)
 yp:Binds K Z.oE ["_law_parts_here","_law_steps_here"] []
 uu:h8 K "_law_added" "_law_added" iW Z.oU Z.oE
 ve:mg "_law_priced"=some (.ref Z.mS)
 xc:Binds K Z.mE ["_law_parts_here","_law_start","_law_goal_here","_law_steps_here","_law_price"] []
 rT:h8 K "_law_priced" "_law_priced" gY Z.mS Z.mE
 Oc:h8 K "law" "law" Cg Z.LL Z.LB
 abs:mg "abs"=none
 len:mg "len"=none
 min:mg "min"=none
 int:mg "int"=none
 range:mg "range"=none
 isinstance:mg "isinstance"=none
 list:mg "list"=none
 bool:mg "bool"=none
 tuple:mg "tuple"=none
 all:mg "all"=none
 enumerate:mg "enumerate"=none
 max:mg "max"=none
 zip:mg "zip"=none
 sum:mg "sum"=none
 reversed:mg "reversed"=none
 mg_NOUGHT:mg "NOUGHT"=some (.ref Z.a_NOUGHT)
 sq_NOUGHT:∀H,uc K H Z.a_NOUGHT [.int 0,.int 1]
 mg_ONE:mg "ONE"=some (.ref Z.a_ONE)
 sq_ONE:∀H,uc K H Z.a_ONE [.int 1,.int 1]
 mg_MOST_STATES:mg "MOST_STATES"=some (.int 8 Z.t_MOST_STATES)
 mg_MOST_PUTS:mg "MOST_PUTS"=some (.int 4 Z.t_MOST_PUTS)
 mg_MOST_LOOKS:mg "MOST_LOOKS"=some (.int 4 Z.t_MOST_LOOKS)
 mg_System:mg "System"=some (.ref Z.a_System)
 cl_System:JK K Z.a_System
 na_move:kO K Z.a_System "move"
 na_states:kO K Z.a_System "states"
 na_put:kO K Z.a_System "put"
 na_ins:kO K Z.a_System "ins"
 na_look:kO K Z.a_System "look"
 na_outs:kO K Z.a_System "outs"
 mk_System:Mk K Z.a_System Z.ij
section
variable {P:Program} {w:World} {K:W.Frag} {mg:Str->Option Value} {base:Heap} {Z:Ads}
theorem Ep:bx ["_law_script"] ["_law_script"] (ax lF):=by walk_at "d"
theorem EB (T:Txt K mg Z):cN P w K mg base gK 1 Z.t9 Z.tK ["_law_script"] (Oz K):=by
 refine T.xC.ok Ep (fun vs H Q E h=>?_) (fun cdv A outer s H vs Q E hr h=>?_)
 ·obtain ⟨a,ns,rfl,hS,hlen,k⟩:=h;rfl
 ·obtain ⟨a,ns,rfl,hS,hlen,k⟩:=h;refine ⟨_,(aB (aX (dJ (aa ak (aa ak (aa ak (aa (cG ["_law_cell"] [] [] (cQ (AO C1 (pv 0) GW (z9 ak))) (fun _=>(aO (i:=0) (show List.Nodup (α:=PySem.Str) ["_law_cell"] by decide +kernel))) (fun _=>cJ) (fun _=>(bJ yj (by rfl) T.abs PyProof.Rows.boot_abs (aa (pv 0) ai)))) ai))))))),?_⟩;refine aS (σ:=[some (.ref a)]) rfl ?_;walk_at "w";refine ⟨a,_,rfl,hS,fun l hl=>?_⟩;have hcl:(wF (ns.map V.int) none (some 63)).length<=63:=aj (zC _ _ _) (by simpa using hlen);refine ⟨l,rfl,⟨_,bV.of aM⟩,?_⟩;refine fY (K:=K) (a:=l) (xs:=wF (ns.map V.int) none (some 63)) (fun i ys H'=>H'=upd H l (.lst (wF (ns.map V.int) none (some 63)))/\∃cs:List Int,ys=cs.map V.int/\∀x∈cs,0<=x) (aj hcl (by decide)) ⟨rfl,[],rfl,fun _ z=>nomatch z⟩ (fun i ys H' _ ⟨e,_⟩=>by subst e;exact bV.of aM) ?_ ?_
  ·rintro i x ys H' hx hi ⟨rfl,cs,rfl,hcs⟩
   obtain ⟨z,rfl⟩:∃z,x=V.int z:=by
    have hm:x∈ns.map V.int:=List.mem_of_mem_drop (cz (ay hx));obtain ⟨z,_,e⟩:=aD.mp hm;exact ⟨z,e.symm⟩
   walk_at "w";refine ⟨rfl,cs++[if z < 0 then -z else z],by simp,fun x hx=>?_⟩;rcases az.mp hx with hx | hx
   ·exact hcs x hx
   ·have e:x=if z < 0 then -z else z:=by simpa using hx
    subst e
    split <;> lia
  ·rintro ys H' hy ⟨rfl,cs,rfl,hcs⟩ p hp;walk_at "w";refine ⟨by show 4<=sizeLine;decide,fun b hb=>?_⟩;have n1:b≠p:=fun z=>by rw[z,aM] at hb;cases hb
   have hb1:(upd H l (.lst (wF (ns.map V.int) none (some 63)))) b=none:=by rw[bI n1] at hb;exact hb
   have s1:aL H (upd H l (.lst (wF (ns.map V.int) none (some 63)))):=aL.new hl;refine k b _ (s1.free hb1) ⟨p,0,1234567891,0,cs,aM,by rw[bI n1.symm];exact aM,by decide,by decide,by lia,hcs⟩ ((s1.trans (aL.new hp)).trans (aL.new hb))
theorem gD:bx ["_law_bag_here","_law_many","_law_more","_law_cell","_law_value","_law_first","_law_second"] ["_law_bag_here","_law_many"] (ax jS):=by walk_at "d"
theorem bp (T:Txt K mg Z):cN P w K mg base gK 1 Z.qX Z.qB ["_law_bag_here","_law_many"] Mb:=by
 refine T.bg.ok gD (fun vs H Q E h=>?_) (fun cdv A outer s H vs Q E hr h=>?_)
 ·obtain ⟨p,n,rfl,⟨q,a,b,c,cs,hp,hq,ha,hc,hcl,hcs⟩,hn,hn2,k⟩:=h;rfl
 ·obtain ⟨p,n,rfl,⟨q,a,b,c,cs,hp,hq,ha,hc,hcl,hcs⟩,hn,hn2,k⟩:=h;have nqp:q≠p:=JB hp hq
  refine ⟨_,(j5 (dc (bH eP (aW bL (pv 0) ak) ak (bM _)) (aw (bo (i:=2) gD.nd rfl (Or.inl rfl) ak)
   (j5 (dc (bH wK (aW bL (pv 0) ak) (bJ bu (by rfl) T.len aV (aa (aW bL (pv 0) ak) ai)) (bM _)) (aw (bo (i:=3) gD.nd rfl (Or.inl rfl) (aW bL (aW bL (pv 0) ak) (aW bL (pv 0) ak)))
   (aw (MT (pv 0) ak Li ak Ph set_list)
   (aw (dc (bH Ck (pv 3) ak (bM _)) (aB (ff (pv 3) (h9 (pv 0) ak set_list))) bZ)
   (aB (bo (i:=2) gD.nd rfl (Or.inl rfl) (bN fv (bN rD (pv 3) ak) ak)))))) bZ)
   (aB (ff (bN rD (bN fv (bN di (aW bL (pv 0) ak) ak) (pv 2)) ak) (h9 (pv 0) ak set_list))))) bZ)
   (aw (dc (bH wL (aW bL (pv 0) ak) ak (bM _)) (aw (bo (i:=4) gD.nd rfl (Or.inl rfl) (bN rD (aW bL (pv 0) ak) (pv 1)))
   (aw (ff (bN ju (aW bL (pv 0) ak) (pv 1)) (h9 (pv 0) ak set_list))
   (aB (aX (pv 4))))) bZ)
   (aw (bo (i:=5) gD.nd rfl (Or.inl rfl) (bN rD (bN di (aW bL (pv 0) ak) ak) ak))
   (aw (bo (i:=6) gD.nd rfl (Or.inl rfl) (bN rD (bN di (pv 5) ak) ak))
   (aw (dc (bH wL (pv 1) ak (bM _)) (aB (aX (bN rD (bN fv (bN di (pv 6) ak) (pv 5)) (pv 1)))) bZ)
   (aB (aX (bN rD (bN ju (pv 6) ak) (pv 1))))))))),?_⟩
  refine aS (σ:=[some (.ref p),some (.int n),none,none,none,none,none]) rfl ?_;refine ⟨fun σ' H'=>∃(x y:Option V) (a' b' c':Int),σ'=[some (.ref p),some (.int n),x,y,none,none,none]/\H' p=some (.lst [.int a',.int b',.int c',.ref q])/\0<=a'/\0<=c'/\c'<=cs.length/\cT p H H',?_,?_⟩
  ·walk_at "w";refine iq (fun h0=>?_) (fun h0=>?_)
   ·walk_at "w";refine ⟨fun σ' H'=>∃(m:Int) (y:Option V) (a' c':Int),σ'=[some (.ref p),some (.int n),some (.int m),y,none,none,none]/\H' p=some (.lst [.int a',.int b,.int c',.ref q])/\0<=a'/\0<=c'/\c'<=cs.length/\cT p H H',?_,?_⟩
    ·walk_at "w";refine ⟨_,_,rfl,.inl (bV.of hq),?_⟩;walk_at "w";refine iq (fun h1=>?_) (fun h1=>?_)
     ·have h1':c < cs.length:=by simpa using of_decide_eq_true h1
      obtain ⟨z,hz⟩:∃z,cs[c.toNat]?=some z:=⟨_,ag (by lia)⟩;have hz0:0<=z:=hcs z (ay hz);walk_at "w";refine cB (bV.of hq) (v:=.int z) ?_ ?_
      ·have:=eC (xs:=cs.map V.int) (j:=c.toNat) (v:=.int z) (by rw[aK,hz];rfl);rwa [Int.toNat_of_nonneg hc] at this
      walk_at "w";refine iq (fun h2=>?_) (fun h2=>?_)
      ·walk_at "w";exact ⟨_,_,z,c+1,rfl,aM,hz0,by lia,by lia,(cT.set hp).trans (cT.set aM)⟩
      ·walk_at "w";exact ⟨_,_,a,c+1,rfl,aM,ha,by lia,by lia,cT.set hp⟩
     ·walk_at "w";exact ⟨_,_,a,c,rfl,hp,ha,hc,hcl,cT.refl _⟩
    ·rintro σ' H' ⟨m,y,a',c',rfl,hp',ha',hc',hcl',u'⟩;walk_at "w";exact ⟨_,_,a',_,c',rfl,aM,ha',hc',hcl',u'.trans (cT.set hp')⟩
   ·walk_at "w";exact ⟨_,_,a,b,c,rfl,hp,ha,hc,hcl,cT.refl _⟩
  ·rintro σ' H' ⟨x,y,a',b',c',rfl,hp',ha',hc',hcl',u'⟩;have hq':H' q=some (.lst (cs.map V.int)):=u'.1 q _ hq nqp
   have sn:Sz 8999 n:=by
    show n.natAbs < 2^8999
    exact bF (show n.natAbs < 2^64 by lia) (au (by decide) (by decide))
   walk_at "w";refine iq (fun h0=>?_) (fun h0=>?_)
   ·walk_at "w";refine gG (show (0:Int) < n from hn) ?_;walk_at "w";refine gG (show sP _ _ from ⟨by lia,sn⟩) ?_;walk_at "w";refine k _ _ (oZ _ (by lia)) (jF _ hn) ⟨q,_,b',c',cs,aM,by rw[bI nqp];exact hq',?_,hc',hcl',hcs⟩ (u'.trans (cT.set hp'));rw[cA _ (by lia)];exact Int.ediv_nonneg ha' (by lia)
   ·walk_at "w";refine iq (fun h1=>?_) (fun h1=>?_)
    ·walk_at "w";refine gG (show (0:Int) < n from hn) ?_;exact k _ _ (oZ _ (by lia)) (jF _ hn) ⟨q,a',b',c',cs,hp',hq',ha',hc',hcl',hcs⟩ u'
    ·walk_at "w";refine gG (show sP _ _ from ⟨by decide,by show (3:Nat) < 2^8999;exact bF (show 3 < 2^2 by decide) (au (by decide) (by decide))⟩) ?_;walk_at "w";refine gG (show (0:Int) < n from hn) ?_;exact k _ _ (oZ _ (by lia)) (jF _ hn) ⟨q,a',b',c',cs,hp',hq',ha',hc',hcl',hcs⟩ u'
theorem BX:∃x1 x2 x3 x4 x5 x6 x7 x8 x9 x10 x11 x12 x13 x14 x15 x16:Expr,x1=(Expr.Constant (Const.int 0) 0 ⟨306,16,306,17⟩)/\x2=(Expr.Constant (Const.int 1) 0 ⟨306,19,306,20⟩)/\x3=(Expr.Constant (Const.int 1) 0 ⟨306,22,306,23⟩)/\x4=(Expr.Constant (Const.int 1) 0 ⟨306,25,306,26⟩)/\x5=(Expr.Constant (Const.int 2) 0 ⟨306,28,306,29⟩)/\x6=(Expr.Constant (Const.int 2) 0 ⟨306,31,306,32⟩)/\x7=(Expr.Constant (Const.int 3) 0 ⟨306,34,306,35⟩)/\x8=(Expr.Constant (Const.int 4) 0 ⟨306,37,306,38⟩)/\x9=(Expr.Constant (Const.int 0) 0 ⟨307,17,307,18⟩)/\x10=(Expr.Constant (Const.int 1) 0 ⟨307,20,307,21⟩)/\x11=(Expr.Constant (Const.int 1) 0 ⟨307,23,307,24⟩)/\x12=(Expr.Constant (Const.int 1) 0 ⟨307,26,307,27⟩)/\x13=(Expr.Constant (Const.int 2) 0 ⟨307,29,307,30⟩)/\x14=(Expr.Constant (Const.int 2) 0 ⟨307,32,307,33⟩)/\x15=(Expr.Constant (Const.int 3) 0 ⟨307,35,307,36⟩)/\x16=(Expr.Constant (Const.int 4) 0 ⟨307,38,307,39⟩)/\bc gF=[ (Stmt.Assign (targets:=[(Expr.Name "_law_n" ⟨303,4,303,10⟩)]) (value:=(Expr.Call (func:=(Expr.Name "_law_take" ⟨303,13,303,22⟩)) (args:=[ (Expr.Name "_law_bag_here" ⟨303,23,303,36⟩),(Expr.Constant (Const.int 5) 0 ⟨303,38,303,39⟩)]) (keywords:=[]) (pos:=⟨303,13,303,40⟩))) (pos:=⟨303,4,303,40⟩)),(Stmt.If (test:=(Expr.Compare (left:=(Expr.Call (func:=(Expr.Name "_law_take" ⟨304,7,304,16⟩)) (args:=[ (Expr.Name "_law_bag_here" ⟨304,17,304,30⟩),(Expr.Constant (Const.int 8) 0 ⟨304,32,304,33⟩)]) (keywords:=[]) (pos:=⟨304,7,304,34⟩))) (ops:=[PySem.CmpOp.Eq]) (comparators:=[(Expr.Constant (Const.int 7) 0 ⟨304,38,304,39⟩)]) (pos:=⟨304,7,304,39⟩))) (body:=[ (Stmt.Assign (targets:=[(Expr.Name "_law_n" ⟨305,8,305,14⟩)]) (value:=(Expr.Constant (Const.int 5) 0 ⟨305,17,305,18⟩)) (pos:=⟨305,8,305,18⟩))]) (orelse:=[]) (pos:=⟨304,4,305,18⟩)),(Stmt.Assign (targets:=[(Expr.Name "_law_ins" ⟨306,4,306,12⟩)]) (value:=(Expr.Subscript (value:=(Expr.List (elts:=[x1,x2,x3,x4,x5,x6,x7,x8]) (pos:=⟨306,15,306,39⟩))) (slice:=(Expr.Call (func:=(Expr.Name "_law_take" ⟨306,40,306,49⟩)) (args:=[ (Expr.Name "_law_bag_here" ⟨306,50,306,63⟩),(Expr.Constant (Const.int 8) 0 ⟨306,65,306,66⟩)]) (keywords:=[]) (pos:=⟨306,40,306,67⟩))) (pos:=⟨306,15,306,68⟩))) (pos:=⟨306,4,306,68⟩)),(Stmt.Assign (targets:=[(Expr.Name "_law_outs" ⟨307,4,307,13⟩)]) (value:=(Expr.Subscript (value:=(Expr.List (elts:=[x9,x10,x11,x12,x13,x14,x15,x16]) (pos:=⟨307,16,307,40⟩))) (slice:=(Expr.Call (func:=(Expr.Name "_law_take" ⟨307,41,307,50⟩)) (args:=[ (Expr.Name "_law_bag_here" ⟨307,51,307,64⟩),(Expr.Constant (Const.int 8) 0 ⟨307,66,307,67⟩)]) (keywords:=[]) (pos:=⟨307,41,307,68⟩))) (pos:=⟨307,16,307,69⟩))) (pos:=⟨307,4,307,69⟩)),(Stmt.If (test:=(Expr.Compare (left:=(Expr.Name "_law_n" ⟨308,7,308,13⟩)) (ops:=[PySem.CmpOp.Eq]) (comparators:=[(Expr.Constant (Const.int 5) 0 ⟨308,17,308,18⟩)]) (pos:=⟨308,7,308,18⟩))) (body:=[ (Stmt.Assign (targets:=[ (Expr.Tuple (elts:=[(Expr.Name "_law_ins" ⟨309,8,309,16⟩),(Expr.Name "_law_outs" ⟨309,18,309,27⟩)]) (k:=0) (pos:=⟨309,8,309,27⟩))]) (value:=(Expr.Tuple (elts:=[ (Expr.Call (func:=(Expr.Name "min" ⟨309,31,309,34⟩)) (args:=[ (Expr.Name "_law_ins" ⟨309,35,309,43⟩),(Expr.Constant (Const.int 2) 0 ⟨309,45,309,46⟩)]) (keywords:=[]) (pos:=⟨309,31,309,47⟩)),(Expr.Call (func:=(Expr.Name "min" ⟨309,49,309,52⟩)) (args:=[ (Expr.Name "_law_outs" ⟨309,53,309,62⟩),(Expr.Constant (Const.int 2) 0 ⟨309,64,309,65⟩)]) (keywords:=[]) (pos:=⟨309,49,309,66⟩))]) (k:=0) (pos:=⟨309,30,309,67⟩))) (pos:=⟨309,8,309,67⟩))]) (orelse:=[]) (pos:=⟨308,4,309,67⟩)),(Stmt.Assign (targets:=[(Expr.Name "_law_wide" ⟨310,4,310,13⟩)]) (value:=(Expr.Subscript (value:=(Expr.List (elts:=[ (Expr.Constant (Const.int 4) 0 ⟨310,17,310,18⟩),(Expr.Constant (Const.int 4) 0 ⟨310,20,310,21⟩),(Expr.Constant (Const.int 9) 0 ⟨310,23,310,24⟩),(Expr.Constant (Const.int 1000000) 0 ⟨310,26,310,33⟩)]) (pos:=⟨310,16,310,34⟩))) (slice:=(Expr.Call (func:=(Expr.Name "_law_take" ⟨310,35,310,44⟩)) (args:=[ (Expr.Name "_law_bag_here" ⟨310,45,310,58⟩),(Expr.Constant (Const.int 4) 0 ⟨310,60,310,61⟩)]) (keywords:=[]) (pos:=⟨310,35,310,62⟩))) (pos:=⟨310,16,310,63⟩))) (pos:=⟨310,4,310,63⟩)),(Stmt.If (test:=(Expr.Compare (left:=(Expr.Name "_law_wide" ⟨311,7,311,16⟩)) (ops:=[PySem.CmpOp.Gt]) (comparators:=[(Expr.Constant (Const.int 9) 0 ⟨311,19,311,20⟩)]) (pos:=⟨311,7,311,20⟩))) (body:=[ (Stmt.Assign (targets:=[(Expr.Name "_law_n" ⟨312,8,312,14⟩)]) (value:=(Expr.Call (func:=(Expr.Name "min" ⟨312,17,312,20⟩)) (args:=[ (Expr.Name "_law_n" ⟨312,21,312,27⟩),(Expr.Constant (Const.int 2) 0 ⟨312,29,312,30⟩)]) (keywords:=[]) (pos:=⟨312,17,312,31⟩))) (pos:=⟨312,8,312,31⟩))]) (orelse:=[]) (pos:=⟨311,4,312,31⟩)),(Stmt.Return (value:=(some (Expr.Tuple (elts:=[ (Expr.Name "_law_n" ⟨313,12,313,18⟩),(Expr.Name "_law_ins" ⟨313,20,313,28⟩),(Expr.Name "_law_outs" ⟨313,30,313,39⟩),(Expr.Name "_law_wide" ⟨313,41,313,50⟩)]) (k:=0) (pos:=⟨313,11,313,51⟩)))) (pos:=⟨313,4,313,51⟩))]:=⟨_,_,_,_,_,_,_,_,_,_,_,_,_,_,_,_,rfl,rfl,rfl,rfl,rfl,rfl,rfl,rfl,rfl,rfl,rfl,rfl,rfl,rfl,rfl,rfl,by with_unfolding_all rfl⟩
theorem eO:bx ["_law_bag_here","_law_n","_law_ins","_law_outs","_law_wide"] ["_law_bag_here"] (ax gF):=by walk_at "d"
theorem BR (T:Txt K mg Z):cN P w K mg base gK 2 Z.oO Z.ox ["_law_bag_here"] Iz:=by
 refine T.uq.ok eO (fun vs H Q E h=>?_) (fun cdv A outer s H vs Q E hr h=>?_)
 ·obtain ⟨b,rfl,hB,k⟩:=h;rfl
 ·obtain ⟨b,rfl,hB,k⟩:=h;obtain ⟨x1,x2,x3,x4,x5,x6,x7,x8,x9,x10,x11,x12,x13,x14,x15,x16,hx1,hx2,hx3,hx4,hx5,hx6,hx7,hx8,hx9,hx10,hx11,hx12,hx13,hx14,hx15,hx16,hbd⟩:=BX;rw[hbd]
  refine ⟨_,(aw (bo (i:=1) eO.nd rfl (Or.inl rfl) (cL (bp T) hr T.aU T.bg.kp T.bw (aa (pv 0) (aa ak ai))))
   (j5 (dc (bH eP (cL (bp T) hr T.aU T.bg.kp T.bw (aa (pv 0) (aa ak ai))) ak (bM _)) (aB (bo (i:=1) eO.nd rfl (Or.inl rfl) ak)) bZ)
   (aw (bo (i:=2) eO.nd rfl (Or.inl rfl) (aW bL (dJ (eI hx1 ak (eI hx2 ak (eI hx3 ak (eI hx4 ak (eI hx5 ak (eI hx6 ak (eI hx7 ak (eI hx8 ak ai))))))))) (cL (bp T) hr T.aU T.bg.kp T.bw (aa (pv 0) (aa ak ai)))))
   (aw (bo (i:=3) eO.nd rfl (Or.inl rfl) (aW bL (dJ (eI hx9 ak (eI hx10 ak (eI hx11 ak (eI hx12 ak (eI hx13 ak (eI hx14 ak (eI hx15 ak (eI hx16 ak ai))))))))) (cL (bp T) hr T.aU T.bg.kp T.bw (aa (pv 0) (aa ak ai)))))
   (j5 (dc (bH eP (pv 1) ak (bM _)) (aB (KD (i:=2) (j:=3) rfl eO.nd rfl rfl (by decide) rfl rfl (aa (bJ (v5 rfl) (by rfl) T.min PyProof.Rows.boot_min (aa (pv 2) (aa ak ai))) (aa (bJ (v5 rfl) (by rfl) T.min PyProof.Rows.boot_min (aa (pv 3) (aa ak ai))) ai)) rfl)) bZ)
   (aw (bo (i:=4) eO.nd rfl (Or.inl rfl) (aW bL (dJ (aa ak (aa ak (aa ak (aa ak ai))))) (cL (bp T) hr T.aU T.bg.kp T.bw (aa (pv 0) (aa ak ai)))))
   (j5 (dc (bH wL (pv 4) ak (bM _)) (aB (bo (i:=1) eO.nd rfl (Or.inl rfl) (bJ (v5 rfl) (by rfl) T.min PyProof.Rows.boot_min (aa (pv 1) (aa ak ai))))) bZ)
   (aB (aX (cZ (aa (pv 1) (aa (pv 2) (aa (pv 3) (aa (pv 4) ai)))))))))))))),?_⟩
  refine aS (σ:=[some (.ref b),none,none,none,none]) rfl ?_;walk_at "w";refine ⟨b,5,rfl,hB,by decide,by decide,fun n H1 n0 n1 B1 u1=>?_⟩;obtain ⟨n,rfl⟩:=cn n0;walk_at "w";refine ⟨fun σ' H'=>(∃n:Nat,σ'=[some (.ref b),some (.int n),none,none,none]/\n<=5)/\ir H' b/\cT b H H',?_,?_⟩
  ·walk_at "w";refine ⟨b,8,rfl,B1,by decide,by decide,fun v H2 v0 v1 B2 u2=>?_⟩;walk_at "w";refine iq (fun _=>?_) (fun _=>?_)
   ·walk_at "w";exact ⟨⟨5,rfl,by decide⟩,B2,u1.trans u2⟩
   ·walk_at "w";exact ⟨⟨n,rfl,by lia⟩,B2,u1.trans u2⟩
  clear n0 n1 u1 B1;rintro σ' H1 ⟨⟨n,rfl,n5⟩,B1,u1⟩;walk_at "w";refine dg fun l0 H2 s2 n2 g2=>?_
  walk_at "w";refine ⟨b,8,rfl,B1.same s2,by decide,by decide,fun v H3 v0 v1 B3 u3=>?_⟩;have g3:=u3.other (fun z=>B1.at (by rw[<- z];exact n2)) g2;obtain ⟨x,ex,mx,_⟩:=nJ (xs:=[V.int 0,V.int 1,V.int 1,V.int 1,V.int 2,V.int 2,V.int 3,V.int 4]) v0 (by simpa using v1)
  obtain ⟨i,rfl,hi⟩:∃z:Nat,x=.int z/\z<=4:=by
   simp only[aG,ba,or_false] at mx;rcases mx with rfl | rfl | rfl | rfl | rfl | rfl | rfl | rfl
   ·exact ⟨0,rfl,by decide⟩
   ·exact ⟨1,rfl,by decide⟩
   ·exact ⟨1,rfl,by decide⟩
   ·exact ⟨1,rfl,by decide⟩
   ·exact ⟨2,rfl,by decide⟩
   ·exact ⟨2,rfl,by decide⟩
   ·exact ⟨3,rfl,by decide⟩
   ·exact ⟨4,rfl,by decide⟩
  walk_at "w";refine cB (bV.of g3) ex ?_;clear ex mx g3 g2;walk_at "w";refine dg fun l1 H4 s4 n4 g4=>?_
  walk_at "w";refine ⟨b,8,rfl,B3.same s4,by decide,by decide,fun t H5 t0 t1 B5 u5=>?_⟩;have g5:=u5.other (fun z=>B3.at (by rw[<- z];exact n4)) g4;obtain ⟨x,ex,mx,_⟩:=nJ (xs:=[V.int 0,V.int 1,V.int 1,V.int 1,V.int 2,V.int 2,V.int 3,V.int 4]) t0 (by simpa using t1)
  obtain ⟨o,rfl,ho⟩:∃z:Nat,x=.int z/\z<=4:=by
   simp only[aG,ba,or_false] at mx;rcases mx with rfl | rfl | rfl | rfl | rfl | rfl | rfl | rfl
   ·exact ⟨0,rfl,by decide⟩
   ·exact ⟨1,rfl,by decide⟩
   ·exact ⟨1,rfl,by decide⟩
   ·exact ⟨1,rfl,by decide⟩
   ·exact ⟨2,rfl,by decide⟩
   ·exact ⟨2,rfl,by decide⟩
   ·exact ⟨3,rfl,by decide⟩
   ·exact ⟨4,rfl,by decide⟩
  walk_at "w";refine cB (bV.of g5) ex ?_;clear ex mx g5 g4;have u15:=(((u1.same s2).trans u3).same s4).trans u5;walk_at "w";refine ⟨fun σ' H'=>(∃i o:Nat,σ'=[some (.ref b),some (.int n),some (.int i),some (.int o),none]/\i<=4/\o<=4/\(n=5->i<=2/\o<=2))/\ir H' b/\cT b H H',?_,?_⟩
  ·walk_at "w";refine iq (fun h0=>?_) (fun h0=>?_)
   ·walk_at "w";refine ⟨⟨min i 2,min o 2,?_,by lia,by lia,fun _=>⟨by lia,by lia⟩⟩,B5,u15⟩;have e1:(if (2:Int) < (i:Int) then (2:Int) else (i:Int))=((min i 2:Nat):Int):=by split <;> lia
    have e2:(if (2:Int) < (o:Int) then (2:Int) else (o:Int))=((min o 2:Nat):Int):=by split <;> lia
    rw[<- e1,<- e2];rfl
   ·walk_at "w";exact ⟨⟨i,o,rfl,hi,ho,fun z=>absurd (decide_eq_true (show (n:Int)=5 by lia)) h0⟩,B5,u15⟩
  clear hi ho u15 B5 u5 u3 u1;rintro σ' H5 ⟨⟨i,o,rfl,hi,ho,h5⟩,B5,u5⟩;walk_at "w";refine dg fun l2 H6 s6 n6 g6=>?_
  walk_at "w";refine ⟨b,4,rfl,B5.same s6,by decide,by decide,fun v H7 v0 v1 B7 u7=>?_⟩;have g7:=u7.other (fun z=>B5.at (by rw[<- z];exact n6)) g6;obtain ⟨x,ex,mx,_⟩:=nJ (xs:=[V.int 4,V.int 4,V.int 9,V.int 1000000]) v0 (by simpa using v1)
  obtain ⟨w,rfl,hw⟩:∃w:Nat,x=.int w/\(w=4\/w=9\/w=1000000):=by
   simp only[aG,ba,or_false] at mx;rcases mx with rfl | rfl | rfl | rfl
   ·exact ⟨4,rfl,.inl rfl⟩
   ·exact ⟨4,rfl,.inl rfl⟩
   ·exact ⟨9,rfl,.inr (.inl rfl)⟩
   ·exact ⟨1000000,rfl,.inr (.inr rfl)⟩
  walk_at "w";refine cB (bV.of g7) ex ?_;have u07:=(u5.same s6).trans u7;walk_at "w";refine ⟨fun σ' H'=>(∃n:Nat,σ'=[some (.ref b),some (.int n),some (.int i),some (.int o),some (.int w)]/\n<=5/\(w=4\/w=9\/(w=1000000/\n<=2))/\(n=5->i<=2/\o<=2))/\ir H' b/\cT b H H',?_,?_⟩
  ·walk_at "w";refine iq (fun h0=>?_) (fun h0=>?_)
   ·walk_at "w";refine ⟨⟨min n 2,?_,by lia,by lia,fun z=>by lia⟩,B7,u07⟩;have e1:(if (2:Int) < (n:Int) then (2:Int) else (n:Int))=((min n 2:Nat):Int):=by split <;> lia
    rw[<- e1];rfl
   ·walk_at "w";refine ⟨⟨n,rfl,n5,?_,h5⟩,B7,u07⟩;rcases hw with z | z | z
    ·exact .inl z
    ·exact .inr (.inl z)
    ·exact absurd (decide_eq_true (show (9:Int) < (w:Int) by lia)) h0
  ·clear h5 n5;rintro σ' H8 ⟨⟨n',rfl,n5,hwn,h5⟩,B8,u8⟩;walk_at "w";refine cu fun r H9 s9 g9=>?_
   exact k r n' i o w H9 g9 n5 hi ho hwn h5 (B8.same s9) (u8.same s9)
theorem iK:bx ["_law_bag_here","_law_n","_law_move_here","_law_at","_law_put","_law_first","_law_look"] ["_law_bag_here","_law_n"] (ax jZ):=by walk_at "d"
theorem sZ (T:Txt K mg Z):cN P w K mg base gK 2 Z.rk Z.qI ["_law_bag_here","_law_n"] (Ke K):=by
 refine T.nO.ok iK (fun vs H Q E h=>?_) (fun cdv A outer s H vs Q E hr h=>?_)
 ·obtain ⟨b,n,rfl,hB,n1,n8,k⟩:=h;rfl
 ·obtain ⟨b,n,rfl,hB,n1,n8,k⟩:=h
  refine ⟨_,(aw (p7 2 ["_law_i"] ["_law_n"] [1] iK.nd rfl rfl (cx rfl T.range (aa (pv 1) ai)) (fun _=>(aO (i:=0) (show List.Nodup (α:=PySem.Str) ["_law_i","_law_n"] by decide +kernel) rfl (Or.inr rfl) (Or.inl rfl))) (fun _=>cJ) (fun _=>(cG ["_law_j"] ["_law_i"] [0] (cx rfl T.range (aa (pv 1) ai)) (fun _=>(aO (i:=0) (show List.Nodup (α:=PySem.Str) ["_law_j","_law_i"] by decide +kernel))) (fun _=>cJ) (fun _=>(cZ (aa (eB sH (by rfl) T.int PyProof.Rows.boot_int (aa (iY eP (pv 0) (bN fv (pv 1) ak) (bM _)) ai)) (aa ak ai)))))))
   (aw (ff (cG ["_law_j"] ["_law_bag_here"] [0] (cx rfl T.range (aa (pv 1) ai)) (fun _=>(aO (i:=0) (show List.Nodup (α:=PySem.Str) ["_law_j","_law_bag_here"] by decide +kernel))) (fun _=>cJ) (fun _=>(cZ (aa (bN lK (cL (bp T) hr T.aU T.bg.kp T.bw (aa (pv 1) (aa ak ai))) ak) (aa ak ai))))) (h9 (pv 2) (bN lK (pv 1) ak) set_list))
   (aw (bo (i:=3) iK.nd rfl (Or.inr rfl) (aW bL (dJ (aa (bN lK (pv 1) ak) (aa (cL (bp T) hr T.aU T.bg.kp T.bw (aa (pv 0) (aa (pv 1) ai))) ai))) (cL (bp T) hr T.aU T.bg.kp T.bw (aa (pv 0) (aa ak ai)))))
   (aw (bo (i:=4) iK.nd rfl (Or.inl rfl) (dJ (aa (cG ["_law_j"] ["_law_at"] [3] (cx rfl T.range (aa (pv 1) ai)) (fun _=>(aO (i:=0) (show List.Nodup (α:=PySem.Str) ["_law_j","_law_at"] by decide +kernel))) (fun _=>cJ) (fun _=>(cZ (aa (eB sH (by rfl) T.int PyProof.Rows.boot_int (aa (iY eP (pv 0) (pv 1) (bM _)) ai)) (aa ak ai))))) ai)))
   (aw (bo (i:=5) iK.nd rfl (Or.inr rfl) (aW bL (dJ (aa ak (aa ak (aa (cL (bp T) hr T.aU T.bg.kp T.bw (aa (pv 0) (aa (pv 1) ai))) ai)))) (cL (bp T) hr T.aU T.bg.kp T.bw (aa (pv 0) (aa ak ai)))))
   (aw (bo (i:=6) iK.nd rfl (Or.inl rfl) (dJ (aa (cG ["_law_j"] ["_law_first"] [5] (cx rfl T.range (aa (pv 1) ai)) (fun _=>(aO (i:=0) (show List.Nodup (α:=PySem.Str) ["_law_j","_law_first"] by decide +kernel))) (fun _=>cJ) (fun _=>(cZ (aa (eB sH (by rfl) T.int PyProof.Rows.boot_int (aa (iY eP (pv 0) (pv 1) (bM _)) ai)) (aa ak ai))))) ai)))
   (aB (aX (cZ (aa (pv 2) (aa (pv 4) (aa (pv 6) ai)))))))))))),?_⟩
  refine aS (σ:=[some (.ref b),some (.int n),none,none,none,none,none]) rfl ?_
  have bit:∀{z:Int},∀y∈(List.range n).map (fun (j:Nat)=>(((if decide ((j:Int)=z)=true then 1 else 0:Int)):Rat)),Fr 1 1 y:=fun y hy=>by
   obtain ⟨j,_,rfl⟩:=aD.mp hy;exact Qq (by split <;> simp)
  walk_at "w";refine ⟨by lia,by lia,?_⟩;refine fX (n:=n) (dB K H) (fun (i:Nat)=>(List.range n).map fun (j:Nat)=>(((if decide ((j:Int)=(i:Int)+1)=true then 1 else 0:Int)):Rat)) (by lia) (fun a b=>a.same b) ?_ ?_
  ·rintro i Hb NY NN hi sa k1;walk_at "w";refine ⟨by lia,by lia,?_⟩;refine fX (n:=n) (cC K) (fun (j:Nat)=>(((if decide ((j:Int)=(i:Int)+1)=true then 1 else 0:Int)):Rat)) (by lia) (fun a b=>a.same b) ?_ ?_
   ·rintro j Hz NY2 NN2 hj sz k2;walk_at "w";refine cu fun t Hy sy gy=>?_
    exact k2 _ _ sy (cC.mk gy rfl)
   ·rintro ys Hz t ht sz g pr nx;exact k1 _ _ sz ⟨t,rfl,sa.none ht,ys,g,pr⟩
  rintro ys H1 mm hm s1 g1 pr1 nx1;have G1:bR K H H1 mm ((List.range n).map fun (i:Nat)=>(List.range n).map fun (j:Nat)=>(((if decide ((j:Int)=(i:Int)+1)=true then 1 else 0:Int)):Rat)):=⟨ys,g1,pr1,pN nx1⟩;clear g1 pr1 nx1;have B1:=hB.same s1;have mb:mm≠b:=fun z=>hB.at (by rw[<- z];exact hm)
  obtain ⟨q0,I0,xq,gq0⟩:=hB.inner;have mq:mm≠q0:=fun z=>by rw[<- z,hm] at gq0;cases gq0
  walk_at "w";refine ⟨by lia,by lia,?_⟩;refine yY (n:=n) (b:=b) (cC K) (Fr 1 1) B1 (by lia) (fun a u B=>a.upto u B) ?_ ?_
  ·rintro j Ha NY NN hj ua Ba k1;walk_at "w";refine ⟨b,3,rfl,Ba,by decide,by decide,fun v Hb v0 v1 Bb ub=>?_⟩;walk_at "w";refine cu fun t Hc sc gc=>?_
   exact k1 _ ((v - 1:Int):Rat) _ (ub.same sc) (Bb.same sc) (Fr.int (by lia)) (cC.mk gc rfl)
  rintro ys2 cs H2 q2 hq2 u2 B2 g2 lc hc pr2 _;have u02:=(s1.upto (p:=b)).trans u2;have nq2:H q2=none:=s1.none hq2;obtain ⟨us,gu,pu⟩:=(G1.upto u2 B1 mb hB.at).toE;have lu:=pu.length;rw[ar,cK] at lu
  have q2m:q2≠mm:=fun z=>by
   obtain ⟨_,gg,_⟩:=id G1;rw[z,gg] at hq2;cases hq2
  walk_at "w";rw[show ((n:Int) - 1)=((n - 1:Nat):Int) by lia];refine fh gu (fF (by lia)) rfl ?_;have G3:bR K H (upd H2 mm (.lst (us.set (n - 1) (.ref q2)))) mm (((List.range n).map fun (i:Nat)=>(List.range n).map fun (j:Nat)=>(((if decide ((j:Int)=(i:Int)+1)=true then 1 else 0:Int)):Rat)).set (n - 1) cs):=bR.ofE aM (lG (Paired.imp' (fun _ _ z=>JD.updL z gu (fun q h=>h.2)) pu) (n - 1) ⟨q2,rfl,⟨nq2,q2m⟩,cw.updL ⟨ys2,g2,pr2⟩ gu q2m⟩) (fun q h=>h.1) (fun q h=>h.2);have B3:ir (upd H2 mm (.lst (us.set (n - 1) (.ref q2)))) b:=B2.upd (u02.2 _ I0) mb mq;have u03:cT b H (upd H2 mm (.lst (us.set (n - 1) (.ref q2)))):=u02.after hm;obtain ⟨mv,emv⟩:∃mv,mv=((List.range n).map fun (i:Nat)=>(List.range n).map fun (j:Nat)=>(((if decide ((j:Int)=(i:Int)+1)=true then 1 else 0:Int)):Rat)).set (n - 1) cs:=⟨_,rfl⟩;have lmv:mv.length=n:=by rw[emv,dP,ar,cK]
  have hmv:∀xs∈mv,xs.length=n/\∀y∈xs,Fr 1 1 y:=fun xs hx=>by
   rw[emv] at hx;rcases cv hx with hx | rfl
   ·obtain ⟨i,_,rfl⟩:=aD.mp hx;exact ⟨by rw[ar,cK],bit⟩
   ·exact ⟨lc,hc⟩
  rw[<- emv] at G3;generalize upd H2 mm (.lst (us.set (n - 1) (.ref q2)))=H3 at G3 B3 u03 ⊢;clear emv pu gu G1 u2 pr2 g2 B2;walk_at "w";refine ⟨b,n,rfl,B3,by lia,by lia,fun a1 H4 a10 a11 B4 u4=>?_⟩;walk_at "w";refine dg fun l1 H5 s5 nl1 g5=>?_
  walk_at "w";refine ⟨b,2,rfl,B4.same s5,by decide,by decide,fun v H6 v0 v1 B6 u6=>?_⟩;have g6:=u6.other (fun z=>B4.at (by rw[<- z];exact nl1)) g5;obtain ⟨x,ex,mx,_⟩:=nJ (xs:=[V.int ((n:Int) - 1),V.int a1]) v0 (by simpa using v1)
  obtain ⟨at',rfl⟩:∃a:Int,x=.int a:=by
   simp only[aG,ba,or_false] at mx;rcases mx with rfl | rfl
   ·exact ⟨_,rfl⟩
   ·exact ⟨_,rfl⟩
  walk_at "w";refine cB (bV.of g6) ex ?_;have u36:=(u4.same s5).trans u6;have G6:=G3.upto u36 B3 mb hB.at;have u06:=u03.trans u36;clear ex mx g6 g5 G3 u4 u6;walk_at "w";refine ⟨by lia,by lia,?_⟩;refine fX (n:=n) (cC K) (fun (j:Nat)=>(((if decide ((j:Int)=at')=true then 1 else 0:Int)):Rat)) (by lia) (fun a b=>a.same b) ?_ ?_
  ·rintro j Hz NY2 NN2 hj sz k2;walk_at "w";refine cu fun t Hy sy gy=>?_
   exact k2 _ _ sy (cC.mk gy rfl)
  rintro ys7 H7 q7 hq7 s7 g7 pr7 _;have R7:cw K H7 q7 _:=⟨ys7,g7,pr7⟩;walk_at "w";refine dg fun p8 H8 s8 n8' g8=>?_
  have s68:=s7.trans s8;have q78:q7≠p8:=fun z=>by rw[z,n8'] at g7;cases g7
  have np8:H p8=none:=u06.none B6 (s7.none n8');have nq7:H q7=none:=u06.none B6 hq7
  have GP:bR K H H8 p8 [(List.range n).map fun (j:Nat)=>(((if decide ((j:Int)=at')=true then 1 else 0:Int)):Rat)]:=⟨_,g8,.cons ⟨q7,rfl,nq7,R7.same s8⟩ .nil,fun z=>by
   rw[bT] at z;cases z;exact q78 rfl⟩
  have B8:=B6.same s68;have u08:=u06.same s68;have G8:=G6.same s68;have pb:p8≠b:=fun z=>hB.at (by rw[<- z];exact np8)
  walk_at "w";refine ⟨b,n,rfl,B8,by lia,by lia,fun a2 H9 a20 a21 B9 u9=>?_⟩;walk_at "w";refine dg fun l2 Ha sa nl2 ga=>?_
  walk_at "w";refine ⟨b,3,rfl,B9.same sa,by decide,by decide,fun v' Hb v0' v1' Bb ub=>?_⟩;have gb:=ub.other (fun z=>B9.at (by rw[<- z];exact nl2)) ga;obtain ⟨x,ex,mx,_⟩:=nJ (xs:=[V.int 0,V.int 0,V.int a2]) v0' (by simpa using v1')
  obtain ⟨fi,rfl⟩:∃a:Int,x=.int a:=by
   simp only[aG,ba,or_false] at mx;rcases mx with rfl | rfl | rfl
   ·exact ⟨_,rfl⟩
   ·exact ⟨_,rfl⟩
   ·exact ⟨_,rfl⟩
  walk_at "w";refine cB (bV.of gb) ex ?_;have u8b:=(u9.same sa).trans ub;have Gb:=G8.upto u8b B8 mb hB.at;have GPb:=GP.upto u8b B8 pb hB.at;have u0b:=u08.trans u8b;clear ex mx gb ga G8 GP u9 ub;walk_at "w";refine ⟨by lia,by lia,?_⟩;refine fX (n:=n) (cC K) (fun (j:Nat)=>(((if decide ((j:Int)=fi)=true then 1 else 0:Int)):Rat)) (by lia) (fun a b=>a.same b) ?_ ?_
  ·rintro j Hz NY2 NN2 hj sz k2;walk_at "w";refine cu fun t Hy sy gy=>?_
   exact k2 _ _ sy (cC.mk gy rfl)
  rintro ysc Hc qc hqc sc gc prc _;have Rc:cw K Hc qc _:=⟨ysc,gc,prc⟩;walk_at "w";refine dg fun pd Hd sd nd gd=>?_
  have sbd:=sc.trans sd;have qcd:qc≠pd:=fun z=>by rw[z,nd] at gc;cases gc
  have npd:H pd=none:=u0b.none Bb (sc.none nd);have nqc:H qc=none:=u0b.none Bb hqc
  have GL:bR K H Hd pd [(List.range n).map fun (j:Nat)=>(((if decide ((j:Int)=fi)=true then 1 else 0:Int)):Rat)]:=⟨_,gd,.cons ⟨qc,rfl,nqc,Rc.same sd⟩ .nil,fun z=>by
   rw[bT] at z;cases z;exact qcd rfl⟩
  walk_at "w";refine cu fun r He se ge=>?_
  have sbe:=sbd.trans se;refine k r mv _ _ He ⟨mm,p8,pd,ge,hm,np8,npd,Gb.same sbe,GPb.same sbe,GL.same se⟩ lmv rfl rfl ⟨by lia,by simp,by simp,fun xs hx=>by rw[(hmv xs hx).1,lmv],fun xs hx=>?_,fun xs hx=>?_⟩ (fun xs hx=>(hmv xs hx).2) (fun xs hx=>?_) (fun xs hx=>?_) (Bb.same sbe) (u0b.same sbe)
  ·rw[bT.mp hx,ar,cK,lmv]
  ·rw[bT.mp hx,ar,cK,lmv]
  ·rw[bT.mp hx];exact bit
  ·rw[bT.mp hx];exact bit
theorem pY:bx ["_law_top","_law_bottom","_law_one","_law_other"] ["_law_top","_law_bottom"] (ax lC):=by walk_at "d"
theorem j7 (T:Txt K mg Z):cN P w K mg base gK 1 Z.tY Z.tH ["_law_top","_law_bottom"] Ou:=by
 refine T.iH.ok pY (fun vs H Q E h=>?_) (fun cdv A outer s H vs Q E hr h=>?_)
 ·obtain ⟨t,b,rfl,hb,hs,k⟩:=h;rfl
 ·obtain ⟨t,b,rfl,hb,hs,k⟩:=h
  refine ⟨_,(aw (bo (i:=2) pY.nd rfl (Or.inl rfl) (bJ yj (by rfl) T.abs PyProof.Rows.boot_abs (aa (pv 0) ai)))
   (aw (bo (i:=3) pY.nd rfl (Or.inl rfl) (pv 1))
   (aw (AJ PassesOwn.never (bH zv (pv 2) ak (bM _))
    (aB (KD (i:=2) (j:=3) rfl pY.nd rfl rfl (by decide) rfl rfl (aa (bN rD (pv 3) (pv 2)) (aa (pv 2) ai)) rfl)))
   (aB (aX (cZ (aa (bN ju (pv 0) (pv 3)) (aa (bN ju (pv 1) (pv 3)) ai)))))))),?_⟩
  refine aS (σ:=[some (.int t),some (.int b),none,none]) rfl ?_;walk_at "w"
  refine CQ (fun σ' H'=>∃(u v:Int),σ'=[some (.int t),some (.int b),some (.int u),some (.int v)]/\H'=H/\0<=u/\0 < v/\Int.gcd u v=Int.gcd t b) (fun σ' _=>match σ' with | [_,_,some (.int u),_]=>u.natAbs | _=>0) ⟨_,b,rfl,rfl,by split <;> lia,hb,by
   split
   ·rw[Int.neg_gcd]
   ·rfl⟩ ?_
  rintro σ' H' ⟨u,v,rfl,rfl,hu,hv,hg⟩;walk_at "w";refine iq (fun h=>?_) (fun h=>?_)
  ·have hu0:u≠0:=fun z=>by subst z;simp at h
   walk_at "w";refine gG (show (0:Int) < u by lia) ?_;walk_at "w";have h1:=oZ v hu0;have h2:=jF v (show 0 < u by lia);exact ⟨⟨v % u,u,rfl,rfl,h1,by lia,by rw[nB,Lk,nB];exact hg⟩,by show (v % u).natAbs < u.natAbs;lia⟩
  ·have hu0:u=0:=by
    by_cases z:u=0
    ·exact z
    ·exfalso;apply h;simp [z]
   subst hu0
   have e:v=g t b:=by
    unfold g;rw[<- hg,Int.gcd_zero_left]
    lia
   have hgs:Sz 8999 v:=hs.le (by
    rw[e];have h1:(g t b).natAbs=Int.gcd t b:=by unfold g;simp
    rw[h1];exact kg (by lia) (by have:=fI (a:=t) (b:=b);exact gJ.mpr this |> fun z=>by simpa using z))
   walk_at "w";refine gG (show sP _ _ from ⟨by lia,hgs⟩) ?_;walk_at "w";refine gG (show sP _ _ from ⟨by lia,hgs⟩) ?_;walk_at "w";refine cu fun r H' s' h'=>?_
   rw[cA _ (by lia),cA _ (by lia),e] at h';exact k r H' s' h'
theorem En:bx ["_law_one","_law_other"] ["_law_one","_law_other"] (ax lA):=by walk_at "d"
theorem nD (T:Txt K mg Z):cN P w K mg base gK 2 Z.tV Z.tF ["_law_one","_law_other"] (uN K (fun x y=>x+y)):=by
 refine T.jL.ok En (fun vs H Q E h=>?_) (fun cdv A outer s H vs Q E hr h=>?_)
 ·obtain ⟨p,q,a,b,c,d,rfl,hp,hq,hb,hd,sa,sb,sc,sd,k⟩:=Ia h;rfl
 ·obtain ⟨p,q,a,b,c,d,rfl,hp,hq,hb,hd,sa,sb,sc,sd,k⟩:=Ia h;refine ⟨_,(aB (aX (cL (j7 T) hr T.iC T.iH.kp T.jK (aa (bN fv (bN di (aW b8 (pv 0) ak) (aW b8 (pv 1) ak)) (bN di (aW b8 (pv 1) ak) (aW b8 (pv 0) ak))) (aa (bN di (aW b8 (pv 0) ak) (aW b8 (pv 1) ak)) ai))))),?_⟩;refine aS (σ:=[some (.ref p),some (.ref q)]) rfl ?_;have hbd:0 < b*d:=pU hb hd;have sbd:Sz 8999 (b*d):=(sb.mul sd).mono (by decide);walk_at "w";refine gG (show jk _ _ from .inr ⟨_,_,sa,sd,by decide⟩) ?_;walk_at "w";refine gG (show jk _ _ from .inr ⟨_,_,sc,sb,by decide⟩) ?_;walk_at "w";refine gG (show jk _ _ from .inr ⟨_,_,sb,sd,by decide⟩) ?_;walk_at "w";walk_at "w";refine ⟨_,_,rfl,hbd,sbd,k⟩
theorem C9:bx ["_law_one","_law_other"] ["_law_one","_law_other"] (ax jV):=by walk_at "d"
theorem oa (T:Txt K mg Z):cN P w K mg base gK 3 Z.rf Z.qE ["_law_one","_law_other"] (Ka K):=by
 refine T.kf.ok C9 (fun vs H Q E h=>?_) (fun cdv A outer s H vs Q E hr h=>?_)
 ·obtain ⟨p,q,xs,ys,rfl,hp,hq,hl,hz,h1,h2,kk⟩:=h;rfl
 ·obtain ⟨p,q,xs,ys,rfl,hp,hq,hl,hz,h1,h2,kk⟩:=h;refine ⟨_,(aB (aX (cG ["_law_k"] ["_law_one","_law_other"] [0,1] (cx rfl T.range (aa (bJ bu (by rfl) T.len aV (aa (pv 0) ai)) ai)) (fun _=>(aO (i:=0) (show List.Nodup (α:=PySem.Str) ["_law_k","_law_one","_law_other"] by decide +kernel))) (fun _=>cJ) (fun _=>(cL (nD T) hr T.j9 T.jL.kp T.lO (aa (aW (iD K (by rfl)) (pv 1) (pv 0)) (aa (aW (iD K (by rfl)) (pv 2) (pv 0)) ai))))))),?_⟩;refine aS (σ:=[some (.ref p),some (.ref q)]) rfl ?_;obtain ⟨us,gu,qu⟩:=id hp;obtain ⟨ws,gw,qw⟩:=id hq;have lu:=qu.length;walk_at "w";refine ⟨_,_,rfl,.inl (bV.of gu),?_⟩;walk_at "w";refine ⟨by lia,by lia,?_⟩;refine fX (n:=us.length) (cC K) (fun i=>xs.getD i 0+ys.getD i 0) (by lia) (fun a b=>a.same b) ?_ ?_
  ·rintro i H' NY NN hi s k1;have ix:i < xs.length:=by lia
   have iy:i < ys.length:=by lia
   obtain ⟨vx,ex,nx⟩:=Jr (Paired.imp' (fun _ _ z=>z.same s) qu) ix;obtain ⟨vy,ey,ny⟩:=Jr (Paired.imp' (fun _ _ z=>z.same s) qw) iy;walk_at "w";refine cB (bV.of (s _ _ gu)) ex ?_;walk_at "w";refine cB (bV.of (s _ _ gw)) ey ?_;walk_at "w";exact ⟨_,_,_,_,rfl,nx,ny,h1 _ (getD_mem ix),h2 _ (getD_mem iy),fun r3 H3 s3 n3=>k1 _ _ s3 n3⟩
  ·rintro ys' H' l hl' s g pr nx;exact kk l H' hl' s ⟨ys',g,by rw[BZ (by lia)];rw[<- lu] at pr;exact pr⟩
theorem C8:bx ["_law_one","_law_other"] ["_law_one","_law_other"] (ax jU):=by walk_at "d"
theorem nZ (T:Txt K mg Z):cN P w K mg base gK 2 Z.qZ Z.qD ["_law_one","_law_other"] (uN K (fun x y=>x*y)):=by
 refine T.ke.ok C8 (fun vs H Q E h=>?_) (fun cdv A outer s H vs Q E hr h=>?_)
 ·obtain ⟨p,q,a,b,c,d,rfl,hp,hq,hb,hd,sa,sb,sc,sd,k⟩:=Hq h;rfl
 ·obtain ⟨p,q,a,b,c,d,rfl,hp,hq,hb,hd,sa,sb,sc,sd,k⟩:=Hq h;refine ⟨_,(aB (aX (cL (j7 T) hr T.iC T.iH.kp T.jK (aa (bN di (aW b8 (pv 0) ak) (aW b8 (pv 1) ak)) (aa (bN di (aW b8 (pv 0) ak) (aW b8 (pv 1) ak)) ai))))),?_⟩;refine aS (σ:=[some (.ref p),some (.ref q)]) rfl ?_;have hbd:0 < b*d:=pU hb hd;have sbd:Sz 8999 (b*d):=(sb.mul sd).mono (by decide);walk_at "w";refine gG (show jk _ _ from .inr ⟨_,_,sa,sc,by decide⟩) ?_;walk_at "w";refine gG (show jk _ _ from .inr ⟨_,_,sb,sd,by decide⟩) ?_;walk_at "w";walk_at "w";refine ⟨_,_,rfl,hbd,sbd,k⟩
theorem FC:bx ["_law_by_here","_law_row_here"] ["_law_by_here","_law_row_here"] (ax pz):=by walk_at "d"
theorem A2 (T:Txt K mg Z):cN P w K mg base gK 3 Z.wA Z.vY ["_law_by_here","_law_row_here"] (Oy K):=by
 refine T.wC.ok FC (fun vs H Q E h=>?_) (fun cdv A outer s H vs Q E hr h=>?_)
 ·obtain ⟨u,q,c,ys,rfl,hc,sc,hq,hz,h2,kk⟩:=h;rfl
 ·obtain ⟨u,q,c,ys,rfl,hc,sc,hq,hz,h2,kk⟩:=h;refine ⟨_,(aB (aX (cG ["_law_one"] ["_law_by_here"] [0] (cQ (pv 1)) (fun _=>(aO (i:=0) (show List.Nodup (α:=PySem.Str) ["_law_one","_law_by_here"] by decide +kernel))) (fun _=>cJ) (fun _=>(cL (nZ T) hr T.kE T.ke.kp T.nG (aa (pv 1) (aa (pv 0) ai))))))),?_⟩;refine aS (σ:=[some u,some (.ref q)]) rfl ?_;obtain ⟨us,gu,qu⟩:=id hq;walk_at "w";refine ⟨⟨_,bV.of gu⟩,?_⟩;refine fB (K:=K) (F:=cC K) (cC K) (fun y=>c*y) gu qu hz (fun a b=>a.same b) (fun a b=>a.same b) ?_ ?_
  ·rintro i y x H' NY NN en s hx k;walk_at "w";exact ⟨_,_,_,_,rfl,hc.same s,hx,sc,h2 y (ay en),fun r H2 s2 h2'=>k _ _ s2 h2'⟩
  ·rintro ys' H' r hr s g pr nx;exact kk r H' hr s ⟨ys',g,pr⟩
theorem d6:bx ["_law_bag_here","_law_move_here","_law_put","_law_look","_law_n","_law_turn","_law_i","_law_j","_law_by_here","_law_less_here","_law_row_here"] ["_law_bag_here","_law_move_here","_law_put","_law_look"] (ax iS):=by walk_at "d"
theorem wN (T:Txt K mg Z):cN P w K mg base gK 4 Z.oQ Z.oz ["_law_bag_here","_law_move_here","_law_put","_law_look"] (ID K):=by
 refine T.oW.ok d6 (fun vs H Q E h=>?_) (fun cdv A outer s H vs Q E hr h=>?_)
 ·obtain ⟨b,m,p,l,q0,n,WV,μ,A,us,ws,vs,rfl,MA,X,n8,i4,o4,M0,M1,⟨M,eM⟩,V1,hA,k⟩:=h;rfl
 ·obtain ⟨b,m,p,l,q0,n,WV,μ,A,us,ws,vs,rfl,MA,X,n8,i4,o4,M0,M1,⟨M,eM⟩,V1,hA,k⟩:=h
  refine ⟨_,(aw (bo (i:=4) d6.nd rfl (Or.inl rfl) (bJ bu (by rfl) T.len aV (aa (pv 1) ai)))
   (aw (dc (PW.pt (uR (bH wK (pv 4) ak (bM _)) (pH (bH eP (cL (bp T) hr T.aU T.bg.kp T.bw (aa (pv 0) (aa ak ai))) ak (bM _))))) (aB (aX (cZ (aa (pv 1) (aa (pv 2) (aa (pv 3) ai)))))) bZ)
   (aw (d7 PassesOwn.never rfl (cx rfl T.range (aa (bN fv ak (cL (bp T) hr T.aU T.bg.kp T.bw (aa (pv 0) (aa ak ai)))) ai)) (aO (i:=5) d6.nd)
    (aw (bo (i:=6) d6.nd rfl (Or.inl rfl) (cL (bp T) hr T.aU T.bg.kp T.bw (aa (pv 0) (aa (pv 4) ai))))
   (aw (bo (i:=7) d6.nd rfl (Or.inl rfl) (bN rD (bN fv (bN fv (pv 6) ak) (cL (bp T) hr T.aU T.bg.kp T.bw (aa (pv 0) (aa (bN lK (pv 4) ak) ai)))) (pv 4)))
   (aw (bo (i:=8) d6.nd rfl (Or.inl rfl) (cZ (aa (aW bL (dJ (aa ak (aa (zm uJ ak) (aa ak (aa (zm uJ ak) ai))))) (cL (bp T) hr T.aU T.bg.kp T.bw (aa (pv 0) (aa ak ai)))) (aa ak ai))))
   (aw (bo (i:=9) d6.nd rfl (Or.inl rfl) (cZ (aa (bN lK ak (aW b8 (pv 8) ak)) (aa ak ai))))
   (aw (ff (cL (oa T) hr T.kF T.kf.kp T.nH (aa (aW bL (pv 1) (pv 6)) (aa (cL (A2 T) hr T.xx T.wC.kp T.y8 (aa (pv 8) (aa (aW bL (pv 1) (pv 7)) ai))) ai))) (h9 (pv 1) (pv 6) set_list))
   (aw (d7 PassesOwn.never rfl (cQ (bN ky (pv 1) (pv 3))) (aO (i:=10) d6.nd)
    (aB (ff (cL (nD T) hr T.j9 T.jL.kp T.lO (aa (aW bL (pv 10) (pv 7)) (aa (cL (nZ T) hr T.kE T.ke.kp T.nG (aa (pv 9) (aa (aW bL (pv 10) (pv 6)) ai))) ai))) (h9 (pv 10) (pv 7) set_list))))
   (aB (d7 PassesOwn.never rfl (cQ (pv 2)) (aO (i:=10) d6.nd)
    (aB (ff (cL (nD T) hr T.j9 T.jL.kp T.lO (aa (aW bL (pv 10) (pv 6)) (aa (cL (nZ T) hr T.kE T.ke.kp T.nG (aa (pv 8) (aa (aW bL (pv 10) (pv 7)) ai))) ai))) (h9 (pv 10) (pv 6) set_list))))))))))))
   (aB (aX (cZ (aa (pv 1) (aa (pv 2) (aa (pv 3) ai))))))))),?_⟩
  refine aS (σ:=[some (.ref b),some (.ref m),some (.ref p),some (.ref l),none,none,none,none,none,none,none]) rfl ?_;have done:∀r us' H' t,t<=3->H' r=some (.tup [.ref m,.ref p,.ref l])->kQ K A H' n (fun x=>Fr (μ x) (9^t*WV)) m p l b q0 us' ws vs->iG A b m H H'->Q (.ref r) H':=fun r us' H' t ht g x kp=>k r us' H' g (x.weak fun _ _ y h=>h.mono (aA _ (au (by decide) ht))) kp
  have X0:kQ K A H n (fun x=>Fr (μ x) (9^0*WV)) m p l b q0 us ws vs:=X.weak fun _ _ y h=>h.mono (by simp)
  clear X k;have gu:=X0.gm;have lu:=X0.lm;walk_at "w";refine ⟨_,_,rfl,.inl (bV.of gu),?_⟩;rw[lu];clear gu lu;have kp0:iG A b m H H:=fun _ _ h _ _ _=>h
  walk_at "w";refine iq (fun h0=>?_) (fun h0=>?_)
  ·walk_at "w";refine cu fun r H' s' g'=>?_
   exact done r us H' 0 (by decide) g' (X0.same s') (kp0.same s')
  have n2:2<=n:=by
   rcases cR n 2 with z | z
   ·exact absurd (decide_eq_true (show (n:Int) < 2 by lia)) h0
   ·exact z
  walk_at "w";refine ⟨b,2,rfl,X0.bag,by decide,by decide,fun v H1 v0 v1 B1 u1=>?_⟩;have X1:=X0.upto MA u1 B1;have kp1:=kp0.upto u1;walk_at "w";refine iq (fun h1=>?_) (fun h1=>?_)
  ·walk_at "w";refine cu fun r H' s' g'=>?_
   exact done r us H' 0 (by decide) g' (X1.same s') (kp1.same s')
  walk_at "w";refine ⟨b,3,rfl,B1,by decide,by decide,fun c H2 c0 c1 B2 u2=>?_⟩;have X2:=X1.upto MA u2 B2;have kp2:=kp1.upto u2;clear X0 X1 kp0 kp1 u1 u2 B1;walk_at "w";refine ⟨by lia,by lia,?_⟩;refine eG (n:=(1+c).toNat) (fun t σ' H'=>∃(x1 x2 x3 x4 x5 x6:Option V) (us:List V),σ'=[some (.ref b),some (.ref m),some (.ref p),some (.ref l),some (.int n),x1,x2,x3,x4,x5,x6]/\kQ K A H' n (fun x=>Fr (μ x) (9^t*WV)) m p l b q0 us ws vs/\iG A b m H H') ⟨none,none,none,none,none,none,us,rfl,X2,kp2⟩ ?_ ?_
  ·rintro t σ' H' ht ⟨x1,x2,x3,x4,x5,x6,us,rfl,X,kp⟩;have t3:t<=2:=by lia
   walk_at "w";refine ⟨b,n,rfl,X.bag,by lia,by lia,fun ii Ha i0 i1 Ba ua=>?_⟩;obtain ⟨ii,rfl⟩:=cn i0;have Xa:=X.upto MA ua Ba;have kpa:=kp.upto ua;walk_at "w";refine ⟨b,_,rfl,Ba,by lia,by lia,fun d Hb d0 d1 Bb ub=>?_⟩;have Xb:=Xa.upto MA ub Bb;have kpb:=kpa.upto ub;walk_at "w";refine gG (show (0:Int) < n by lia) ?_;have j0:=oZ ((ii:Int)+1+d) (show (n:Int)≠0 by lia);have j1:=jF ((ii:Int)+1+d) (show (0:Int) < n by lia);generalize ((ii:Int)+1+d) % (n:Int)=jj at j0 j1 ⊢;obtain ⟨jj,rfl⟩:=cn j0;walk_at "w";refine dg fun l0 Hc sc nc gc=>?_
   walk_at "w";refine ⟨b,4,rfl,Bb.same sc,by decide,by decide,fun v' Hd v0' v1' Bd ud=>?_⟩;have gd:=ud.other (fun z=>Bb.at (by rw[<- z];exact nc)) gc;obtain ⟨x,ex,mx,_⟩:=nJ (xs:=[V.int 1,V.int (-1),V.int 2,V.int (-2)]) v0' (by simpa using v1')
   obtain ⟨z,rfl,hz⟩:∃z:Int,x=.int z/\z.natAbs<=2:=by
    simp only[aG,ba,or_false] at mx;rcases mx with rfl | rfl | rfl | rfl
    ·exact ⟨1,rfl,by decide⟩
    ·exact ⟨-1,rfl,by decide⟩
    ·exact ⟨2,rfl,by decide⟩
    ·exact ⟨-2,rfl,by decide⟩
   have Xd:=(Xb.same sc).upto MA ud Bd;have kpd:=(kpb.same sc).upto ud;walk_at "w";refine cB (bV.of gd) ex ?_;walk_at "w";refine cu fun bt He se ge=>?_
   walk_at "w";refine cu fun lt Hf sf gf=>?_
   have Xf:=(Xd.same se).same sf;have kpf:=(kpd.same se).same sf;have nb:cC K Hf ((z:Int):Rat) (.ref bt):=cC.mk (sf _ _ ge) rfl;have nl:cC K Hf ((0 - z:Int):Rat) (.ref lt):=cC.mk gf rfl;clear X Xa Xb Xd kp kpa kpb kpd ua ub ud sc gc gd ex mx ge gf se sf Ba Bb Bd nc;have gu:=Xf.gm;have lu:=Xf.lm
   have ru:∀x∈us,fP K A Hf n (Fr M (9^t*WV)) x:=fun x hx=>by
    have:=Xf.row x (by simp [hx]);rwa [eM x (Xf.apart.1 x hx).1 (Xf.apart.1 x hx).2] at this
   have hM:0 < M/\M<=2^800:=by
    have hx:us[ii]'(by lia)∈us:=aJ _;have:=eM _ (Xf.apart.1 _ hx).1 (Xf.apart.1 _ hx).2;rw[<- this];exact ⟨M0 _,M1 _⟩
   have e1:us[ii]?=some (us[ii]'(by lia)):=by simp
   have e2:us[jj]?=some (us[jj]'(by lia)):=by simp
   obtain ⟨q1,z1,qs1,w1,a1,g1,k1,p1,l1,c1⟩:=(ru _ (ay e1)).at;obtain ⟨q2,z2,qs2,w2,a2,g2,k2,p2,l2,c2⟩:=(ru _ (ay e2)).at;rw[w1] at e1;rw[w2] at e2;generalize eW:9^t*WV=W at *
   have W9:9*W<=2^140:=by rw[<- eW];exact MU (by lia) V1 (by decide)
   have sz9M:∀{x:Rat} {U:Nat},U<=9*W->Fr M U x->rW x:=fun hU h=>HJ hM.1 hM.2 (aj hU W9) h
   have sz9:∀{x:Rat} {U:Nat} {v:V},U<=9*W->Fr (μ v) U x->rW x:=fun hU h=>HJ (M0 _) (M1 _) (aj hU W9) h
   walk_at "w";refine cB (bV.of gu) (eC e1) ?_;walk_at "w";refine cB (bV.of gu) (eC e2) ?_;walk_at "w";refine ⟨_,q2,_,qs2,rfl,nb,CV (by lia),⟨z2,g2,p2⟩,by lia,fun y hy=>sz9M (by lia) (c2 y hy),fun r1 Hg n1 sg R1=>?_⟩;walk_at "w";refine ⟨q1,r1,qs1,_,rfl,⟨z1,sg _ _ g1,Paired.imp' (fun _ _ y=>y.same sg) p1⟩,R1,by rw[ar,l1,l2],by lia,fun y hy=>sz9M (by lia) (c1 y hy),fun y hy=>?_,fun r2 Hh n2' sh R2=>?_⟩
   ·obtain ⟨y',hy',rfl⟩:=aD.mp hy;exact Ax hz (c2 y' hy') hM.1 hM.2 (by lia)
   have sfh:=sg.trans sh
   have new:V.ref r2∉us++vs++ws:=fun z=>by
    obtain ⟨q',_,_,e',_,g',_⟩:=((Xf.same sg).row _ z).at;cases e';rw[n2'] at g';cases g'
   have Xh:=(Xf.same sfh).weak (C':=fun x y=>(x∈ws->Fr (μ x) W y)/\Fr (μ x) (3*W) y) fun x _ y h=>⟨fun _=>h,h.mono (by lia)⟩
   have kph:=kpf.same sfh;have guh:=sfh _ _ gu;have ar2:A r2:=(kpf.same sg).new hA (Xf.same sg).bag (by rw[sg _ _ gu];simp) n2'
   have rp2:fP K A Hh n (fun y=>(V.ref r2∈ws->Fr (μ (.ref r2)) W y)/\Fr (μ (.ref r2)) (3*W) y) (.ref r2):=by
    rw[eM (.ref r2) (fun z=>new (az.mpr (.inr z))) (fun z=>new (az.mpr (.inl (az.mpr (.inr z)))))];refine ⟨r2,_,rfl,ar2,R2,by rw[b9,ar];lia,fun y hy=>⟨fun z=>absurd (az.mpr (.inr z)) new,?_⟩⟩;obtain ⟨j',hj',e⟩:=bS hy;rw[fu,zS] at e;rw[<- e];exact DB hz (c1 _ (aJ _)) (c2 _ (aJ _))
   walk_at "w";refine fh guh (fF (by lia)) rfl ?_;have Xi:=Xh.set MA rp2 new ii;have kpi:=kph.upd (o:=.lst (us.set ii (.ref r2))) (q:=m) (.inr rfl);have nli:cC K (upd Hh m (.lst (us.set ii (.ref r2)))) ((0 - z:Int):Rat) (.ref lt):=(nl.same sfh).updL guh;have nbi:cC K (upd Hh m (.lst (us.set ii (.ref r2)))) ((z:Int):Rat) (.ref bt):=(nb.same sfh).updL guh;generalize upd Hh m (.lst (us.set ii (.ref r2)))=Hi at Xi kpi nli nbi ⊢;generalize us.set ii (.ref r2)=um at Xi;clear nb nl Xf kpf gu ru e1 e2 g1 p1 g2 p2 R1 R2 Xh kph guh rp2 sg sh sfh new;have gm:=Xi.gm;have lm:=Xi.lm;have gl:=Xi.gl;have nd:=Xi.nd;obtain ⟨nd1,nd2,nd3⟩:=dG.mp nd;walk_at "w";refine kr gm gl (aY (bO (by lia))) fun cl Hj sj nj gj=>?_
   have kpj:=kpi.same sj
   have rows:∀x∈um++vs,∀q,x=V.ref q->q≠cl:=fun x hx q e y=>by
    obtain ⟨q',zs,_,e',_,g',_⟩:=(Xi.row x (az.mpr (.inl hx))).at;rw[e] at e';cases e';rw[y,nj] at g';cases g'
   have Xj:=(Xi.same sj).weak (C':=fun x y=>(x∈ws->Fr (μ x) W y)/\(x∈(um++vs).drop 0->Fr (μ x) (3*W) y)/\Fr (μ x) (9*W) y) fun x _ y h=>⟨h.1,fun _=>h.2,h.2.mono (by lia)⟩
   have lj:cC K Hj ((0 - z:Int):Rat) (.ref lt):=nli.same sj;have bj:cC K Hj ((z:Int):Rat) (.ref bt):=nbi.same sj;clear Xi kpi nli nbi;refine ⟨_,rfl,⟨_,bV.of gj⟩,?_⟩;refine jv (K:=K) (a:=cl) (xs:=um++vs) (fun s σ' H'=>∃x6:Option V,σ'=[some (.ref b),some (.ref m),some (.ref p),some (.ref l),some (.int n),some (.int t),some (.int ii),some (.int jj),some (.ref bt),some (.ref lt),x6]/\kQ K A H' n (fun x y=>(x∈ws->Fr (μ x) W y)/\(x∈(um++vs).drop s->Fr (μ x) (3*W) y)/\Fr (μ x) (9*W) y) m p l b q0 um ws vs/\iG A b m H H'/\H' cl=some (.lst (um++vs))/\cC K H' ((0 - z:Int):Rat) (.ref lt)/\cC K H' ((z:Int):Rat) (.ref bt)) ⟨_,rfl,Xj,kpj,gj,lj,bj⟩ (fun s σ' H' _ ⟨_,_,_,_,e,_⟩=>bV.of e) ?_ ?_
   ·rintro s x σ' Hk hx ⟨y6,rfl,Xk,kpk,gk,lk,bk⟩;have hs:s < (um++vs).length:=(aI.mp hx).1;have mx:=ay hx
    have xd:x∈(um++vs).drop s:=by
     rw[eN hs,(aI.mp hx).2];exact .head _
    have xd2:x∉(um++vs).drop (s+1):=fun z=>by
     have:=nd1.sublist (List.drop_sublist s _);rw[eN hs,eK,(aI.mp hx).2] at this;exact this.1 z
    have xw:x∉ws:=fun z=>nd3 x mx x z rfl
    have rx:=Xk.row x (az.mpr (.inl mx));obtain ⟨q,zs,qs,rfl,aq,gq,lq,pq,lq2,cq⟩:=rx.at;have qcl:=rows _ mx q rfl;obtain ⟨vj,ej,nj'⟩:=Jr pq (j:=jj) (by lia);obtain ⟨vi,ei,ni'⟩:=Jr pq (j:=ii) (by lia);have cj:=(cq _ (getD_mem (xs:=qs) (i:=jj) (by lia))).2.1 xd;have ci:=(cq _ (getD_mem (xs:=qs) (i:=ii) (by lia))).2.1 xd;walk_at "w";refine cB (bV.of gq) ej ?_;walk_at "w";refine cB (bV.of gq) ei ?_;walk_at "w";refine ⟨_,_,_,_,rfl,lk,ni',CV (by lia),sz9 (by lia) ci,fun r3 Hl sl n3=>?_⟩;walk_at "w";refine ⟨_,_,_,_,rfl,nj'.same sl,n3,sz9 (by lia) cj,Ax (by lia) ci (M0 _) (M1 _) (by lia),fun r4 Hm sm n4=>?_⟩;have slm:=sl.trans sm;walk_at "w";refine fh (slm _ _ gq) (fF (by lia)) rfl ?_;refine ⟨_,rfl,?_,(kpk.same slm).upd (.inl aq),by rw[bI qcl.symm];exact slm _ _ gk,(lk.same slm).updL (slm _ _ gq),(bk.same slm).updL (slm _ _ gq)⟩;refine ((Xk.same slm).weak fun x' _ y h=>⟨h.1,fun z=>h.2.1 ?_,h.2.2⟩).put MA aq (slm _ _ gq) n4 ⟨fun z=>absurd z xw,fun z=>absurd z xd2,?_⟩ jj
    ·rw[eN hs];exact .tail _ z
    ·exact (DB (by lia) cj ci).mono (by lia)
   ·rintro σ' Hk ⟨y6,rfl,Xk,kpk,gk,lk,bk⟩;have gp:=Xk.gp;have Xk2:=Xk.weak (C':=fun x y=>(x∈ws.drop 0->Fr (μ x) W y)/\Fr (μ x) (9*W) y) fun x _ y h=>⟨fun z=>h.1 (by simpa using z),h.2.2⟩
    clear Xk;walk_at "w";refine ⟨⟨_,bV.of gp⟩,?_⟩;refine jv (K:=K) (a:=p) (xs:=ws) (fun s σ' H'=>∃x6:Option V,σ'=[some (.ref b),some (.ref m),some (.ref p),some (.ref l),some (.int n),some (.int t),some (.int ii),some (.int jj),some (.ref bt),some (.ref lt),x6]/\kQ K A H' n (fun x y=>(x∈ws.drop s->Fr (μ x) W y)/\Fr (μ x) (9*W) y) m p l b q0 um ws vs/\iG A b m H H'/\cC K H' ((z:Int):Rat) (.ref bt)) ⟨_,rfl,Xk2,kpk,bk⟩ (fun s σ' H' _ ⟨_,_,X,_⟩=>bV.of X.gp) ?_ ?_
    ·rintro s x σ' Hl hx ⟨w6,rfl,Xl,kpl,bl⟩;have hs:s < ws.length:=(aI.mp hx).1;have mx:=ay hx
     have xd:x∈ws.drop s:=by
      rw[eN hs,(aI.mp hx).2];exact .head _
     have xd2:x∉ws.drop (s+1):=fun z=>by
      have:=nd2.sublist (List.drop_sublist s _);rw[eN hs,eK,(aI.mp hx).2] at this;exact this.1 z
     have rx:=Xl.row x (az.mpr (.inr mx));obtain ⟨q,zs,qs,rfl,aq,gq,lq,pq,lq2,cq⟩:=rx.at;obtain ⟨vj,ej,nj'⟩:=Jr pq (j:=jj) (by lia);obtain ⟨vi,ei,ni'⟩:=Jr pq (j:=ii) (by lia);have cj:=(cq _ (getD_mem (xs:=qs) (i:=jj) (by lia))).1 xd;have ci:=(cq _ (getD_mem (xs:=qs) (i:=ii) (by lia))).1 xd;walk_at "w";refine cB (bV.of gq) ei ?_;walk_at "w";refine cB (bV.of gq) ej ?_;walk_at "w";refine ⟨_,_,_,_,rfl,bl,nj',CV (by lia),sz9 (by lia) cj,fun r3 Hm sm n3=>?_⟩;walk_at "w";refine ⟨_,_,_,_,rfl,ni'.same sm,n3,sz9 (by lia) ci,Ax (by lia) cj (M0 _) (M1 _) (by lia),fun r4 Hn sn n4=>?_⟩;have smn:=sm.trans sn;walk_at "w";refine fh (smn _ _ gq) (fF (by lia)) rfl ?_;refine ⟨_,rfl,?_,(kpl.same smn).upd (.inl aq),(bl.same smn).updL (smn _ _ gq)⟩;refine ((Xl.same smn).weak fun x' _ y h=>⟨fun z=>h.1 ?_,h.2⟩).put MA aq (smn _ _ gq) n4 ⟨fun z=>absurd z xd2,?_⟩ ii
     ·rw[eN hs];exact .tail _ z
     ·exact (DB (by lia) ci cj).mono (by lia)
    ·rintro σ' Hl ⟨w6,rfl,Xl,kpl,bl⟩;refine ⟨_,_,_,_,_,_,um,rfl,Xl.weak fun _ _ y h=>h.2.mono ?_,kpl⟩;rw[<- eW,dO,b7 (9^t) 9,cE];exact ao _
  ·rintro σ' H' ⟨x1,x2,x3,x4,x5,x6,us',rfl,X,kp⟩;walk_at "w";refine cu fun r H2' s' g'=>?_
   exact done r us' H2' _ (by lia) g' (X.same s') (kp.same s')
theorem dF:bx ["_law_bag_here","_law_one","_law_other","_law_ahead","_law_behind","_law_found","_law_k"] ["_law_bag_here"] (ax eT):=by walk_at "d"
theorem xO (T:Txt K mg Z):cN P w K mg base gK 5 Z.je Z.i8 ["_law_bag_here"] (L9 K):=by
 refine T.lS.ok dF (fun vs H Q E h=>?_) (fun cdv A outer s H vs Q E hr h=>?_)
 ·obtain ⟨b,rfl,hB,k⟩:=h;rfl
 ·obtain ⟨b,rfl,hB,k⟩:=h
  refine ⟨_,(aw (bo (i:=1) dF.nd rfl (Or.inl rfl) (cL (sZ T) hr T.oj T.nO.kp T.qQ (aa (pv 0) (aa ak ai))))
   (aw (bo (i:=2) dF.nd rfl (Or.inl rfl) (cL (sZ T) hr T.oj T.nO.kp T.qQ (aa (pv 0) (aa (bN fv ak (cL (bp T) hr T.aU T.bg.kp T.bw (aa (pv 0) (aa ak ai)))) ai))))
   (aw (bo (i:=3) dF.nd rfl (Or.inr rfl) (bN KN (dJ (aa (cZ (aa ak (aa ak ai))) ai)) ak))
   (aw (bo (i:=4) dF.nd rfl (Or.inr rfl) (bN KN (dJ (aa (cZ (aa ak (aa ak ai))) ai)) (bJ bu (by rfl) T.len aV (aa (aW b8 (pv 2) ak) ai))))
   (aw (bo (i:=5) dF.nd rfl (Or.inl rfl) (dJ ai))
   (aw (d7 PassesOwn.never rfl (cx rfl T.range (aa ak ai)) (aO (i:=6) dF.nd)
    (aB (md (AR dQ fo fk pB (pv 5) (aa (bN ky (cG ["_law_row_here"] ["_law_behind"] [4] (cQ (aW b8 (pv 1) (pv 6))) (fun _=>(aO (i:=0) (show List.Nodup (α:=PySem.Str) ["_law_row_here","_law_behind"] by decide +kernel))) (fun _=>cJ) (fun _=>(bN ky (pv 0) (pv 1)))) (cG ["_law_row_here"] ["_law_ahead"] [3] (cQ (aW b8 (pv 2) (pv 6))) (fun _=>(aO (i:=0) (show List.Nodup (α:=PySem.Str) ["_law_row_here","_law_ahead"] by decide +kernel))) (fun _=>cJ) (fun _=>(bN ky (pv 1) (pv 0))))) ai)))))
   (aB (aX (cL (wN T) hr T.rK T.oW.kp T.tR (aa (pv 0) (aa (aW bL (pv 5) ak) (aa (aW bL (pv 5) ak) (aa (aW bL (pv 5) ak) ai))))))))))))),?_⟩
  refine aS (σ:=[some (.ref b),none,none,none,none,none,none]) rfl ?_;obtain ⟨q0,I0,xq,gq0⟩:=hB.inner;walk_at "w";refine ⟨b,3,rfl,hB,by decide,by decide,fun r1 mv1 pt1 lk1 H1 P1 lm1 lp1 ll1 D1 fm1 fp1 fl1 B1 u1=>?_⟩;walk_at "w";refine ⟨b,3,rfl,B1,by decide,by decide,fun v H2 v0 v1 B2 u2=>?_⟩;obtain ⟨v,rfl⟩:=cn v0;have u02:=u1.trans u2;walk_at "w";rw[show ((3:Int)+(v:Int))=((3+v:Nat):Int) by lia];refine ⟨b,3+v,rfl,B2,by lia,by lia,fun r2 mv2 pt2 lk2 H3 P2 lm2 lp2 ll2 D2 fm2 fp2 fl2 B3 u3=>?_⟩;have u03:=u02.trans u3;have P1c:=(P1.upto (u2.trans u3) B1 hB.at);have P2c:ee K H H3 r2 mv2 pt2 lk2:=P2.weak fun q h=>u02.none B2 h
  walk_at "w";refine cu fun t0 H4 s4 g4=>?_
  walk_at "w";refine dg fun a1 H5 s5 n5 g5=>?_
  walk_at "w";refine Kv (k:=3) g5 (by decide) fun ah H6 s6 n6 g6=>?_
  have s36:=(s4.trans s5).trans s6;obtain ⟨m1,p1,l1,gt1,m1n,p1n,l1n,Gm1,Gp1,Gl1⟩:=P1c.same s36;obtain ⟨m2,p2,l2,gt2,m2n,p2n,l2n,Gm2,Gp2,Gl2⟩:=P2c.same s36;have N0:cC K H6 0 (V.ref t0):=cC.mk (q:=0) ((s5.trans s6) _ _ g4) rfl;walk_at "w";refine cu fun t1 H7 s7 g7=>?_
  walk_at "w";refine dg fun a2 H8 s8 n8' g8=>?_
  have s68:=s7.trans s8;have gt2':=s68 _ _ gt2;obtain ⟨um2,gm2,qm2,_⟩:=id (Gm2.same s68);have lum2:=qm2.length;walk_at "w";refine ⟨_,_,rfl,.inl (bV.of gm2),?_⟩;rw[<- lum2,lm2];walk_at "w";refine Kv (k:=3+v) g8 (by lia) fun bh H9 s9 n9 g9=>?_
  have s69:=s68.trans s9;have s39:=s36.trans s69;have N1:cC K H9 0 (V.ref t1):=cC.mk (q:=0) ((s8.trans s9) _ _ g7) rfl;have u09:=u03.same s39;have B9:=B3.same s39;have g6':=s69 _ _ g6;have N0':=N0.same s69;walk_at "w";refine dg fun fd H10 s10 n10 g10=>?_
  have X1:∀i:Nat,i < 3->∃q1 R1 q2 R2,[V.ref m1,V.ref p1,V.ref l1][i]?=some (V.ref q1)/\bR K H H9 q1 R1/\(∀xs∈R1,xs.length=3/\∀y∈xs,Fr 1 1 y)/\[V.ref m2,V.ref p2,V.ref l2][i]?=some (V.ref q2)/\bR K H H9 q2 R2/\(∀xs∈R2,xs.length=3+v/\∀y∈xs,Fr 1 1 y)/\R1.length<=100/\R2.length<=100/\[6+v,2,2][i]?=some (R1.length+R2.length):=fun i hi=>by
   rcases (show i=0\/i=1\/i=2 by lia) with rfl | rfl | rfl
   ·exact ⟨m1,mv1,m2,mv2,rfl,Gm1.same s69,fun xs hx=>⟨by rw[D1.mw xs hx,lm1],fm1 xs hx⟩,rfl,Gm2.same s69,fun xs hx=>⟨by rw[D2.mw xs hx,lm2],fm2 xs hx⟩,by lia,by lia,by rw[lm1,lm2,show 3+(3+v)=6+v by lia];rfl⟩
   ·exact ⟨p1,pt1,p2,pt2,rfl,Gp1.same s69,fun xs hx=>⟨by rw[D1.pw xs hx,lm1],fp1 xs hx⟩,rfl,Gp2.same s69,fun xs hx=>⟨by rw[D2.pw xs hx,lm2],fp2 xs hx⟩,by lia,by lia,by rw[lp1,lp2];rfl⟩
   ·exact ⟨l1,lk1,l2,lk2,rfl,Gl1.same s69,fun xs hx=>⟨by rw[D1.lw xs hx,lm1],fl1 xs hx⟩,rfl,Gl2.same s69,fun xs hx=>⟨by rw[D2.lw xs hx,lm2],fl2 xs hx⟩,by lia,by lia,by rw[ll1,ll2];rfl⟩
  walk_at "w";refine ⟨by decide,by decide,?_⟩;refine eG (n:=3) (fun i σ' H'=>aL H9 H'/\∃x6 L,σ'=[some (.ref b),some (.ref r1),some (.ref r2),some (.ref ah),some (.ref bh),some (.ref fd),x6]/\Rm K H9 H' (6+v) fd L/\L.length=i/\∀(j:Nat) (e:Addr×List V),L[j]?=some e->[6+v,2,2][j]?=some e.2.length) ⟨s10,none,[],rfl,⟨g10,n10,(fun _ z=>nomatch z),rB,(fun _ z=>nomatch z),rB⟩,rfl,fun j e h=>by simp at h⟩ ?_ ?_
  ·rintro i σ' H' hi ⟨s',x6,L,rfl,T,lL,hL⟩;obtain ⟨q1,R1,q2,R2,e1,G1,w1,e2,G2,w2,b1,b2,hlen⟩:=X1 i hi;have gt1':=s' _ _ (s69 _ _ gt1);have gt2'':=s' _ _ (s69 _ _ gt2);obtain ⟨ux1,gx1,qx1,_⟩:=id (G1.same s');have gb:=s' _ _ g9;have ga:=s' _ _ g6';walk_at "w";refine ⟨.inl ⟨rfl,_,bV.of T.gf⟩,?_⟩;walk_at "w";refine FG (uc.of gt1') (eC e1) ?_;walk_at "w";refine ⟨⟨_,bV.of gx1⟩,?_⟩;refine Cw (K:=K) (F:=dB K H) (fun H'' c x=>∃q,x=V.ref q/\cw K H'' q c) (fun r=>r++List.replicate (3+v) 0) gx1 qx1 (by lia) (fun a b=>a.same b) (fun a b=>by obtain ⟨q,e,r⟩:=a;exact ⟨q,e,r.same b⟩) (fun a=>by obtain ⟨q,e,_,gg,_⟩:=a;exact ⟨q,e,by rw[gg];exact fun z=>nomatch z⟩) ?_ ?_
   ·rintro j ns x Hi NY NN en si ⟨q,rfl,_,zs,gz,qz⟩ k1;have ws:=(w1 ns (ay en)).1;have lz:=qz.length;walk_at "w";refine kr gz (si _ _ gb) (aY (bO (by rw[aE];lia))) fun c Hj sj nj gj=>?_
    exact k1 _ _ sj ⟨c,rfl,_,gj,b6 (Paired.imp' (fun _ _ z=>z.same sj) qz) (xo (((N1.same s').same si).same sj) _)⟩ ⟨c,rfl,nj⟩
   rintro ys1 Ha c1 hc1 sa ga1 nd1 ne1 pr1;obtain ⟨ux2,gx2,qx2,_⟩:=id ((G2.same s').same sa);have gt2a:=sa _ _ gt2'';walk_at "w";refine FG (uc.of gt2a) (eC e2) ?_;walk_at "w";refine ⟨⟨_,bV.of gx2⟩,?_⟩;refine Cw (K:=K) (F:=dB K H) (fun H'' c x=>∃q,x=V.ref q/\cw K H'' q c) (fun r=>List.replicate 3 0++r) gx2 qx2 (by lia) (fun a b=>a.same b) (fun a b=>by obtain ⟨q,e,r⟩:=a;exact ⟨q,e,r.same b⟩) (fun a=>by obtain ⟨q,e,_,gg,_⟩:=a;exact ⟨q,e,by rw[gg];exact fun z=>nomatch z⟩) ?_ ?_
   ·rintro j ns x Hi NY NN en si ⟨q,rfl,_,zs,gz,qz⟩ k1;have ws:=(w2 ns (ay en)).1;have lz:=qz.length;walk_at "w";refine kr ((sa.trans si) _ _ ga) gz (aY (bO (by rw[aE];lia))) fun c Hj sj nj gj=>?_
    exact k1 _ _ sj ⟨c,rfl,_,gj,b6 (xo ((((N0'.same s').same sa).same si).same sj) _) (Paired.imp' (fun _ _ z=>z.same sj) qz)⟩ ⟨c,rfl,nj⟩
   rintro ys2 Hb c2 hc2 sb gb2 nd2 ne2 pr2;have sab:=sa.trans sb;have ly1:=pr1.length;have ly2:=pr2.length;rw[ar] at ly1 ly2;walk_at "w";refine kr (sb _ _ ga1) gb2 (aY (bO (by lia))) fun qn Hc sc nc gc=>?_
   have sac:=sab.trans sc;have gfc:=sac _ _ T.gf;walk_at "w";refine pA gfc (bO (by rw[ar];lia)) ?_
   have rP:∀{c:List Rat} {x:V},(∃q,x=V.ref q/\cw K Hb q c)->(∃q,x=V.ref q/\H' q=none)->c.length=6+v->(∀y∈c,Fr 1 1 y)->fP K (fun z=>H' z=none/\z≠qn) Hc (6+v) (Fr 1 1) x:=fun ⟨q,e,r⟩ ⟨q',e',nq⟩ hl hf=>by
    rw[e] at e';cases e';exact ⟨q,_,e,⟨nq,fun z=>by obtain ⟨_,gg,_⟩:=r;rw[z,nc] at gg;cases gg⟩,r.same sc,hl,hf⟩
   refine ⟨(s'.trans sac).after n10,some (.int i),L++[(qn,ys1++ys2)],rfl,T.snoc s' sac (sab.none nc) gc ?_ (fun x hx=>?_),by rw[av,bU,lL],fun j e he=>?_⟩
   ·refine dG.mpr ⟨nd1,nd2,fun x hx y hy z=>?_⟩;obtain ⟨_,_,q,e,_,gg,_⟩:=dd pr1 hx;obtain ⟨q',e',nq,_⟩:=ne2 y hy;rw[<- z,e] at e';cases e';rw[nq] at gg;cases gg
   ·rcases az.mp hx with hx | hx
    ·obtain ⟨c,mc,q,e,r⟩:=dd pr1 hx;obtain ⟨ns,mn,rfl⟩:=aD.mp mc;obtain ⟨q',e',nq,_⟩:=ne1 x hx;refine rP ⟨q,e,r.same sb⟩ ⟨q',e',nq⟩ (by rw[av,aE,(w1 ns mn).1];lia) fun y hy=>?_
     rcases az.mp hy with hy | hy
     ·exact (w1 ns mn).2 y hy
     ·rw[(dq.mp hy).2];exact Fr.zero
    ·obtain ⟨c,mc,q,e,r⟩:=dd pr2 hx;obtain ⟨ns,mn,rfl⟩:=aD.mp mc;obtain ⟨q',e',nq,_⟩:=ne2 x hx;refine rP ⟨q,e,r⟩ ⟨q',e',sa.none nq⟩ (by rw[av,aE,(w2 ns mn).1];lia) fun y hy=>?_
     rcases az.mp hy with hy | hy
     ·rw[(dq.mp hy).2];exact Fr.zero
     ·exact (w2 ns mn).2 y hy
   ·rcases cR j L.length with z | z
    ·rw[bE z] at he;exact hL j e he
    ·have hj:=(aI.mp he).1;rw[av,bU] at hj;have ej:j=L.length:=by lia
     subst ej;rw[aZ (ao _),fQ] at he;cases he;rw[lL,hlen,av,ly1,ly2]
  ·rintro σ' H' ⟨s',x6,L,rfl,T,lL,hL⟩
   obtain ⟨⟨m,us⟩,⟨p,ws⟩,⟨l,vs⟩,rfl⟩:∃a b c,L=[a,b,c]:=by
    rcases L with _ | ⟨a,_ | ⟨b,_ | ⟨c,_ | ⟨d,L⟩⟩⟩⟩
    ·cases lL
    ·cases lL
    ·cases lL
    ·exact ⟨a,b,c,rfl⟩
    ·simp at lL
   have lu:us.length=6+v:=by have:=hL 0 _ rfl;simpa using this.symm
   have lw:ws.length=2:=by have:=hL 1 _ rfl;simpa using this.symm
   have lv:vs.length=2:=by have:=hL 2 _ rfl;simpa using this.symm
   have gf:=T.gf;obtain ⟨mn,mf,gm⟩:=T.ls (m,us) (by simp);obtain ⟨pn,pf,gp⟩:=T.ls (p,ws) (by simp);obtain ⟨ln,lf,gl⟩:=T.ls (l,vs) (by simp);have nd:=T.nd;have rw':=T.rows;have rd:=T.rd;clear T hL;have gf:H' fd=some (.lst [.ref m,.ref p,.ref l]):=gf;have nd:[m,p,l].Nodup:=nd;have rd:(us++(ws++(vs++[]))).Nodup:=rd;have u0':=u09.same s';have B':=B9.same s';have hm0:H m=none:=u09.none B9 mn;have hp0:H p=none:=u09.none B9 pn;have hl0:H l=none:=u09.none B9 ln;obtain ⟨A,eA⟩:∃A:Addr->Prop,A=fun q=>H q=none/\q≠m/\q≠p/\q≠l:=⟨_,rfl⟩
   have mkA:∀{q},H q=none->q≠m->q≠p->q≠l->A q:=fun h1 h2 h3 h4=>by rw[eA];exact ⟨h1,h2,h3,h4⟩
   have unA:∀{q},A q->H q=none/\q≠m/\q≠p/\q≠l:=fun h=>by rw[eA] at h;exact h
   have nb:∀{q},H q=none->q≠b:=fun h z=>hB.at (by rw[<- z];exact h)
   have MA:E9 A m p l b q0:=⟨fun z=>(unA z).2.1 rfl,fun z=>(unA z).2.2.1 rfl,fun z=>(unA z).2.2.2 rfl,fun z=>hB.at (unA z).1,(fun z=>by have z1:=(unA z).1;rw[gq0] at z1;cases z1),nb hm0,nb hp0,nb hl0,by intro z;subst z;simp at nd,by intro z;subst z;simp at nd,fun z=>by rw[<- z,hm0] at gq0;cases gq0⟩;have X:kQ K A H' (6+v) (fun _=>Fr 1 1) m p l b q0 us ws vs:=⟨B',u0'.2 _ I0,gm,gp,gl,lu,fun x hx=>?_,?_⟩
   ·walk_at "w";refine ⟨b,m,p,l,q0,6+v,1,fun _=>1,A,us,ws,vs,rfl,MA,X,by lia,by lia,by lia,fun _=>Nat.zero_lt_one,fun _=>jE,⟨1,fun _ _ _=>rfl⟩,by decide,fun q hq=>?_,fun r us' H'' g Y kp=>?_⟩
    ·exact mkA (u0'.none B' hq) (fun z=>by rw[z,gm] at hq;cases hq) (fun z=>by rw[z,gp] at hq;cases hq) (fun z=>by rw[z,gl] at hq;cases hq)
    ·obtain ⟨mv,Gm,lmv,hmv⟩:=lN (H0:=H) (n:=6+v) (C:=Fr 1 (9^3*1)) (m:=6+v) ⟨us',Y.gm,Y.lm,MA.am,fun x hx=>Y.row x (by simp [hx])⟩ fun q h=>(unA h).1
     obtain ⟨pt,Gp,lpt,hpt⟩:=lN (H0:=H) (n:=6+v) (C:=Fr 1 (9^3*1)) (m:=2) ⟨ws,Y.gp,lw,MA.ap,fun x hx=>Y.row x (by simp [hx])⟩ fun q h=>(unA h).1
     obtain ⟨lk,Gl,llk,hlk⟩:=lN (H0:=H) (n:=6+v) (C:=Fr 1 (9^3*1)) (m:=2) ⟨vs,Y.gl,lv,MA.al,fun x hx=>Y.row x (by simp [hx])⟩ fun q h=>(unA h).1
     refine k r mv pt lk H'' ⟨m,p,l,g,hm0,hp0,hl0,Gm,Gp,Gl⟩ (by lia) ⟨by lia,by lia,by lia,fun xs hx=>by rw[(hmv xs hx).1,lmv],fun xs hx=>by rw[(hpt xs hx).1,lmv],fun xs hx=>by rw[(hlk xs hx).1,lmv]⟩ (fun xs hx=>(hmv xs hx).2) (fun xs hx=>(hpt xs hx).2) (fun xs hx=>(hlk xs hx).2) Y.bag ⟨fun c' u e n1=>kp c' u (u0'.1 _ _ e n1) n1 (fun z=>by have:=(unA z).1;rw[e] at this;cases this) (fun z=>by rw[z,hm0] at e;cases e),fun q h=>by rw[<- Inner.inj I0 h];exact Y.inn⟩
   ·have hx:∃e∈[(m,us),(p,ws),(l,vs)],x∈e.2:=by
     rcases az.mp hx with hx | hx
     ·rcases az.mp hx with hx | hx
      ·exact ⟨(m,us),by simp,hx⟩
      ·exact ⟨(l,vs),by simp,hx⟩
     ·exact ⟨(p,ws),by simp,hx⟩
    obtain ⟨e,he,hx⟩:=hx;refine (rw' e he x hx).weak (fun q hq=>?_) (fun _ w=>w);obtain ⟨⟨h1,_⟩,h2⟩:=hq;have h2:q∉[m,p,l]:=h2;simp only[aG,ba,or_false,not_or] at h2;exact mkA (u09.none B9 h1) h2.1 h2.2.1 h2.2.2
   ·rw[oY] at rd
    have e:(us++vs++ws).Perm (us++(ws++vs)):=by
     rw[cD];exact List.Perm.append_left _ List.perm_append_comm
    exact e.nodup_iff.mpr rd
theorem uQ:bx ["_law_bag_here","_law_wide","_law_way"] ["_law_bag_here","_law_wide"] (ax gZ):=by walk_at "d"
theorem A1 (T:Txt K mg Z):cN P w K mg base gK 2 Z.mT Z.mF ["_law_bag_here","_law_wide"] (Fq K):=by
 refine T.rV.ok uQ (fun vs H Q E h=>?_) (fun cdv A outer s H vs Q E hr h=>?_)
 ·obtain ⟨b,w,rfl,hB,w0,w1,k⟩:=h;rfl
 ·obtain ⟨b,w,rfl,hB,w0,w1,k⟩:=h
  refine ⟨_,(aw (bo (i:=2) uQ.nd rfl (Or.inl rfl) (cL (bp T) hr T.aU T.bg.kp T.bw (aa (pv 0) (aa ak ai))))
   (aw (dc (bH wK (pv 2) ak (bM _)) (aB (aX (cZ (aa ak (aa ak ai))))) bZ)
   (aw (dc (bH wK (pv 2) ak (bM _)) (aB (aX (cZ (aa (bN lK (cL (bp T) hr T.aU T.bg.kp T.bw (aa (pv 0) (aa ak ai))) ak) (aa ak ai))))) bZ)
   (aw (dc (bH eP (pv 2) ak (bM _)) (aB (aX (cL (j7 T) hr T.iC T.iH.kp T.jK (aa (bN lK (cL (bp T) hr T.aU T.bg.kp T.bw (aa (pv 0) (aa ak ai))) ak) (aa (bN fv ak (cL (bp T) hr T.aU T.bg.kp T.bw (aa (pv 0) (aa ak ai)))) ai))))) bZ)
   (aB (aX (cL (j7 T) hr T.iC T.iH.kp T.jK (aa (bN lK (cL (bp T) hr T.aU T.bg.kp T.bw (aa (pv 0) (aa (bN fv (bN di ak (pv 1)) ak) ai))) (pv 1)) (aa (bN fv ak (cL (bp T) hr T.aU T.bg.kp T.bw (aa (pv 0) (aa (pv 1) ai)))) ai))))))))),?_⟩
  refine aS (σ:=[some (.ref b),some (.int w),none]) rfl ?_;walk_at "w";refine ⟨b,8,rfl,hB,by decide,by decide,fun v H1 v0 v1 B1 u1=>?_⟩;walk_at "w";refine iq (fun h0=>?_) (fun h0=>?_)
  ·walk_at "w";refine cu fun r H2 s2 g2=>?_
   exact k r 0 _ ⟨bD _,by show 1<=_;lia⟩ (cC.mk g2 rfl) (B1.same s2) (u1.same s2)
  walk_at "w";refine iq (fun h1=>?_) (fun h1=>?_)
  ·walk_at "w";refine ⟨b,7,rfl,B1,by decide,by decide,fun a H2 a0 a1 B2 u2=>?_⟩;walk_at "w";refine cu fun r H3 s3 g3=>?_
   exact k r ((a - 3:Int):Rat) _ ⟨by show (a - 3).natAbs<=_;lia,by show 1<=_;lia⟩ (cC.mk g3 rfl) (B2.same s3) ((u1.trans u2).same s3)
  walk_at "w";refine iq (fun h2=>?_) (fun h2=>?_)
  ·walk_at "w";refine ⟨b,13,rfl,B1,by decide,by decide,fun a H2 a0 a1 B2 u2=>?_⟩;walk_at "w";refine ⟨b,6,rfl,B2,by decide,by decide,fun c H3 c0 c1 B3 u3=>?_⟩;walk_at "w";refine ⟨_,_,rfl,by lia,(JY (by lia)).mono (by decide),fun r H4 s4 g4=>?_⟩;obtain ⟨q,e,d,_⟩:=K6 (t:=a - 6) (b:=1+c) (W:=max w 6) (by lia) (by lia) (by lia);exact k r q _ d (cC.mk g4 e) (B3.same s4) (((u1.trans u2).trans u3).same s4)
  walk_at "w";refine ⟨b,_,rfl,B1,by lia,by lia,fun a H2 a0 a1 B2 u2=>?_⟩;walk_at "w";refine ⟨b,_,rfl,B2,by lia,by lia,fun c H3 c0 c1 B3 u3=>?_⟩;walk_at "w";refine ⟨_,_,rfl,by lia,(JY (by lia)).mono (by decide),fun r H4 s4 g4=>?_⟩;obtain ⟨q,e,d,_⟩:=K6 (t:=a - w) (b:=1+c) (W:=max w 6) (by lia) (by lia) (by lia);exact k r q _ d (cC.mk g4 e) (B3.same s4) (((u1.trans u2).trans u3).same s4)
theorem Eo:bx ["_law_bag_here","_law_many","_law_wide"] ["_law_bag_here","_law_many","_law_wide"] (ax lB):=by walk_at "d"
theorem j6 (T:Txt K mg Z):cN P w K mg base gK 3 Z.tW Z.tG ["_law_bag_here","_law_many","_law_wide"] (Ki K):=by
 refine T.gI.ok Eo (fun vs H Q E h=>?_) (fun cdv A outer s H vs Q E hr h=>?_)
 ·obtain ⟨b,m,w,rfl,hB,hm,w0,w1,k⟩:=h;rfl
 ·obtain ⟨b,m,w,rfl,hB,hm,w0,w1,k⟩:=h;refine ⟨_,(aB (aX (cG ["_law_k"] ["_law_bag_here","_law_wide"] [0,2] (cx rfl T.range (aa (pv 1) ai)) (fun _=>(aO (i:=0) (show List.Nodup (α:=PySem.Str) ["_law_k","_law_bag_here","_law_wide"] by decide +kernel))) (fun _=>cJ) (fun _=>(cL (A1 T) hr T.vf T.rV.kp T.xf (aa (pv 1) (aa (pv 2) ai))))))),?_⟩;refine aS (σ:=[some (.ref b),some (.int m),some (.int w)]) rfl ?_;walk_at "w";refine ⟨by lia,by lia,?_⟩;refine yY (n:=m) (cC K) (Dr (max w 6)) hB hm (fun a u B=>a.upto u B) ?_ ?_
  ·rintro i H' NY NN hi u B k1;walk_at "w";exact ⟨b,w,rfl,B,w0,w1,fun r x H2 hx h2 B2 u2=>k1 _ x _ u2 B2 hx h2⟩
  ·rintro ys cs H' p hp u B g lc hc pr nx;exact k p cs H' hp ⟨ys,g,pr⟩ lc hc B u
theorem ko:bx ["_law_bag_here","_law_n","_law_way","_law_first","_law_wide","_law_move_here","_law_i","_law_row_here","_law_j"] ["_law_bag_here","_law_n","_law_way","_law_first","_law_wide"] (ax jX):=by walk_at "d"
theorem Dp (T : Txt K mg Z) : cN P w K mg base gK 4 Z.rh Z.qG ["_law_bag_here", "_law_n", "_law_way", "_law_first", "_law_wide"] (Kd K) := by
  have ue := j6 (P := P) (w := w) (base := base) T;have kd := bp (P := P) (w := w) (base := base) T;refine T.vG.ok ko (fun vs H Q E h => ?_) (fun cdv A outer s H vs Q E hr h => ?_)
  · obtain ⟨b, n, w, way, first, rfl, hB, n8, w0, w1, k⟩ := h;rfl
  · obtain ⟨b, n, w, way, first, rfl, hB, n8, w0, w1, k⟩ := h
    refine ⟨_, (aw (bo (i := 5) ko.nd rfl (Or.inl rfl) (dJ ai))
      (aw (d7 PassesOwn.never rfl (cx rfl T.range (aa (pv 1) ai)) (aO (i := 6) ko.nd)
        (aw (bo (i := 7) ko.nd rfl (Or.inl rfl) (cL ue hr T.gi T.gI.kp T.iF (aa (pv 0) (aa (pv 1) (aa (pv 4) ai)))))
      (aw (d7 PassesOwn.never rfl (cx rfl T.range (aa (pv 1) ai)) (aO (i := 8) ko.nd)
        (j5 (dc (PW.pt (kv (bH eP (pv 2) ak (bM _)) (ma (bH wL (cL kd hr T.aU T.bg.kp T.bw (aa (pv 0) (aa ak ai))) ak (bM _))))) (aB (ff (cZ (aa ak (aa ak ai))) (h9 (pv 7) (pv 8) set_list))) bZ)
      (j5 (dc (PW.pt (kv (bH eP (pv 2) ak (bM _)) (ma (bH wK (bN fv (pv 6) ak) (pv 1) (bM _))))) (aB (ff (cZ (aa (eB sH (by rfl) T.int PyProof.Rows.boot_int (aa (iY eP (pv 8) (bN fv (pv 6) ak) (bM _)) ai)) (aa ak ai))) (h9 (pv 7) (pv 8) set_list))) bZ)
      (j5 (dc (PW.pt (uR (PW.pt (kv (bH eP (pv 2) ak (bM _)) (kv (bH Ck (pv 6) (pv 3) (bM _)) (ma (bH wK (pv 8) (pv 3) (bM _)))))) (pH (PW.pt (kv (bH eP (pv 2) ak (bM _)) (kv (bH wK (pv 6) (pv 3) (bM _)) (ma (bH Ck (pv 8) (pv 3) (bM _))))))))) (aB (ff (cZ (aa ak (aa ak ai))) (h9 (pv 7) (pv 8) set_list))) bZ)
      (aB (dc (bH eP (pv 2) ak (bM _)) (aB (ff (cZ (aa (bN di (aW bL (dJ (aa ak (aa ak (aa (zm uJ ak) (aa ak ai))))) (bN rD (pv 3) ak)) (eB sH (by rfl) T.int PyProof.Rows.boot_int (aa (iY eP (pv 6) (pv 8) (bM _)) ai))) (aa ak ai))) (h9 (pv 7) (pv 8) set_list))) bZ))))))
      (aB (md (AR dQ fo fk pB (pv 5) (aa (pv 7) ai)))))))
      (aB (aX (pv 5))))), ?_⟩
    refine aS (σ := [some (.ref b), some (.int n), some (.int way), some (.int first), some (.int w), none, none, none, none]) rfl ?_;have W1 : 1 ≤ max w 6 := by lia
    walk_at "w";refine dg fun r H1 s1 n1 g1 => ?_
    have rb : r ≠ b := fun z => hB.at (by rw [<- z]; exact n1)
    obtain ⟨q0, I0, xs0, gq0⟩ := hB.inner;have I1 : Inner H1 b q0 := (s1.upto (p := b)).2 _ I0;obtain ⟨A, eA⟩ : ∃ A : Addr → Prop, A = fun q => H q = none /\ q ≠ r := ⟨_, rfl⟩
    have nb : ¬ A b := by rw [eA]; exact fun z => hB.at z.1
    have nr : ¬ A r := by rw [eA]; exact fun z => z.2 rfl
    have nq : ¬ A q0 := by rw [eA]; exact fun z => by have z1 := z.1; rw [gq0] at z1; cases z1
    have rq : r ≠ q0 := fun z => by rw [<- z, n1] at gq0; cases gq0
    walk_at "w";refine ⟨by lia, by lia, ?_⟩;refine eG (n := n) (fun i σ' H' => ∃ (x1 x2 x3 : Option V) (us : List V), σ' = [some (.ref b), some (.int n), some (.int way), some (.int first), some (.int w), some (.ref r), x1, x2, x3] /\ H' r = some (.lst us) /\ us.length = i /\ us.Nodup /\ (∀ x ∈ us, fP K A H' n (Dr (max w 6)) x) /\ ir H' b /\ Inner H' b q0 /\ cT b H H') ⟨none, none, none, [], rfl, g1, rfl, rB, (fun _ z => nomatch z), hB.same s1, I1, s1.upto⟩ ?_ ?_
    · rintro i σ' H' hi ⟨x1, x2, x3, us, rfl, gu, lu, nd, ru, B', I', u'⟩;walk_at "w";refine ⟨b, n, w, rfl, B', by lia, w0, w1, fun p xs Ha np Ra la da Ba ua => ?_⟩;have hp0 : H p = none := u'.none B' np
      have pn : V.ref p ∉ us := fun z => by
        obtain ⟨q', _, _, e', _, g', _⟩ := (ru _ z).at;cases e';rw [np] at g';cases g'
      have ap' : H p = none /\ p ≠ r := ⟨hp0, fun z => by rw [z, gu] at np; cases np⟩;have ap : A p := by rw [eA]; exact ap'
      have X0 : Ie K A n (Dr (max w 6)) r p b q0 us H Ha := ⟨ua.other rb gu, fun x hx => (ru x hx).upto ua B' nb, ⟨p, xs, rfl, ap, Ra, la, da⟩, Ba, ua.2 _ I', u'.trans ua⟩;clear ru Ra gu;walk_at "w";refine ⟨by lia, by lia, ?_⟩;refine eG (n := n) (fun j σ' H' => (∃ x3, σ' = [some (.ref b), some (.int n), some (.int way), some (.int first), some (.int w), some (.ref r), some (.int i), some (.ref p), x3]) /\ Ie K A n (Dr (max w 6)) r p b q0 us H H') ⟨⟨_, rfl⟩, X0⟩ ?_ ?_
      · rintro j σ' Hj hj ⟨⟨x3, rfl⟩, X⟩;walk_at "w";refine ⟨fun σ' H' => σ' = [some (.ref b), some (.int n), some (.int way), some (.int first), some (.int w), some (.ref r), some (.int i), some (.ref p), some (.int j)] /\ Ie K A n (Dr (max w 6)) r p b q0 us H H', ?_, ?_⟩
        · walk_at "w";refine iq (fun _ => ?_) (fun _ => ?_)
          · walk_at "w";refine ⟨b, 3, rfl, X.bag, by decide, by decide, fun d Hd d0 d1 Bd ud => ?_⟩;replace X := X.upto ud Bd nb rb
            repeat' (first | walk_at "rd" | refine iq (fun _ => ?_) (fun _ => ?_))
            all_goals first
              | exact ⟨rfl, X⟩
              | (refine cu fun t Hb sb gb => ?_
                 walk_at "w";obtain ⟨zs, gz, lz, Xz⟩ := (X.same sb).put ap nr nb nq hp0 (cC.mk (q := 0) gb rfl) (vm (i := 0) (bD _) W1) j;refine fh gz (fF (by lia)) rfl ?_;exact ⟨rfl, Xz⟩)
          · walk_at "w";exact ⟨rfl, X⟩
        clear X;rintro σ' Hj ⟨rfl, X⟩;refine ⟨fun σ' H' => σ' = [some (.ref b), some (.int n), some (.int way), some (.int first), some (.int w), some (.ref r), some (.int i), some (.ref p), some (.int j)] /\ Ie K A n (Dr (max w 6)) r p b q0 us H H', ?_, ?_⟩
        · repeat' (first | walk_at "rd" | refine iq (fun _ => ?_) (fun _ => ?_))
          all_goals first
            | exact ⟨rfl, X⟩
            | (refine cu fun t Hb sb gb => ?_
               walk_at "w";obtain ⟨zs, gz, lz, Xz⟩ := (X.same sb).put ap nr nb nq hp0 (cC.mk (q := ((if decide ((j : Int) = (i : Int) + 1) = true then (1 : Int) else 0 : Int) : Rat)) gb rfl) (vm (by split <;> lia) W1) j;refine fh gz (fF (by lia)) rfl ?_;exact ⟨rfl, Xz⟩)
        clear X;rintro σ' Hj ⟨rfl, X⟩;refine ⟨fun σ' H' => σ' = [some (.ref b), some (.int n), some (.int way), some (.int first), some (.int w), some (.ref r), some (.int i), some (.ref p), some (.int j)] /\ Ie K A n (Dr (max w 6)) r p b q0 us H H', ?_, ?_⟩
        · repeat' (first | walk_at "rd" | refine iq (fun _ => ?_) (fun _ => ?_))
          all_goals first
            | exact ⟨rfl, X⟩
            | (refine cu fun t Hb sb gb => ?_
               walk_at "w";obtain ⟨zs, gz, lz, Xz⟩ := (X.same sb).put ap nr nb nq hp0 (cC.mk (q := 0) gb rfl) (vm (i := 0) (bD _) W1) j;refine fh gz (fF (by lia)) rfl ?_;exact ⟨rfl, Xz⟩)
        clear X;rintro σ' Hj ⟨rfl, X⟩;walk_at "w";refine iq (fun _ => ?_) (fun _ => ?_)
        · walk_at "w";refine dg fun l0 Hc sc nc gc => ?_
          walk_at "w";obtain ⟨x, ex, mx, _⟩ := nJ (xs := [V.int 2, V.int 1, V.int (-1), V.int 0]) (i := first % 4) (oZ _ (by decide)) (by have := jF first (show (0 : Int) < 4 by decide); simpa using this)
          obtain ⟨z, rfl, hz⟩ : ∃ z : Int, x = .int z /\ z.natAbs ≤ 2 := by
            simp only [aG, ba, or_false] at mx;rcases mx with rfl | rfl | rfl | rfl
            · exact ⟨2, rfl, by decide⟩
            · exact ⟨1, rfl, by decide⟩
            · exact ⟨-1, rfl, by decide⟩
            · exact ⟨0, rfl, by decide⟩
          refine cB (bV.of gc) ex ?_;walk_at "w";refine gG (DM (by lia) (by lia)) ?_;walk_at "w";refine cu fun t Hb sb gb => ?_
          walk_at "w";obtain ⟨zs, gz, lz, Xz⟩ := ((X.same sc).same sb).put ap nr nb nq hp0 (cC.mk (q := ((z * (if decide ((i : Int) = (j : Int)) = true then (1 : Int) else 0) : Int) : Rat)) gb rfl) (vm (by split <;> lia) W1) j;refine fh gz (fF (by lia)) rfl ?_;exact ⟨⟨_, rfl⟩, Xz⟩
        · walk_at "w";exact ⟨⟨_, rfl⟩, X⟩
      · rintro σ' Hj ⟨⟨x3, rfl⟩, X⟩;walk_at "w";refine ⟨.inl ⟨rfl, _, bV.of X.gr⟩, ?_⟩;walk_at "w";refine pA X.gr (bO (by lia)) ?_;refine ⟨_, _, _, us ++ [.ref p], rfl, aM, by simp [lu], tm nd pn, fun x hx => ?_, X.bag.upd X.inn rb rq, X.inn.upd rb, X.up.after n1⟩;rcases az.mp hx with hx | hx
        · exact (X.ru x hx).other X.gr nr
        · have e : x = V.ref p := by simpa using hx
          rw [e]; exact X.rp.other X.gr nr
    · rintro σ' H' ⟨x1, x2, x3, us, rfl, gu, lu, nd, ru, B', I', u'⟩;walk_at "w";exact k r us H' n1 gu lu nd (by rw [eA] at ru; exact ru) B' u'
theorem d5:bx ["_law_bag_here","_law_n","_law_ins","_law_outs","_law_wide","_law_way","_law_first","_law_move_here","_law_put","_law_look","_law_k","_law_row_here"] ["_law_bag_here","_law_n","_law_ins","_law_outs","_law_wide"] (ax iQ):=by walk_at "d"
theorem BS (T : Txt K mg Z) : cN P w K mg base gK 5 Z.oP Z.oy ["_law_bag_here", "_law_n", "_law_ins", "_law_outs", "_law_wide"] (IA K) := by
  have kd := bp (P := P) (w := w) (base := base) T;have Fb := Dp (P := P) (w := w) (base := base) T;have ue := j6 (P := P) (w := w) (base := base) T;have DY := wN (P := P) (w := w) (base := base) T;refine T.ur.ok d5 (fun vs H Q E h => ?_) (fun cdv A outer s H vs Q E hr h => ?_)
  · obtain ⟨b, n, i, o, w, c, rfl, hB, n8, i4, o4, w0, w1, hc, hc20, hcM, k⟩ := h;rfl
  · obtain ⟨b, n, i, o, w, c, rfl, hB, n8, i4, o4, w0, w1, hc, hc20, hcM, k⟩ := h
    refine ⟨_, (aw (bo (i := 5) d5.nd rfl (Or.inl rfl) (cL kd hr T.aU T.bg.kp T.bw (aa (pv 0) (aa ak ai))))
      (aw (bo (i := 6) d5.nd rfl (Or.inl rfl) (cL kd hr T.aU T.bg.kp T.bw (aa (pv 0) (aa (bN fv (pv 1) ak) ai))))
      (aw (bo (i := 7) d5.nd rfl (Or.inl rfl) (cL Fb hr T.xU T.vG.kp T.zH (aa (pv 0) (aa (pv 1) (aa (pv 5) (aa (pv 6) (aa (pv 4) ai)))))))
      (aw (p7 8 ["_law_k"] ["_law_bag_here", "_law_n", "_law_wide"] [0, 1, 4] d5.nd rfl rfl (cx rfl T.range (aa (pv 2) ai)) (fun _ => (aO (i := 0) (show List.Nodup (α := PySem.Str) ["_law_k", "_law_bag_here", "_law_n", "_law_wide"] by decide +kernel))) (fun _ => cJ) (fun _ => (cL ue hr T.gi T.gI.kp T.iF (aa (pv 1) (aa (pv 2) (aa (pv 3) ai))))))
      (aw (p7 9 ["_law_k"] ["_law_bag_here", "_law_n", "_law_wide"] [0, 1, 4] d5.nd rfl rfl (cx rfl T.range (aa (pv 3) ai)) (fun _ => (aO (i := 0) (show List.Nodup (α := PySem.Str) ["_law_k", "_law_bag_here", "_law_n", "_law_wide"] by decide +kernel))) (fun _ => cJ) (fun _ => (cL ue hr T.gi T.gI.kp T.iF (aa (pv 1) (aa (pv 2) (aa (pv 3) ai))))))
      (aw (d7 PassesOwn.never rfl (cx rfl T.range (aa (pv 1) ai)) (aO (i := 10) d5.nd)
        (aw (d7 PassesOwn.never rfl (cQ (pv 8)) (aO (i := 11) d5.nd)
        (aB (dc (PW.pt (uR (PW.pt (kv (bH eP (pv 5) ak (bM _)) (ma (bH Ck (pv 10) (pv 6) (bM _))))) (pH (PW.pt (kv (bH eP (pv 5) ak (bM _)) (kv (bH wK (bN fv (pv 10) ak) (pv 1) (bM _)) (ma (bH eP (cL kd hr T.aU T.bg.kp T.bw (aa (pv 0) (aa ak ai))) ak (bM _))))))))) (aB (ff (cZ (aa ak (aa ak ai))) (h9 (pv 11) (pv 10) set_list))) bZ)))
      (aB (d7 PassesOwn.never rfl (cQ (pv 9)) (aO (i := 11) d5.nd)
        (aB (dc (PW.pt (uR (PW.pt (kv (bH eP (pv 5) ak (bM _)) (ma (bH Ck (pv 10) (pv 6) (bM _))))) (pH (PW.pt (kv (bH eP (pv 5) ak (bM _)) (kv (bH wL (pv 10) ak (bM _)) (ma (bH eP (cL kd hr T.aU T.bg.kp T.bw (aa (pv 0) (aa ak ai))) ak (bM _))))))))) (aB (ff (cZ (aa ak (aa ak ai))) (h9 (pv 11) (pv 10) set_list))) bZ))))))
      (aB (aX (cL DY hr T.rK T.oW.kp T.tR (aa (pv 0) (aa (pv 7) (aa (pv 8) (aa (pv 9) ai))))))))))))), ?_⟩
    refine aS (σ := [some (.ref b), some (.int n), some (.int i), some (.int o), some (.int w), none, none, none, none, none, none, none]) rfl ?_;have W1 : 1 ≤ max w 6 := by lia
    obtain ⟨q0, I0, xs0, gq0⟩ := hB.inner;walk_at "w";refine ⟨b, 6, rfl, hB, by decide, by decide, fun way H1 a0 a1 B1 u1 => ?_⟩;walk_at "w";refine ⟨b, _, rfl, B1, by lia, by lia, fun first H2 f0 f1 B2 u2 => ?_⟩;have u02 := u1.trans u2;walk_at "w";refine ⟨b, n, w, way, first, rfl, B2, n8, w0, w1, fun m us H3 nm0 gm lm ndm rm B3 u3 => ?_⟩;have u03 := u02.trans u3;walk_at "w";refine ⟨by lia, by lia, ?_⟩;refine Cz (n := i) (b := b) (dB K H3) (fun xs => xs.length = n /\ ∀ x ∈ xs, Dr (max w 6) x) B3 (by lia) (fun a u B => a.upto u B B3.at) (fun ⟨q, e, _, _, g, _⟩ => ⟨q, e, by rw [g]; exact fun z => nomatch z⟩) ?_ ?_
    · rintro s H' NY NN hi u B k1;walk_at "w";exact ⟨b, n, w, rfl, B, by lia, w0, w1, fun r xs H2 nr R lx dx B2 u2 => k1 _ xs _ u2 B2 ⟨lx, dx⟩ ⟨r, rfl, u.none B nr, R⟩ ⟨r, rfl, nr⟩⟩
    rintro ws puts H4 p np u4 B4 gp lp ndp hp pr4 nx4;have u04 := u03.trans u4;walk_at "w";refine ⟨by lia, by lia, ?_⟩;refine Cz (n := o) (b := b) (dB K H4) (fun xs => xs.length = n /\ ∀ x ∈ xs, Dr (max w 6) x) B4 (by lia) (fun a u B => a.upto u B B4.at) (fun ⟨q, e, _, _, g, _⟩ => ⟨q, e, by rw [g]; exact fun z => nomatch z⟩) ?_ ?_
    · rintro s H' NY NN hi u B k1;walk_at "w";exact ⟨b, n, w, rfl, B, by lia, w0, w1, fun r xs H2 nr R lx dx B2 u2 => k1 _ xs _ u2 B2 ⟨lx, dx⟩ ⟨r, rfl, u.none B nr, R⟩ ⟨r, rfl, nr⟩⟩
    rintro vs looks H5 l nl u5 B5 gl ll ndl hl pr5 nx5;have u05 := u04.trans u5;have hm0 : H m = none := u02.none B2 nm0;have hp0 : H p = none := u03.none B3 np;have hl0 : H l = none := u04.none B4 nl;have mb : m ≠ b := fun z => B2.at (by rw [<- z]; exact nm0)
    have pb : p ≠ b := fun z => B3.at (by rw [<- z]; exact np)
    have lb : l ≠ b := fun z => B4.at (by rw [<- z]; exact nl)
    have gm4 := u4.other mb gm;have gm5 := u5.other mb gm4;have gp5 := u5.other pb gp;have mp : m ≠ p := fun z => by rw [z, np] at gm; cases gm
    have ml : m ≠ l := fun z => by rw [z, nl] at gm4; cases gm4
    have pl : p ≠ l := fun z => by rw [z, nl] at gp; cases gp
    have mq : m ≠ q0 := fun z => Inner.at B2 (u02.2 _ I0) (by rw [<- z]; exact nm0)
    obtain ⟨A, eA⟩ : ∃ A : Addr → Prop, A = fun q => H q = none /\ q ≠ m /\ q ≠ p /\ q ≠ l := ⟨_, rfl⟩
    have mkA : ∀ {q}, H q = none → q ≠ m → q ≠ p → q ≠ l → A q := fun h1 h2 h3 h4 => by rw [eA]; exact ⟨h1, h2, h3, h4⟩
    have unA : ∀ {q}, A q → H q = none /\ q ≠ m /\ q ≠ p /\ q ≠ l := fun h => by rw [eA] at h; exact h
    have MA : E9 A m p l b q0 := ⟨fun z => (unA z).2.1 rfl, fun z => (unA z).2.2.1 rfl, fun z => (unA z).2.2.2 rfl, fun z => hB.at (unA z).1, (fun z => by have z1 := (unA z).1; rw [gq0] at z1; cases z1), mb, pb, lb, mp, ml, mq⟩;clear eA;have lws : ws.length = i := by rw [<- pr4.length]; exact lp
    have lvs : vs.length = o := by rw [<- pr5.length]; exact ll
    have alM : ∀ q, V.ref q ∈ us → H3 q ≠ none /\ q ≠ b /\ H4 q ≠ none := fun q hq => by
      obtain ⟨q', qs, e, ⟨a1, a2⟩, r, z⟩ := rm _ hq;cases e;have qb : q ≠ b := fun y => B2.at (by rw [<- y]; exact a1)
      obtain ⟨xq, gq, _⟩ := id r;obtain ⟨xq4, gq4, _⟩ := r.upto u4 B3 qb;exact ⟨(by rw [gq]; exact fun z => nomatch z), qb, (by rw [gq4]; exact fun z => nomatch z)⟩
    have alP : ∀ q, V.ref q ∈ ws → H3 q = none /\ H4 q ≠ none := fun q hq => by
      obtain ⟨_, _, q', e, a, _, g, _⟩ := dd pr4 hq;cases e;exact ⟨a, by rw [g]; exact fun z => nomatch z⟩
    have alL : ∀ q, V.ref q ∈ vs → H4 q = none := fun q hq => by
      obtain ⟨_, _, q', e, a, _⟩ := dd pr5 hq;cases e;exact a
    have isR : ∀ x, x ∈ us \/ x ∈ ws \/ x ∈ vs → ∃ q, x = V.ref q := fun x hx => by
      rcases hx with hx | hx | hx
      · obtain ⟨q, _, e, _⟩ := rm x hx; exact ⟨q, e⟩
      · obtain ⟨_, _, q, e, _⟩ := dd pr4 hx; exact ⟨q, e⟩
      · obtain ⟨_, _, q, e, _⟩ := dd pr5 hx; exact ⟨q, e⟩
    have nd : (us ++ vs ++ ws).Nodup := by
      refine dG.mpr ⟨dG.mpr ⟨ndm, ndl, fun x hx y hy e => ?_⟩, ndp, fun x hx y hy e => ?_⟩
      · subst e;obtain ⟨q, rfl⟩ := isR x (.inl hx);exact (alM q hx).2.2 (alL q hy)
      · subst e;obtain ⟨q, rfl⟩ := isR x (.inr (.inl hy));rcases az.mp hx with hx | hx
        · exact (alM q hx).1 (alP q hy).1
        · exact (alP q hy).2 (alL q hx)
    have X5 : Gx K A n (Dr (max w 6)) m p l b q0 us ws vs H H5 := by
      refine ⟨⟨B5, u05.2 _ I0, gm5, gp5, gl, lm, fun x hx => ?_, nd⟩, gp5, gl, fun c u e n1 _ _ => u05.1 c u e n1⟩;rcases az.mp hx with hx | hx
      · rcases az.mp hx with hx | hx
        · obtain ⟨q, qs, e, ⟨a1, a2⟩, r, z⟩ := rm x hx;obtain ⟨xq, gq, _⟩ := id r;have qb : q ≠ b := fun y => B2.at (by rw [<- y]; exact a1)
          have r4 := r.upto u4 B3 qb;obtain ⟨xq4, gq4, _⟩ := id r4;exact ⟨q, qs, e, mkA (u02.none B2 a1) a2 (fun y => by rw [y, np] at gq; cases gq) (fun y => by rw [y, nl] at gq4; cases gq4), r4.upto u5 B4 qb, z⟩
        · refine Ks (A := A) pr5 hl (fun q hq a b' => ?_) x hx;exact mkA (u04.none B4 a) (fun y => by rw [y, gm4] at a; cases a) (fun y => by rw [y, gp] at a; cases a) (fun y => pN nx5 (by rw [<- y]; exact hq))
      · refine fP.upto (Ks (A := A) pr4 hp (fun q hq a b' => ?_) x hx) u5 B4 MA.ab;exact mkA (u03.none B3 a) (fun y => by rw [y, gm] at a; cases a) (fun y => pN nx4 (by rw [<- y]; exact hq)) (fun y => b' (by rw [y]; exact nl))
    clear alM alP alL isR rm pr4 pr5 nx4 nx5 gm gm4 gm5 gp gp5 gl hp hl;walk_at "w";refine ⟨by lia, by lia, ?_⟩;refine eG (n := n) (fun kk σ' H' => (∃ x1 x2, σ' = [some (.ref b), some (.int n), some (.int i), some (.int o), some (.int w), some (.int way), some (.int first), some (.ref m), some (.ref p), some (.ref l), x1, x2]) /\ Gx K A n (Dr (max w 6)) m p l b q0 us ws vs H H') ⟨⟨_, _, rfl⟩, X5⟩ ?_ ?_
    · rintro kk σ' Hj hk ⟨⟨x1, x2, rfl⟩, X⟩;walk_at "w";refine ⟨⟨_, bV.of X.gp⟩, ?_⟩;refine jv (K := K) (a := p) (xs := ws) (fun s σ' H' => (∃ x2, σ' = [some (.ref b), some (.int n), some (.int i), some (.int o), some (.int w), some (.int way), some (.int first), some (.ref m), some (.ref p), some (.ref l), some (.int kk), x2]) /\ Gx K A n (Dr (max w 6)) m p l b q0 us ws vs H H') ⟨⟨_, rfl⟩, X⟩ (fun s σ' H' _ ⟨_, e⟩ => bV.of e.gp) ?_ ?_
      · rintro s x σ' Hk hx ⟨⟨y2, rfl⟩, X⟩;have mx := ay hx;obtain ⟨q, _, rfl, _⟩ := X.row (.inl mx)
        repeat' (first | walk_at "rd" | refine iq (fun _ => ?_) (fun _ => ?_))
        all_goals first
          | exact ⟨⟨_, rfl⟩, X⟩
          | (refine cu fun t Hb sb gb => ?_
             walk_at "w";obtain ⟨zs, gz, lz, Xz⟩ := (X.same sb).put MA (.inl mx) (cC.mk (q := 0) gb rfl) (vm (i := 0) (bD _) W1) kk;refine fh gz (fF (by lia)) rfl ?_;exact ⟨⟨_, rfl⟩, Xz⟩)
          | (refine ⟨b, 2, rfl, X.mix.bag, by decide, by decide, fun d Hd d0 d1 Bd ud => ?_⟩
             replace X := X.upto MA ud Bd
             repeat' (first | walk_at "rd" | refine iq (fun _ => ?_) (fun _ => ?_))
             all_goals first
               | exact ⟨⟨_, rfl⟩, X⟩
               | (refine cu fun t Hb sb gb => ?_
                  walk_at "w";obtain ⟨zs, gz, lz, Xz⟩ := (X.same sb).put MA (.inl mx) (cC.mk (q := 0) gb rfl) (vm (i := 0) (bD _) W1) kk;refine fh gz (fF (by lia)) rfl ?_;exact ⟨⟨_, rfl⟩, Xz⟩))
      · rintro σ' Hk ⟨⟨y2, rfl⟩, X⟩;walk_at "w";refine ⟨⟨_, bV.of X.gl⟩, ?_⟩;refine jv (K := K) (a := l) (xs := vs) (fun s σ' H' => (∃ x2, σ' = [some (.ref b), some (.int n), some (.int i), some (.int o), some (.int w), some (.int way), some (.int first), some (.ref m), some (.ref p), some (.ref l), some (.int kk), x2]) /\ Gx K A n (Dr (max w 6)) m p l b q0 us ws vs H H') ⟨⟨_, rfl⟩, X⟩ (fun s σ' H' _ ⟨_, e⟩ => bV.of e.gl) ?_ ?_
        · rintro s x σ' Hk hx ⟨⟨y2, rfl⟩, X⟩;have mx := ay hx;obtain ⟨q, _, rfl, _⟩ := X.row (.inr mx)
          repeat' (first | walk_at "rd" | refine iq (fun _ => ?_) (fun _ => ?_))
          all_goals first
            | exact ⟨⟨_, rfl⟩, X⟩
            | (refine cu fun t Hb sb gb => ?_
               walk_at "w";obtain ⟨zs, gz, lz, Xz⟩ := (X.same sb).put MA (.inr mx) (cC.mk (q := 0) gb rfl) (vm (i := 0) (bD _) W1) kk;refine fh gz (fF (by lia)) rfl ?_;exact ⟨⟨_, rfl⟩, Xz⟩)
            | (refine ⟨b, 2, rfl, X.mix.bag, by decide, by decide, fun d Hd d0 d1 Bd ud => ?_⟩
               replace X := X.upto MA ud Bd
               repeat' (first | walk_at "rd" | refine iq (fun _ => ?_) (fun _ => ?_))
               all_goals first
                 | exact ⟨⟨_, rfl⟩, X⟩
                 | (refine cu fun t Hb sb gb => ?_
                    walk_at "w";obtain ⟨zs, gz, lz, Xz⟩ := (X.same sb).put MA (.inr mx) (cC.mk (q := 0) gb rfl) (vm (i := 0) (bD _) W1) kk;refine fh gz (fF (by lia)) rfl ?_;exact ⟨⟨_, rfl⟩, Xz⟩))
        · rintro σ' Hk ⟨⟨y2, rfl⟩, X⟩;exact ⟨⟨_, _, rfl⟩, X⟩
    · rintro σ' Hj ⟨⟨x1, x2, rfl⟩, X⟩
      obtain ⟨M1, M2, M3, V0, a1, a2, a3, V2, hcs, R1, R2, R3⟩ : ∃ M1 M2 M3 V0 : Nat, (0 < M1 /\ M1 ≤ 2 ^ 800) /\ (0 < M2 /\ M2 ≤ 2 ^ 800) /\ (0 < M3 /\ M3 ≤ 2 ^ 800) /\ V0 ≤ 2 ^ 20 /\ ((w ≤ 9 /\ M1 = 2520 /\ M2 = 2520 /\ M3 = 2520 /\ V0 = 9) \/ (9 < w /\ M1 ≤ 2 ^ (c * (n * n)) /\ M2 ≤ 2 ^ (c * (i * n)) /\ M3 ≤ 2 ^ (c * (o * n)) /\ V0 = 2 ^ c)) /\ (∀ x ∈ us, fP K A Hj n (Fr M1 V0) x) /\ (∀ x ∈ ws, fP K A Hj n (Fr M2 V0) x) /\ ∀ x ∈ vs, fP K A Hj n (Fr M3 V0) x := by
        by_cases w9 : w ≤ 9
        · have XM := X.mix.weak (C' := fun _ => Fr 2520 9) fun _ _ y h => Lx ⟨aj h.1 (by lia), aj h.2 (by lia)⟩ (Ar _)
          have z : 0 < 2520 /\ 2520 ≤ 2 ^ 800 := ⟨by decide, aj (show 2520 ≤ 2 ^ 12 by decide) (au (by decide) (by decide))⟩;exact ⟨2520, 2520, 2520, 9, z, z, z, by decide, .inl ⟨w9, rfl, rfl, rfl, rfl⟩, fun x hx => XM.row x (by simp [hx]), fun x hx => XM.row x (by simp [hx]), fun x hx => XM.row x (by simp [hx])⟩
        · obtain ⟨M1, M2, M3, a1, a2, a3, b1, b2, b3, R1, R2, R3⟩ := (X.mix.weak (C' := fun _ => Dr (2 ^ c)) fun _ _ y h => ⟨aj h.1 hc, aj h.2 hc⟩).fr3;rw [lws] at b2;rw [lvs] at b3;have up : ∀ {M k : Nat}, M ≤ 2 ^ (c * k) → k ≤ (n + i + o) * n → M ≤ 2 ^ 800 := fun h hk => aj h (au (by decide) (aj (aN _ hk) hcM))
          exact ⟨M1, M2, M3, 2 ^ c, ⟨a1, up b1 (aA _ (by lia))⟩, ⟨a2, up b2 (aA _ (by lia))⟩, ⟨a3, up b3 (aA _ (by lia))⟩, au (by decide) hc20, .inr ⟨by lia, b1, b2, b3, rfl⟩, R1, R2, R3⟩
      obtain ⟨μ, e2, e3, e1, e4⟩ := KW ws vs M1 M2 M3;obtain ⟨ap1, ap2⟩ := X.mix.apart
      have XM : kQ K A Hj n (fun x => Fr (μ x) V0) m p l b q0 us ws vs := by
        refine ⟨X.mix.bag, X.mix.inn, X.mix.gm, X.mix.gp, X.mix.gl, X.mix.lm, fun x hx => ?_, X.mix.nd⟩;rcases az.mp hx with hx | hx
        · rcases az.mp hx with hx | hx
          · rw [e1 x (ap1 x hx).1 (ap1 x hx).2]; exact R1 x hx
          · rw [e3 x hx (ap2 x hx)]; exact R3 x hx
        · rw [e2 x hx]; exact R2 x hx
      have p1 : ∀ x, 0 < μ x := fun x => by
        rcases e4 x with e | e | e
        · rw [e]; exact a1.1
        · rw [e]; exact a2.1
        · rw [e]; exact a3.1
      have p2 : ∀ x, μ x ≤ 2 ^ 800 := fun x => by
        rcases e4 x with e | e | e
        · rw [e]; exact a1.2
        · rw [e]; exact a2.2
        · rw [e]; exact a3.2
      have gmj := X.mix.gm;walk_at "w";refine ⟨b, m, p, l, q0, n, V0, μ, A, us, ws, vs, rfl, MA, XM, n8, by lia, by lia, p1, p2, ⟨M1, e1⟩, V2, fun q hq => ?_, fun r us' H' g Y kp => ?_⟩
      · refine mkA ?_ (fun z => by rw [z, gmj] at hq; cases hq) (fun z => by rw [z, X.gp] at hq; cases hq) (fun z => by rw [z, X.gl] at hq; cases hq);cases e : H q with
        | none => rfl
        | some u =>
          have := X.kp q u e (fun z => X.mix.bag.at (by rw [<- z]; exact hq)) (fun z => by have := (unA z).1; rw [e] at this; cases this) (fun z => by rw [z, hm0] at e; cases e);rw [hq] at this; cases this
      · obtain ⟨yp1, yp2⟩ := Y.apart;obtain ⟨mv, Gm, lmv, hmv⟩ := lN (H0 := H) (n := n) (C := Fr M1 (9 ^ 3 * V0)) (m := n) ⟨us', Y.gm, Y.lm, MA.am, fun x hx => by have := Y.row x (by simp [hx]); rwa [e1 x (yp1 x hx).1 (yp1 x hx).2] at this⟩ fun q h => (unA h).1
        obtain ⟨pt, Gp, lpt, hpt⟩ := lN (H0 := H) (n := n) (C := Fr M2 (9 ^ 3 * V0)) (m := i) ⟨ws, Y.gp, lws, MA.ap, fun x hx => by have := Y.row x (by simp [hx]); rwa [e2 x hx] at this⟩ fun q h => (unA h).1
        obtain ⟨lk, Gl, llk, hlk⟩ := lN (H0 := H) (n := n) (C := Fr M3 (9 ^ 3 * V0)) (m := o) ⟨vs, Y.gl, lvs, MA.al, fun x hx => by have := Y.row x (by simp [hx]); rwa [e3 x hx (yp2 x hx)] at this⟩ fun q h => (unA h).1
        refine k r mv pt lk H' ⟨m, p, l, g, hm0, hp0, hl0, Gm, Gp, Gl⟩ lmv lpt llk ⟨by lia, by lia, by lia, fun xs hx => by rw [(hmv xs hx).1, lmv], fun xs hx => by rw [(hpt xs hx).1, lmv], fun xs hx => by rw [(hlk xs hx).1, lmv]⟩ ⟨M1, M2, M3, 9 ^ 3 * V0, a1.1, a2.1, a3.1, fun xs hx => (hmv xs hx).2, fun xs hx => (hpt xs hx).2, fun xs hx => (hlk xs hx).2, ?_⟩ Y.bag ⟨fun c' u e n1 => (X.kp.trans kp) c' u e n1 (fun z => by have := (unA z).1; rw [e] at this; cases this) (fun z => by rw [z, hm0] at e; cases e), fun q h => by rw [<- Inner.inj I0 h]; exact Y.inn⟩;rcases hcs with ⟨b1, b2, b3, b4, b5⟩ | ⟨b1, b2, b3, b4, b5⟩
        · exact .inl ⟨b1, b2, b3, b4, by rw [b5]⟩
        · exact .inr ⟨b1, b2, b3, b4, by rw [b5]⟩
theorem iB:bx ["_law_bag_here","_law_n","_law_ins","_law_outs","_law_wide"] ["_law_bag_here"] (ax gX):=by walk_at "d"
theorem AZ (T:Txt K mg Z):cN P w K mg base gK 6 Z.mR Z.mD ["_law_bag_here"] (Mc K):=by
 refine T.rS.ok iB (fun vs H Q E h=>?_) (fun cdv A outer s H vs Q E hr h=>?_)
 ·obtain ⟨b,rfl,hB,k⟩:=h;rfl
 ·obtain ⟨b,rfl,hB,k⟩:=h
  refine ⟨_,(aw (ff (cL (BR T) hr T.wW T.uq.kp T.yn (aa (pv 0) ai)) (uS rfl (cI (aO (i:=1) iB.nd) (cI (aO (i:=2) iB.nd) (cI (aO (i:=3) iB.nd) (cI (aO (i:=4) iB.nd) iX))))))
   (aw (dc (bH eP (cL (bp T) hr T.aU T.bg.kp T.bw (aa (pv 0) (aa ak ai))) ak (bM _)) (aw (dc (bH eP (cL (bp T) hr T.aU T.bg.kp T.bw (aa (pv 0) (aa ak ai))) ak (bM _)) (aB (aX (cZ (aa (cL (xO T) hr T.qe T.lS.kp T.sI (aa (pv 0) ai)) (aa ak ai))))) bZ)
   (aB (aX (cZ (aa (cL (sZ T) hr T.oj T.nO.kp T.qQ (aa (pv 0) (aa (bN fv ak (cL (bp T) hr T.aU T.bg.kp T.bw (aa (pv 0) (aa ak ai)))) ai))) (aa ak ai)))))) bZ)
   (aB (aX (cZ (aa (cL (BS T) hr T.wX T.ur.kp T.yo (aa (pv 0) (aa (pv 1) (aa (pv 2) (aa (pv 3) (aa (pv 4) ai)))))) (aa (bJ (v5 rfl) (by rfl) T.min PyProof.Rows.boot_min (aa (pv 4) (aa ak ai))) ai))))))),?_⟩
  refine aS (σ:=[some (.ref b),none,none,none,none]) rfl ?_;have sf:∀{mv pt lk:List (List Rat)} {M V1:Nat},0 < M->M<=2^400->V1<=2^30->GF M V1 mv->GF M V1 pt->GF M V1 lk->JH mv pt lk:=fun h0 h1 h2 a b c=>⟨_,_,h0,h1,aj h2 (au (by decide) (by decide)),a,b,c⟩
  walk_at "w";refine ⟨b,rfl,hB,fun r n i o w H1 g1 n5 i4 o4 hw h5 B1 u1=>?_⟩;walk_at "w";refine ⟨b,16,rfl,B1,by decide,by decide,fun v H2 v0 v1 B2 u2=>?_⟩;have u02:=u1.trans u2;walk_at "w";refine iq (fun h0=>?_) (fun h0=>?_)
  ·walk_at "w";refine ⟨b,2,rfl,B2,by decide,by decide,fun v2 H3 _ _ B3 u3=>?_⟩;have u03:=u02.trans u3;walk_at "w";refine iq (fun h1=>?_) (fun h1=>?_)
   ·walk_at "w";refine ⟨b,rfl,B3,fun r4 mv pt lk H4 P4 l6 D fm fp fl B4 u4=>?_⟩;walk_at "w";refine cu fun t H5 s5 g5=>?_
    exact k t r4 4 0 13 mv pt lk H5 g5 ((P4.weak fun q h=>u03.none B3 h).same s5) D (sf (by decide) jE (by decide) fm fp fl) (Ac (n0:=8) (by decide) (by decide) D.n8 (by decide) fm fp (by decide)) (.inl ⟨by decide,by decide,by decide,by decide,by decide,fm,fp,aj (aA _ (show mv.length+4<=12 by have:=D.n8;lia)) (by decide)⟩) (by decide) (by decide) (B4.same s5) ((u03.trans u4).same s5)
   ·walk_at "w";refine ⟨b,3,rfl,B3,by decide,by decide,fun v3 H4 v30 v31 B4 u4=>?_⟩;obtain ⟨v3,rfl⟩:=cn v30;have u04:=u03.trans u4;walk_at "w";rw[show ((6:Int)+(v3:Int))=((6+v3:Nat):Int) by lia];refine ⟨b,6+v3,rfl,B4,by lia,by lia,fun r4 mv pt lk H5 P5 lm _ _ D fm fp fl B5 u5=>?_⟩;walk_at "w";refine cu fun t H6 s6 g6=>?_
    exact k t r4 4 0 4 mv pt lk H6 g6 ((P5.weak fun q h=>u04.none B4 h).same s6) D (sf (by decide) jE (by decide) fm fp fl) (Ac (n0:=8) (by decide) (by decide) D.n8 (by decide) fm fp (by decide)) (.inl ⟨by decide,by decide,by decide,by decide,by decide,(fun xs hx x hx'=>(fm xs hx x hx').mono (by decide)),(fun xs hx x hx'=>(fp xs hx x hx').mono (by decide)),aj (aA _ (show mv.length+4<=12 by have:=D.n8;lia)) (by decide)⟩) (by decide) (by decide) (B5.same s6) ((u04.trans u5).same s6)
  ·obtain ⟨c,hc,hc20,hcM⟩:∃c:Nat,max w 6<=2^c/\c<=20/\c*((n+i+o)*n)<=800/\(9 < w->c=20/\(n+i+o)*n<=20/\n<=2):=by
    have m1:(n+i+o)*n<=13*5:=aF (by lia) n5;rcases hw with rfl | rfl | ⟨rfl,n2⟩
    ·exact ⟨4,by decide,by decide,by lia,fun z=>by lia⟩
    ·exact ⟨4,by decide,by decide,by lia,fun z=>by lia⟩
    ·have m2:(n+i+o)*n<=10*2:=aF (by lia) n2;exact ⟨20,by decide,by decide,by lia,fun _=>⟨rfl,by lia,n2⟩⟩
   obtain ⟨hcM,hbig⟩:=hcM;walk_at "w";refine ⟨b,n,i,o,w,c,rfl,B2,by lia,i4,o4,by lia,by lia,hc,hc20,hcM,fun r4 mv pt lk H4 P4 lm lp ll D PF B4 u4=>?_⟩;have hmin:(if (1000:Int) < (w:Int) then (1000:Int) else (w:Int))=((min w 1000:Nat):Int):=by split <;> lia
   have PG:=PF;obtain ⟨M,V1,M0,fm,fp,fl,hcs⟩:=PF.n
   obtain ⟨a',c',KF,SF⟩:∃a' c',vA mv pt a' c'/\JH mv pt lk:=by
    rcases hcs with ⟨w9,rfl,rfl⟩ | ⟨w9,M1,rfl⟩
    ·exact ⟨12,16,Ac (n0:=5) (by decide) (by decide) (by lia) (by decide) fm fp (by decide),sf (by decide) (aj (show 2520<=2^12 by decide) (au (by decide) (by decide))) (by decide) fm fp fl⟩
    ·obtain ⟨rfl,e1,e2⟩:=hbig w9;have M4:M<=2^400:=aj M1 (au (by decide) (by lia));exact ⟨400,32,Ac (n0:=2) M0 M4 (by lia) (by decide) fm fp (by decide),sf M0 M4 (by decide) fm fp fl⟩
   have RG:Rg mv pt (min w 1000):=by
    obtain ⟨M1,M2,M3,V1,a1,a2,a3,f1,f2,f3,hc'⟩:=PG;rcases hc' with ⟨w9,rfl,rfl,_,rfl⟩ | ⟨w9,b1,b2,_,rfl⟩
    ·exact .inr (.inl ⟨by lia,by lia,by decide,by decide,by decide,by decide,f1,f2,aj (aA _ (show mv.length+4<=9 by lia)) (by decide)⟩)
    ·obtain ⟨rfl,e1,e2⟩:=hbig w9;have q1:n*n<=2*2:=aF e2 e2;have q2:i*n<=4*2:=aF i4 e2;have w6:w=1000000:=by lia
     exact .inr (.inr ⟨by lia,by lia,M1,M2,a1,a2,aj b1 (au (by decide) (by lia)),aj b2 (au (by decide) (by lia)),f1,f2,aj (aA _ (show mv.length+4<=6 by lia)) (by decide)⟩)
   walk_at "w";refine cu fun t H5 s5 g5=>?_
   rw[hmin] at g5;exact k t r4 (min w 1000) a' c' mv pt lk H5 g5 ((P4.weak fun q h=>u02.none B2 h).same s5) D SF KF RG (by lia) (by lia) (B4.same s5) ((u02.trans u4).same s5)
theorem C2:bx ["thing","at","most"] ["thing","at","most"] (ax jN):=by walk_at "d"
theorem sW (T:Txt K mg Z):cN P w K mg base gK 1 Z.qS Z.qi ["thing","at","most"] L8:=by
 refine T.nK.ok C2 (fun vs H Q E h=>?_) (fun cdv A outer s H vs Q E hr h=>?_)
 ·obtain ⟨p,xs,a,m,rfl,gx,hm,k⟩:=h;rfl
 ·obtain ⟨p,xs,a,m,rfl,gx,hm,k⟩:=h
  refine ⟨_,(aw (dc (jH (jo (yQ rfl T.isinstance PyProof.Rows.boot_list T.list (pv 0)))) (aB KE) bZ)
   (aB (dc (bH wL (bJ bu (by rfl) T.len aV (aa (pv 0) ai)) (pv 2) (bM _)) (aB KE) bZ))),?_⟩
  refine aS (σ:=[some (.ref p),some (.int a),some (.int m)]) rfl ?_;walk_at "w";refine ⟨_,_,.lst gx,rfl,?_⟩;walk_at "w";refine ⟨_,_,rfl,.inl (bV.of gx),?_⟩;walk_at "w";rw[decide_eq_false (show ¬m < (xs.length:Int) by lia)];walk_at "w";exact k
theorem Em:bx ["thing"] ["thing"] (ax lh):=by walk_at "d"
theorem zx (T:Txt K mg Z):cN P w K mg base gK 1 Z.tU Z.tE ["thing"] Iu:=by
 refine T.uh.ok Em (fun vs H Q E h=>?_) (fun cdv A outer s H vs Q E hr h=>?_)
 ·obtain ⟨i,rfl,k⟩:=h;rfl
 ·obtain ⟨i,rfl,k⟩:=h;refine ⟨_,(aB (aX (AS (yQ rfl T.isinstance PyProof.Rows.boot_int T.int (pv 0)) (AQ (O5 (yQ rfl T.isinstance PyProof.Rows.boot_bool T.bool (pv 0))))))),?_⟩;refine aS (σ:=[some (.int i)]) rfl ?_;walk_at "w";refine ⟨_,_,.int i,rfl,?_⟩;walk_at "w";refine ⟨_,_,.int i,rfl,?_⟩;walk_at "w";exact k
theorem ia:bx ["one","other","rest"] ["one","other"] (ax eQ):=by walk_at "d"
theorem kz (T:Txt K mg Z):cN P w K mg base gK 1 Z.jd Z.i5 ["one","other"] Qo:=by
 refine T.fZ.ok ia (fun vs H Q E h=>?_) (fun cdv A outer s H vs Q E hr h=>?_)
 ·obtain ⟨a,b,rfl,k⟩:=h;rfl
 ·obtain ⟨a,b,rfl,k⟩:=h
  refine ⟨_,(aw (AJ PassesOwn.never (bH zv (pv 1) ak (bM _))
    (aw (bo (i:=2) ia.nd rfl (Or.inl rfl) (bN MZ (pv 0) (pv 1)))
   (aw (bo (i:=0) ia.nd rfl (Or.inl rfl) (pv 1))
   (aB (bo (i:=1) ia.nd rfl (Or.inl rfl) (pv 2))))))
   (aB (aX (bJ yj (by rfl) T.abs PyProof.Rows.boot_abs (aa (pv 0) ai))))),?_⟩
  refine aS (σ:=[some (.int a),some (.int b),none]) rfl ?_;walk_at "w";refine CQ (fun σ' H'=>∃(u v:Int) (r:Option V),σ'=[some (.int u),some (.int v),r]/\H'=H/\Int.gcd u v=Int.gcd a b) (fun σ' _=>match σ' with | [_,some (.int v),_]=>v.natAbs | _=>0) ⟨a,b,none,rfl,rfl,rfl⟩ ?_;rintro σ' H' ⟨u,v,r,rfl,rfl,hg⟩;walk_at "w";refine iq (fun h=>?_) (fun h=>?_)
  ·have hv:v≠0:=fun z=>by subst z;simp at h
   walk_at "w";refine gG (show v≠0 from hv) ?_;walk_at "w";exact ⟨⟨v,u.fmod v,_,rfl,rfl,(Lj u v).trans hg⟩,Nh u v hv⟩
  ·have hv:v=0:=by
    by_cases z:v=0
    ·exact z
    ·exfalso;apply h;simp [z]
   subst hv;walk_at "w"
   have e:(if u < 0 then -u else u)=g a b:=by
    unfold g;rw[<- hg,Int.gcd_zero_right]
    split <;> lia
   rw[e];exact k
theorem C5:bx ["thing"] ["thing"] (ax jQ):=by walk_at "d"
theorem Dl (T:Txt K mg Z):cN P w K mg base gK 2 Z.qV Z.qr ["thing"] (IG K):=by
 refine T.vD.ok C5 (fun vs H Q E h=>?_) (fun cdv A outer s H vs Q E hr h=>?_)
 ·obtain ⟨x,n,rfl,⟨p,rfl,hp⟩,hn,k⟩:=h;rfl
 ·obtain ⟨x,n,rfl,⟨p,rfl,hp⟩,hn,k⟩:=h
  refine ⟨_,(aw (dc (PW.pt (uR (jH (jo (Aa rfl T.isinstance PyProof.Rows.boot_tuple T.tuple (pv 0)))) (pH (bH zv (bJ bu (by rfl) T.len aV (aa (pv 0) ai)) ak (bM _))))) (aB (aX sA)) bZ)
   (aw (dc (PW.pt (uR (jH (jo (cL (zx T) hr T.vb T.uh.kp T.xB (aa (aW b8 (pv 0) ak) ai)))) (pH (jH (jo (cL (zx T) hr T.vb T.uh.kp T.xB (aa (aW b8 (pv 0) ak) ai))))))) (aB (aX sA)) bZ)
   (aB (aX (AS (iY Ck (aW b8 (pv 0) ak) ak (bM _)) (AQ (iY eP (cL (kz T) hr T.ib T.fZ.kp T.jc (aa (aW b8 (pv 0) ak) (aa (aW b8 (pv 0) ak) ai))) ak (bM _)))))))),?_⟩
  refine aS (σ:=[some (.ref p)]) rfl ?_;obtain ⟨hb,hg,s1,s2⟩:=hn;walk_at "w";refine .inr ⟨p,_,_,rfl,hp,rfl,?_⟩;walk_at "w";refine ⟨_,_,rfl,.inr hp,?_⟩;walk_at "w"
  try refine Nb ?_
  walk_at "w";refine ⟨n.1,rfl,?_⟩;walk_at "w";refine ⟨n.2,rfl,?_⟩;walk_at "w";rw[decide_eq_true (show (1:Int)<=n.2 by lia)];walk_at "w";refine ⟨n.1,n.2,rfl,?_⟩;walk_at "w";have e:g n.1 n.2=1:=by unfold g;rw[hg];rfl
  rw[e,decide_eq_true rfl];exact k _ (aL.refl _)
theorem IQ:bx ["thing","many"] ["thing","many"] (ax so):=by walk_at "d"
theorem Je (T:Txt K mg Z):cN P w K mg base gK 3 Z.yv Z.yh ["thing","many"] (Cf K):=by
 refine T.BB.ok IQ (fun vs H Q E h=>?_) (fun cdv A outer s H vs Q E hr h=>?_)
 ·obtain ⟨p,ns,rfl,hp,hl,hn,k⟩:=h;rfl
 ·obtain ⟨p,ns,rfl,hp,hl,hn,k⟩:=h
  refine ⟨_,(aw (dc (PW.pt (uR (jH (jo (yQ rfl T.isinstance PyProof.Rows.boot_list T.list (pv 0)))) (pH (bH zv (bJ bu (by rfl) T.len aV (aa (pv 0) ai)) (pv 1) (bM _))))) (aB (aX sA)) bZ)
   (aB (aX (bJ (Br rfl) (by rfl) T.all PyProof.Rows.boot_all (aa (cG ["value"] [] [] (cQ (pv 0)) (fun _=>(aO (i:=0) (show List.Nodup (α:=PySem.Str) ["value"] by decide +kernel))) (fun _=>cJ) (fun _=>(cL (Dl T) hr T.xR T.vD.kp T.zE (aa (pv 0) ai)))) ai))))),?_⟩
  refine aS (σ:=[some (.ref p),some (.int ns.length)]) rfl ?_;obtain ⟨xs,gx,qx⟩:=id hp;have lx:=qx.length;walk_at "w";refine ⟨_,_,.lst gx,rfl,?_⟩;walk_at "w";refine ⟨_,_,rfl,.inl (bV.of gx),?_⟩;walk_at "w";rw[show ((xs.length:Nat):Int)=(ns.length:Nat) by rw[lx],decide_eq_true rfl];walk_at "w";refine ⟨⟨_,bV.of gx⟩,?_⟩;refine fY (K:=K) (xs:=xs) (fun i ys H'=>aL H H'/\ys=List.replicate i (.bl true)) (aY (bO (by lia))) ⟨aL.refl _,rfl⟩ (fun i ys H' _ ⟨s,_⟩=>bV.of (s _ _ gx)) ?_ ?_
  ·rintro i x ys H' hx hlen ⟨s,rfl⟩;obtain ⟨n,en,z⟩:=cF qx hx;walk_at "w";exact ⟨x,n,rfl,s.num z,hn n (ay en),fun H2 s2=>⟨s.trans s2,by rw[CM]⟩⟩
  ·rintro ys H' hy ⟨s,rfl⟩ l hl';walk_at "w";refine ⟨l,List.replicate xs.length true,rfl,bV.of (by rw[aM];simp),?_⟩;have e4:(List.replicate xs.length true).all id=true:=by simp
   rw[e4];exact k _ (s.trans (aL.new hl'))
theorem pF:bx ["things","wide","place","thing"] ["things","wide"] (ax gW):=by walk_at "d"
theorem pL (T:Txt K mg Z):cN P w K mg base gK 4 Z.mQ Z.mC ["things","wide"] (Mg K):=by
 refine T.jx.ok pF (fun vs H Q E h=>?_) (fun cdv A outer s H vs Q E hr h=>?_)
 ·obtain ⟨p,H0,rows,w,rfl,hp,hl,hw,hn,k⟩:=h;rfl
 ·obtain ⟨p,H0,rows,w,rfl,hp,hl,hw,hn,k⟩:=h
  refine ⟨_,(aw (d7 PassesOwn.never rfl (MV rfl T.enumerate (aa (pv 0) ai)) (uS rfl (cI (aO (i:=2) pF.nd) (cI (aO (i:=3) pF.nd) iX)))
    (aB (dc (jH (jo (cL (Je T) hr T.Cp T.BB.kp T.E3 (aa (pv 3) (aa (pv 1) ai))))) (aB KE) bZ)))
   (aB (aX (cG ["row"] [] [] (cQ (pv 0)) (fun _=>(aO (i:=0) (show List.Nodup (α:=PySem.Str) ["row"] by decide +kernel))) (fun _=>cJ) (fun _=>(eB (fM K (by rfl)) (by rfl) T.list PyProof.Rows.boot_list (aa (pv 0) ai))))))),?_⟩
  refine aS (σ:=[some (.ref p),some (.int w),none,none]) rfl ?_;obtain ⟨xs,gx,qx,_⟩:=id hp;walk_at "w";refine ⟨⟨_,bV.of gx⟩,?_⟩;refine Lo (K:=K) (l:=p) (xs:=xs) (fun i σ' H'=>aL H H'/\∃x y,σ'=[some (.ref p),some (.int w),x,y]) ⟨aL.refl _,none,none,rfl⟩ (fun i σ' H' _ ⟨s,_⟩=>bV.of (s _ _ gx)) ?_ ?_
  ·rintro i x σ' H' t hx ⟨s,x1,y1,rfl⟩ ht;obtain ⟨qs,eq,q,rfl,_,Rq⟩:=cF qx hx;have hm:=ay eq;have st:aL H' (upd H' t (.tup [.int i,.ref q])):=aL.new ht;have gt:(upd H' t (.tup [.int i,.ref q])) t=some (.tup [.int i,.ref q]):=aM;have s2:=s.trans st;generalize upd H' t (.tup [.int i,.ref q])=H2 at st gt s2 ⊢;have lq:(qs.map nm).length=w:=by rw[ar];exact (hn qs hm).1
   walk_at "w";refine ⟨q,_,by rw[lq],(Rq.same s2).rowK,by rw[lq];exact hw,fun n hn'=>?_,fun H3 s3=>?_⟩
   ·obtain ⟨y,hy,rfl⟩:=aD.mp hn';exact (hn qs hm).2 y hy
   walk_at "w";exact ⟨s2.trans s3,_,_,rfl⟩
  ·rintro σ' H' ⟨s,x1,y1,rfl⟩;walk_at "w";refine ⟨⟨_,bV.of (s _ _ gx)⟩,?_⟩;refine fB (K:=K) (F:=dB K H0) (dB K H) id (s _ _ gx) (Paired.imp' (fun _ _ z=>z.same s) qx) hl (fun a b=>a.same b) (fun a b=>a.same b) ?_ ?_
   ·rintro i ns x H2 NY NN en s2 ⟨u,rfl,_,zs,gz,qz⟩ k1;walk_at "w";refine ⟨u,zs,rfl,.inl (bV.of gz),fun l1 hl1=>?_⟩;exact k1 _ _ (aL.new hl1) ⟨l1,rfl,s.none (s2.none hl1),zs,aM,Paired.imp' (fun _ _ z=>z.same (aL.new hl1)) qz⟩
   ·rintro ys' H2 r hr s2 g pr nx;rw[uF] at pr nx;exact k r H2 (s.none hr) (s.trans s2) ⟨ys',g,pr,pN nx⟩
theorem xl:bx ["self","move","put","look"] ["self","move","put","look"] (ax eo):=by walk_at "d"
theorem xt (T:Txt K mg Z):cN P w K mg base gK 5 Z.ij Z.ie ["self","move","put","look"] (Md K Z.a_System):=by
 refine T.rA.ok xl (fun vs H Q E h=>?_) (fun cdv A outer s H vs Q E hr h=>?_)
 ·obtain ⟨x,dx,p,q,r,Hb,H0,H1,H2,mv,pt,lk,rfl,nx,ndx,nex,rfl,gp,gq,gr,D,om,op,ol,k⟩:=h;rfl
 ·obtain ⟨x,dx,p,q,r,Hb,H0,H1,H2,mv,pt,lk,rfl,nx,ndx,nex,rfl,gp,gq,gr,D,om,op,ol,k⟩:=h
  refine ⟨_,(aw (md (cL (sW T) hr T.og T.nK.kp T.qM (aa (pv 1) (aa ak (aa (xM (v:=.int 8) rfl T.mg_MOST_STATES ⟨_,rfl⟩) ai)))))
   (aw (yN (pv 0) (cL (pL T) hr T.kD T.jx.kp T.mK (aa (pv 1) (aa (bJ bu (by rfl) T.len aV (aa (pv 1) ai)) ai))) rfl)
   (aw (yN (pv 0) (bJ bu (by rfl) T.len aV (aa (kx (pv 0) rfl) ai)) rfl)
   (aw (md (cL (sW T) hr T.og T.nK.kp T.qM (aa (pv 2) (aa ak (aa (xM (v:=.int 4) rfl T.mg_MOST_PUTS ⟨_,rfl⟩) ai)))))
   (aw (yN (pv 0) (cL (pL T) hr T.kD T.jx.kp T.mK (aa (pv 2) (aa (kx (pv 0) rfl) ai))) rfl)
   (aw (yN (pv 0) (bJ bu (by rfl) T.len aV (aa (kx (pv 0) rfl) ai)) rfl)
   (aw (md (cL (sW T) hr T.og T.nK.kp T.qM (aa (pv 3) (aa ak (aa (xM (v:=.int 4) rfl T.mg_MOST_LOOKS ⟨_,rfl⟩) ai)))))
   (aw (yN (pv 0) (cL (pL T) hr T.kD T.jx.kp T.mK (aa (pv 3) (aa (kx (pv 0) rfl) ai))) rfl)
   (aB (yN (pv 0) (bJ bu (by rfl) T.len aV (aa (kx (pv 0) rfl) ai)) rfl)))))))))),?_⟩
  refine aS (σ:=[some (.ref x),some (.ref p),some (.ref q),some (.ref r)]) rfl ?_
  have s0:aL Hb (upd (upd Hb dx (.own x)) x (.ins Z.a_System dx [])):=fun b o e=>by
   rw[bI (fK e nx),bI (fK e ndx)];exact e
  have hx:(upd (upd Hb dx (.own x)) x (.ins Z.a_System dx [])) x=some (.ins Z.a_System dx []):=aM;have back:∀{b},(upd (upd Hb dx (.own x)) x (.ins Z.a_System dx [])) b=none->Hb b=none:=fun h=>s0.none h
  generalize upd (upd Hb dx (.own x)) x (.ins Z.a_System dx [])=Ha at s0 hx back ⊢;obtain ⟨xs,gx,qx,_⟩:=id gp;obtain ⟨ys,gy,qy,_⟩:=id gq;obtain ⟨zs,gz,qz,_⟩:=id gr;have lx:=qx.length;have ly:=qy.length;have lz:=qz.length;have d1:=D.n8;have d2:=D.i4;have d3:=D.o4;walk_at "w";refine ⟨p,xs,0,8,rfl,s0 _ _ gx,by lia,?_⟩;walk_at "w";refine ⟨_,_,rfl,.inl (bV.of (s0 _ _ gx)),?_⟩;walk_at "w";refine ⟨p,H0,mv,mv.length,by rw[lx],gp.same s0,by lia,by lia,fun ws hw=>⟨D.mw ws hw,om ws hw⟩,fun a H3 na s3 Ga=>?_⟩;have hx3:=s3 _ _ hx;walk_at "w";refine ⟨x,Z.a_System,dx,_,rfl,hx3,T.cl_System,T.na_move,(by show 0 < 1000;decide),?_⟩;have e3:D5 x H3 (upd H3 x (.ins Z.a_System dx (cy "move" (.ref a) []))):=D5.upd;have i3:xg H3 x:=⟨_,_,_,hx3⟩;have hx4:(upd H3 x (.ins Z.a_System dx (cy "move" (.ref a) []))) x=some (.ins Z.a_System dx (cy "move" (.ref a) [])):=aM;have Ga4:=Ga.exc e3 i3;have k4:aL Hb (upd H3 x (.ins Z.a_System dx (cy "move" (.ref a) []))):=(s0.trans s3).after nx;generalize upd H3 x (.ins Z.a_System dx (cy "move" (.ref a) []))=H4 at e3 hx4 Ga4 k4 ⊢;walk_at "w";refine ⟨x,Z.a_System,dx,_,_,rfl,hx4,T.cl_System,T.na_move,(by rw[bK,if_pos rfl]),?_⟩;obtain ⟨as,ga,qa,_⟩:=id Ga4;have la:=qa.length;walk_at "w";refine ⟨_,_,rfl,.inl (bV.of ga),?_⟩;walk_at "w";refine ⟨x,Z.a_System,dx,_,rfl,hx4,T.cl_System,T.na_states,bG eH (by show 1 < 1000;decide),?_⟩;rw[show ((as.length:Nat):Int)=((mv.length:Nat):Int) by rw[la]];have e4:D5 x H4 (upd H4 x (.ins Z.a_System dx (cy "states" (.int mv.length) (cy "move" (.ref a) [])))):=D5.upd;have i4:xg H4 x:=⟨_,_,_,hx4⟩;have hx5:(upd H4 x (.ins Z.a_System dx (cy "states" (.int mv.length) (cy "move" (.ref a) [])))) x=some (.ins Z.a_System dx (cy "states" (.int mv.length) (cy "move" (.ref a) []))):=aM;have Ga5:=Ga4.exc e4 i4;have k5:aL Hb (upd H4 x (.ins Z.a_System dx (cy "states" (.int mv.length) (cy "move" (.ref a) [])))):=k4.after nx;generalize upd H4 x (.ins Z.a_System dx (cy "states" (.int mv.length) (cy "move" (.ref a) [])))=H5 at e4 hx5 Ga5 k5 ⊢;clear e3 e4 i3 i4 hx4 Ga4 ga qa;walk_at "w";refine ⟨q,ys,1,4,rfl,k5 _ _ gy,by lia,?_⟩;walk_at "w";refine ⟨x,Z.a_System,dx,_,_,rfl,hx5,T.cl_System,T.na_states,(by rw[bK,if_pos rfl]),?_⟩;walk_at "w";refine ⟨q,H1,pt,mv.length,rfl,gq.same k5,by lia,by lia,fun ws hw=>⟨D.pw ws hw,op ws hw⟩,fun b H6 nb s6 Gb=>?_⟩;have hx6:=s6 _ _ hx5;have i6:xg H6 x:=⟨_,_,_,hx6⟩;walk_at "w";refine ⟨x,Z.a_System,dx,_,rfl,hx6,T.cl_System,T.na_put,bG eH (bG (dR eH) (by show 2 < 1000;decide)),?_⟩;have e6:D5 x H6 (upd H6 x (.ins Z.a_System dx (cy "put" (.ref b) (cy "states" (.int mv.length) (cy "move" (.ref a) []))))):=D5.upd;have hx7:(upd H6 x (.ins Z.a_System dx (cy "put" (.ref b) (cy "states" (.int mv.length) (cy "move" (.ref a) []))))) x=some (.ins Z.a_System dx (cy "put" (.ref b) (cy "states" (.int mv.length) (cy "move" (.ref a) [])))):=aM;have Ga7:=(Ga5.same s6).exc e6 i6;have Gb7:=(Gb.weak k5).exc e6 i6;have k7:aL Hb (upd H6 x (.ins Z.a_System dx (cy "put" (.ref b) (cy "states" (.int mv.length) (cy "move" (.ref a) []))))):=(k5.trans s6).after nx;generalize upd H6 x (.ins Z.a_System dx (cy "put" (.ref b) (cy "states" (.int mv.length) (cy "move" (.ref a) []))))=H7 at e6 hx7 Ga7 Gb7 k7 ⊢;obtain ⟨bs,gb,qb,_⟩:=id Gb7;have lb:=qb.length;walk_at "w";refine ⟨x,Z.a_System,dx,_,_,rfl,hx7,T.cl_System,T.na_put,(by rw[bK,if_pos rfl]),?_⟩;walk_at "w";refine ⟨_,_,rfl,.inl (bV.of gb),?_⟩;walk_at "w";refine ⟨x,Z.a_System,dx,_,rfl,hx7,T.cl_System,T.na_ins,bG eH (bG (dR (aj eH (dR eH))) (by show 3 < 1000;decide)),?_⟩;rw[show ((bs.length:Nat):Int)=((pt.length:Nat):Int) by rw[lb]];have i7:xg H7 x:=⟨_,_,_,hx7⟩;have e7:D5 x H7 (upd H7 x (.ins Z.a_System dx (cy "ins" (.int pt.length) (cy "put" (.ref b) (cy "states" (.int mv.length) (cy "move" (.ref a) [])))))):=D5.upd;have hx8:(upd H7 x (.ins Z.a_System dx (cy "ins" (.int pt.length) (cy "put" (.ref b) (cy "states" (.int mv.length) (cy "move" (.ref a) [])))))) x=some (.ins Z.a_System dx (cy "ins" (.int pt.length) (cy "put" (.ref b) (cy "states" (.int mv.length) (cy "move" (.ref a) []))))):=aM;have Ga8:=Ga7.exc e7 i7;have Gb8:=Gb7.exc e7 i7;have k8:aL Hb (upd H7 x (.ins Z.a_System dx (cy "ins" (.int pt.length) (cy "put" (.ref b) (cy "states" (.int mv.length) (cy "move" (.ref a) [])))))):=k7.after nx;generalize upd H7 x (.ins Z.a_System dx (cy "ins" (.int pt.length) (cy "put" (.ref b) (cy "states" (.int mv.length) (cy "move" (.ref a) [])))))=H8 at e7 hx8 Ga8 Gb8 k8 ⊢;clear e6 e7 i6 i7 hx7 Ga7 Gb7 gb qb;walk_at "w";refine ⟨r,zs,2,4,rfl,k8 _ _ gz,by lia,?_⟩;walk_at "w";refine ⟨x,Z.a_System,dx,_,_,rfl,hx8,T.cl_System,T.na_states,(by rw[bK,if_neg (by decide +kernel),bK,if_neg (by decide +kernel),bK,if_pos rfl]),?_⟩;walk_at "w";refine ⟨r,H2,lk,mv.length,rfl,gr.same k8,by lia,by lia,fun ws hw=>⟨D.lw ws hw,ol ws hw⟩,fun c H9 nc s9 Gc=>?_⟩;have hx9:=s9 _ _ hx8;have i9:xg H9 x:=⟨_,_,_,hx9⟩;walk_at "w";refine ⟨x,Z.a_System,dx,_,rfl,hx9,T.cl_System,T.na_look,bG eH (bG (dR (aj eH (dR (aj eH (dR eH))))) (by show 4 < 1000;decide)),?_⟩;have e9:D5 x H9 (upd H9 x (.ins Z.a_System dx (cy "look" (.ref c) (cy "ins" (.int pt.length) (cy "put" (.ref b) (cy "states" (.int mv.length) (cy "move" (.ref a) []))))))):=D5.upd;have hxA:(upd H9 x (.ins Z.a_System dx (cy "look" (.ref c) (cy "ins" (.int pt.length) (cy "put" (.ref b) (cy "states" (.int mv.length) (cy "move" (.ref a) []))))))) x=some (.ins Z.a_System dx (cy "look" (.ref c) (cy "ins" (.int pt.length) (cy "put" (.ref b) (cy "states" (.int mv.length) (cy "move" (.ref a) [])))))):=aM;have GaA:=(Ga8.same s9).exc e9 i9;have GbA:=(Gb8.same s9).exc e9 i9;have GcA:=(Gc.weak k8).exc e9 i9;have kA:aL Hb (upd H9 x (.ins Z.a_System dx (cy "look" (.ref c) (cy "ins" (.int pt.length) (cy "put" (.ref b) (cy "states" (.int mv.length) (cy "move" (.ref a) []))))))):=(k8.trans s9).after nx;generalize upd H9 x (.ins Z.a_System dx (cy "look" (.ref c) (cy "ins" (.int pt.length) (cy "put" (.ref b) (cy "states" (.int mv.length) (cy "move" (.ref a) []))))))=HA at e9 hxA GaA GbA GcA kA ⊢;obtain ⟨cs,gc,qc,_⟩:=id GcA;have lc:=qc.length;walk_at "w";refine ⟨x,Z.a_System,dx,_,_,rfl,hxA,T.cl_System,T.na_look,(by rw[bK,if_pos rfl]),?_⟩;walk_at "w";refine ⟨_,_,rfl,.inl (bV.of gc),?_⟩;walk_at "w";refine ⟨x,Z.a_System,dx,_,rfl,hxA,T.cl_System,T.na_outs,bG eH (bG (dR (aj eH (dR (aj eH (dR (aj eH (dR eH))))))) (by show 5 < 1000;decide)),?_⟩;rw[show ((cs.length:Nat):Int)=((lk.length:Nat):Int) by rw[lc]];have iA:xg HA x:=⟨_,_,_,hxA⟩;exact k _ (kA.after nx) ⟨dx,a,b,c,aM,back na,k5.none nb,k8.none nc,(GaA.exc D5.upd iA).weak s0,GbA.exc D5.upd iA,GcA.exc D5.upd iA⟩
theorem AG:bx ["_law_grid"] ["_law_grid"] (ax hZ):=by walk_at "d"
theorem pM (T:Txt K mg Z):cN P w K mg base gK 1 Z.mV Z.mH ["_law_grid"] (Fv K):=by
 refine T.jy.ok AG (fun vs H Q E h=>?_) (fun cdv A outer s H vs Q E hr h=>?_)
 ·obtain ⟨p,H0,rows,rfl,hp,hl,hm,k⟩:=h;rfl
 ·obtain ⟨p,H0,rows,rfl,hp,hl,hm,k⟩:=h;refine ⟨_,(aB (aX (cG ["_law_row_here"] [] [] (cQ (pv 0)) (fun _=>(aO (i:=0) (show List.Nodup (α:=PySem.Str) ["_law_row_here"] by decide +kernel))) (fun _=>cJ) (fun _=>(eB (fM K (by rfl)) (by rfl) T.list PyProof.Rows.boot_list (aa (pv 0) ai)))))),?_⟩;refine aS (σ:=[some (.ref p)]) rfl ?_;obtain ⟨xs,gx,qx,_⟩:=id hp;walk_at "w";refine ⟨⟨_,bV.of gx⟩,?_⟩;refine fB (K:=K) (F:=dB K H0) (dB K H) id gx qx hl (fun a b=>a.same b) (fun a b=>a.same b) ?_ ?_
  ·rintro i ns x H' NY NN en s ⟨u,rfl,_,zs,gz,qz⟩ k1;walk_at "w";refine ⟨u,zs,rfl,.inl (bV.of gz),fun l1 hl1=>?_⟩;exact k1 _ _ (aL.new hl1) ⟨l1,rfl,s.none hl1,zs,aM,Paired.imp' (fun _ _ z=>z.same (aL.new hl1)) qz⟩
  ·rintro ys' H' r hr s g pr nx;rw[uF] at pr nx;exact k r H' hr s ⟨ys',g,pr,pN nx⟩
theorem Dc:bx ["_law_parts_here"] ["_law_parts_here"] (ax jY):=by walk_at "d"
theorem Dq (T:Txt K mg Z):cN P w K mg base gK 7 Z.rj Z.qH ["_law_parts_here"] (Fn K Z.a_System):=by
 refine T.vH.ok Dc (fun vs H Q E h=>?_) (fun cdv A outer s H vs Q E hr h=>?_)
 ·obtain ⟨r,H0,mv,pt,lk,rfl,PQ,D,F,k⟩:=h;rfl
 ·obtain ⟨r,H0,mv,pt,lk,rfl,PQ,D,F,k⟩:=h;refine ⟨_,(aB (aX (MX T.mk_System (xt T) (hr.mono (by decide)) rfl T.mg_System T.qR .nil KL (aa (cL (pM T) hr T.kG T.jy.kp T.mL (aa (aW b8 (pv 0) ak) ai)) (aa (cL (pM T) hr T.kG T.jy.kp T.mL (aa (aW b8 (pv 0) ak) ai)) (aa (cL (pM T) hr T.kG T.jy.kp T.mL (aa (aW b8 (pv 0) ak) ai)) ai)))))),?_⟩;refine aS (σ:=[some (.ref r)]) rfl ?_;obtain ⟨m,p,l,g,n1,n2,n3,Gm,Gp,Gl⟩:=id PQ;have d1:=D.n8;have d2:=D.i4;have d3:=D.o4;walk_at "w";refine ⟨m,H0,mv,rfl,Gm,by lia,fun xs hx=>by rw[D.mw xs hx];lia,fun a H1 na s1 Ga=>?_⟩;have g1:=s1 _ _ g;walk_at "w";refine ⟨p,H0,pt,rfl,Gp.same s1,by lia,fun xs hx=>by rw[D.pw xs hx];lia,fun b H2 nb s2 Gb=>?_⟩;have s12:=s1.trans s2;have g2:=s12 _ _ g;walk_at "w";refine ⟨l,H0,lk,rfl,Gl.same s12,by lia,fun xs hx=>by rw[D.lw xs hx];lia,fun c H3 nc s3 Gc=>?_⟩;have s13:=s12.trans s3;walk_at "w";intro x dx nx ndx nex;exact ⟨x,dx,a,b,c,H3,H,H1,H2,mv,pt,lk,rfl,nx,ndx,nex,rfl,(Ga.same s2).same s3,Gb.same s3,Gc,D,F.ok.1,F.ok.2.1,F.ok.2.2,fun H' s' S'=>⟨rfl,k x H' (s13.none nx) (s13.trans s') (S'.weak s13)⟩⟩
theorem lY:bx ["_law_bag_here","_law_parts_here","_law_bottoms","_law_row_here"] ["_law_bag_here","_law_parts_here"] (ax iP):=by walk_at "d"
theorem BQ (T:Txt K mg Z):cN P w K mg base gK 2 Z.oN Z.ow ["_law_bag_here","_law_parts_here"] (Iw K):=by
 refine T.uo.ok lY (fun vs H Q E h=>?_) (fun cdv A outer s H vs Q E hr h=>?_)
 ·obtain ⟨b,r,H0,mv,pt,lk,rfl,hB,nb,PQ,D,sz,k⟩:=h;rfl
 ·obtain ⟨b,r,H0,mv,pt,lk,rfl,hB,nb,PQ,D,sz,k⟩:=h
  refine ⟨_,(aw (bo (i:=2) lY.nd rfl (Or.inl rfl) (dJ (aa ak ai)))
   (aw (d7 PassesOwn.never rfl (cQ (bN ky (aW b8 (pv 1) ak) (aW b8 (pv 1) ak))) (aO (i:=3) lY.nd)
    (aB (bo (i:=2) lY.nd rfl (Or.inl rfl) (bN ky (pv 2) (cG ["_law_one"] [] [] (cQ (pv 3)) (fun _=>(aO (i:=0) (show List.Nodup (α:=PySem.Str) ["_law_one"] by decide +kernel))) (fun _=>cJ) (fun _=>(bN fv (aW (tx K (by rfl)) (pv 0) ak) (bN di (bN ju (bJ yj (by rfl) T.abs PyProof.Rows.boot_abs (aa (aW (tx K (by rfl)) (pv 0) ak) ai)) ak) ak))))))))
   (aw (dc (bH wL (bJ (Jz rfl) (by rfl) T.max PyProof.Rows.boot_max (aa (pv 2) ai)) ak (bM _)) (aB (aX (cL (bp T) hr T.aU T.bg.kp T.bw (aa (pv 0) (aa ak ai))))) bZ)
   (aw (dc (bH wL (bJ bu (by rfl) T.len aV (aa (aW b8 (pv 1) ak) ai)) ak (bM _)) (aB (aX (aW bL (dJ (aa (cL (bp T) hr T.aU T.bg.kp T.bw (aa (pv 0) (aa ak ai))) (aa (bJ bu (by rfl) T.len aV (aa (aW b8 (pv 1) ak) ai)) ai))) (cL (bp T) hr T.aU T.bg.kp T.bw (aa (pv 0) (aa ak ai)))))) bZ)
   (aw (dc (PW.pt (kv (bH wK (bJ bu (by rfl) T.len aV (aa (aW b8 (pv 1) ak) ai)) ak (bM _)) (ma (bH eP (cL (bp T) hr T.aU T.bg.kp T.bw (aa (pv 0) (aa ak ai))) ak (bM _))))) (aB (aX (cL (bp T) hr T.aU T.bg.kp T.bw (aa (pv 0) (aa ak ai))))) bZ)
   (aB (aX (cL (bp T) hr T.aU T.bg.kp T.bw (aa (pv 0) (aa (bN fv ak (bJ bu (by rfl) T.len aV (aa (aW b8 (pv 1) ak) ai))) ai)))))))))),?_⟩
  refine aS (σ:=[some (.ref b),some (.ref r),none,none]) rfl ?_;have d8:=D.n8;have i4:=D.i4;obtain ⟨m,p,l,g,n1,n2,n3,Gm,Gp,Gl⟩:=id PQ;obtain ⟨um,gm,qm,_⟩:=id Gm;obtain ⟨up,gp,qp,_⟩:=id Gp;have lum:=qm.length;have lup:=qp.length;walk_at "w";refine dg fun bl0 H1 s1 nbl g1=>?_
  have g':=s1 _ _ g;walk_at "w";refine kr (s1 _ _ gm) (s1 _ _ gp) (aY (bO (by lia))) fun cc H2 s2 nc gc=>?_
  have s02:=s1.trans s2;have qc:Paired (dB K H0 H2) (mv++pt) (um++up):=Paired.imp' (fun _ _ z=>dB.same z s02) (b6 qm qp)
  have wc:∀xs∈mv++pt,xs.length=mv.length:=fun xs hx=>by
   rcases az.mp hx with hx | hx
   ·exact D.mw xs hx
   ·exact D.pw xs hx
  have lc:(mv++pt).length=(um++up).length:=qc.length;rw[av,av] at lc;walk_at "w";refine ⟨⟨_,bV.of gc⟩,?_⟩;refine jv (K:=K) (a:=cc) (xs:=um++up) (fun i σ' H'=>aL H2 H'/\∃bl ns y,σ'=[some (.ref b),some (.ref r),some (.ref bl),y]/\H' bl=some (.lst (ns.map V.int))/\1<=ns.length/\ns.length<=1+i*8/\∀j xs,j < i->(mv++pt)[j]?=some xs->∀x∈xs,PU x∈ns) ⟨aL.refl _,bl0,[1],_,rfl,s2 _ _ g1,by decide,by decide,fun j xs h=>absurd h (fJ _)⟩ (fun i σ' H' _ ⟨e,_⟩=>bV.of (e _ _ gc)) ?_ ?_
  ·rintro i v σ' H' hv ⟨e,bl,ns,y,rfl,gb,b1,b2,hn⟩;obtain ⟨xs,exs,u,rfl,_,zs,gz,qz⟩:=cF qc hv;have mx:=ay exs;have wx:=wc xs mx;have hi:i < (um++up).length:=(aI.mp hv).1;rw[av] at hi;walk_at "w";refine ⟨⟨_,bV.of (e _ _ gz)⟩,?_⟩;refine fB (K:=K) (F:=cC K) (fun _ c x=>x=V.int (PU c)) id (e _ _ gz) (Paired.imp' (fun _ _ z=>z.same e) qz) (by lia) (fun a b=>a.same b) (fun a _=>a) ?_ ?_
   ·rintro j c x Ha NY NN ec sa ⟨pp,rfl,hp⟩ k1;have mc:=ay ec;have szc:=sz xs mx c mc;walk_at "w"
    have e1:(if (nm c).1 < 0 then -(nm c).1 else (nm c).1)=(c.num.natAbs:Int):=by
     show (if c.num < 0 then -c.num else c.num)=_
     split <;> lia
    have e2:(c.num.natAbs:Int).fdiv 1000=(c.num.natAbs:Int) / 1000:=cA _ (by decide);rw[e1];refine gG (show sP _ _ from ⟨by decide,bF (show (1000:Int).natAbs < 2^20 by decide) (au (by decide) (by decide))⟩) ?_;rw[e2];walk_at "w";exact k1 _ _ (aL.refl _) rfl
   rintro ys Hb cl hcl sb gcl prl _
   have ey:ys=(xs.map PU).map V.int:=by
    rw[uF] at prl;rw[wD];exact Cj prl
   have ly:=prl.length;rw[ar] at ly;have gbb:=sb _ _ gb;rw[ey] at gcl;walk_at "w";refine kr gbb gcl (aY (bO (by rw[ar,ar,ar];lia))) fun c2 Hc sc nc2 gc2=>?_
   rw[<- cV] at gc2;refine ⟨(e.trans sb).trans sc,c2,ns++xs.map PU,_,rfl,gc2,by rw[av];lia,by rw[av,ar];lia,fun j ys' hj ej x hx=>?_⟩;rcases cR j i with z | z
   ·exact dY _ (hn j ys' z ej x hx)
   ·have:j=i:=by lia
    subst this;rw[exs] at ej;cases ej;exact bC _ (aD.mpr ⟨x,hx,rfl⟩)
  ·rintro σ' H' ⟨e,bl,ns,y,rfl,gb,b1,b2,hn⟩;have e0:=s02.trans e;have B':=hB.same e0;have PQ':=PQ.same e0;obtain ⟨m',p',l',g2,_,_,_,Gm',_,_⟩:=id PQ'
   have em:m'=m:=by
    have:=e0 _ _ g;rw[this] at g2;cases g2;rfl
   subst em;obtain ⟨um',gm',qm',_⟩:=id Gm';have lum':=qm'.length;have u0:cT b H H':=e0.upto;walk_at "w";refine ⟨bl,ns,rfl,bV.of gb,by lia,fun M hM hmax=>?_⟩;walk_at "w";refine iq (fun h=>?_) (fun h=>?_)
   ·walk_at "w";refine ⟨b,4,rfl,B',by decide,by decide,fun v H3 v0 v1 B3 u3=>?_⟩;obtain ⟨v,rfl⟩:=cn v0;exact k v H3 ⟨by lia,.inl (by lia)⟩ B3 (u0.trans u3)
   ·have M9:M<=9:=by rw[decide_eq_true_eq] at h;lia
    have sm:∀xs∈mv++pt,∀x∈xs,x.den<=9/\x.num.natAbs < 1000:=fun xs hx x hx'=>by
     obtain ⟨j,hj,rfl⟩:=bS hx;have:=hn j _ (by rw[av,<- lum,<- lup];rw[av] at hj;exact hj) (ag hj) x hx';exact Nr (Int.le_trans (hmax _ this) M9)
    walk_at "w";refine ⟨_,_,rfl,.inl (bV.of gm'),?_⟩;rw[<- lum'];walk_at "w";refine iq (fun h1=>?_) (fun h1=>?_)
    ·have n5:5 < mv.length:=by have:=of_decide_eq_true h1;lia
     walk_at "w";refine ⟨b,4,rfl,B',by decide,by decide,fun v H3 v0 v1 B3 u3=>?_⟩;obtain ⟨v,rfl⟩:=cn v0;obtain ⟨m3,p3,l3,g3,_,_,_,Gm3,_,_⟩:=PQ'.upto u3 B' nb;obtain ⟨um3,gm3,qm3,_⟩:=id Gm3;have lum3:=qm3.length;walk_at "w";refine ⟨_,_,rfl,.inl (bV.of gm3),?_⟩;rw[<- lum3];walk_at "w";refine dg fun l4 H4 s4 n4 g4=>?_
     walk_at "w";refine ⟨b,2,rfl,B3.same s4,by decide,by decide,fun v2 H5 v20 v21 B5 u5=>?_⟩;have g5:=u5.other (fun z=>B3.at (by rw[<- z];exact n4)) g4;obtain ⟨x,ex,mx,_⟩:=nJ (xs:=[V.int (v:Int),V.int (mv.length:Int)]) v20 (by simpa using v21);walk_at "w";refine cB (bV.of g5) ex ?_;have u05:=(u0.trans (u3.same s4)).trans u5;simp only[aG,ba,or_false] at mx;rcases mx with rfl | rfl
     ·exact k v H5 ⟨by lia,.inl (by lia)⟩ B5 u05
     ·exact k mv.length H5 ⟨by lia,.inr ⟨sm,fun _=>ao _,fun _ _=>uE _⟩⟩ B5 u05
    ·have n5:mv.length<=5:=by rw[decide_eq_true_eq] at h1;lia
     walk_at "w";refine ⟨_,_,rfl,.inl (bV.of gm'),?_⟩;rw[<- lum'];have last:∀(Hx:Hp),ir Hx b->cT b H Hx->∀(v:Nat),v < 2+mv.length->Q (.int v) Hx:=fun Hx Bx ux v hv=>k v Hx ⟨by lia,.inr ⟨sm,fun z=>by lia,fun _ _=>by lia⟩⟩ Bx ux
     walk_at "w";refine iq (fun h2=>?_) (fun h2=>?_)
     ·have n3':mv.length < 3:=by have:=of_decide_eq_true h2;lia
      walk_at "w";refine ⟨b,8,rfl,B',by decide,by decide,fun v H3 v0 v1 B3 u3=>?_⟩;walk_at "w";refine iq (fun h3=>?_) (fun h3=>?_)
      ·walk_at "w";refine ⟨b,13,rfl,B3,by decide,by decide,fun v4 H4 v40 v41 B4 u4=>?_⟩;obtain ⟨v4,rfl⟩:=cn v40;exact k v4 H4 ⟨by lia,.inr ⟨sm,fun z=>by lia,fun z _=>by lia⟩⟩ B4 ((u0.trans u3).trans u4)
      ·obtain ⟨m3,p3,l3,g3,_,_,_,Gm3,_,_⟩:=PQ'.upto u3 B' nb;obtain ⟨um3,gm3,qm3,_⟩:=id Gm3;have lum3:=qm3.length;walk_at "w";refine ⟨_,_,rfl,.inl (bV.of gm3),?_⟩;rw[<- lum3];walk_at "w";rw[show ((2:Int)+(mv.length:Int))=((2+mv.length:Nat):Int) by lia];refine ⟨b,2+mv.length,rfl,B3,by lia,by lia,fun v4 H4 v40 v41 B4 u4=>?_⟩;obtain ⟨v4,rfl⟩:=cn v40;exact last H4 B4 ((u0.trans u3).trans u4) v4 (by lia)
     ·walk_at "w";refine ⟨_,_,rfl,.inl (bV.of gm'),?_⟩;rw[<- lum'];walk_at "w";rw[show ((2:Int)+(mv.length:Int))=((2+mv.length:Nat):Int) by lia];refine ⟨b,2+mv.length,rfl,B',by lia,by lia,fun v4 H4 v40 v41 B4 u4=>?_⟩;obtain ⟨v4,rfl⟩:=cn v40;exact last H4 B4 (u0.trans u4) v4 (by lia)
theorem C7:bx ["_law_bag_here","_law_parts_here","_law_steps_here","_law_wide"] ["_law_bag_here","_law_parts_here","_law_steps_here","_law_wide"] (ax jT):=by walk_at "d"
theorem sX (T:Txt K mg Z):cN P w K mg base gK 4 Z.qY Z.qC ["_law_bag_here","_law_parts_here","_law_steps_here","_law_wide"] (J9 K):=by
 refine T.nN.ok C7 (fun vs H Q E h=>?_) (fun cdv A outer s H vs Q E hr h=>?_)
 ·obtain ⟨b,r,tt,w,H0,mv,pt,lk,rfl,hT,w1,w2,hB,nb,PQ,D,k⟩:=h;rfl
 ·obtain ⟨b,r,tt,w,H0,mv,pt,lk,rfl,hT,w1,w2,hB,nb,PQ,D,k⟩:=h;refine ⟨_,(aB (aX (cG ["_law_turn"] ["_law_bag_here","_law_parts_here","_law_wide"] [0,1,3] (cx rfl T.range (aa (pv 2) ai)) (fun _=>(aO (i:=0) (show List.Nodup (α:=PySem.Str) ["_law_turn","_law_bag_here","_law_parts_here","_law_wide"] by decide +kernel))) (fun _=>cJ) (fun _=>(cL (j6 T) hr T.gi T.gI.kp T.iF (aa (pv 1) (aa (bJ (BW K (by rfl)) (by rfl) T.len aV (aa (aW (tx K (by rfl)) (pv 2) ak) ai)) (aa (pv 3) ai)))))))),?_⟩;refine aS (σ:=[some (.ref b),some (.ref r),some (.int tt),some (.int w)]) rfl ?_;have i4:=D.i4;walk_at "w";refine ⟨by lia,by lia,?_⟩
  refine yY (n:=tt) (b:=b) (dB K H) (fun xs=>xs.length=pt.length/\∀x∈xs,Dr (max w 6) x) hB (by lia) (fun {H' H'' c x} a u B=>by
   obtain ⟨q,e,nq,R⟩:=a;exact ⟨q,e,nq,R.upto u B (fun z=>hB.at (by rw[<- z];exact nq))⟩) ?_ ?_
  ·rintro i Ha NY NN hi ua Ba k1;obtain ⟨m,p,l,g,n1,n2,n3,Gm,Gp,Gl⟩:=PQ.upto ua hB nb;obtain ⟨up,gp,qp,_⟩:=id Gp;have lup:=qp.length;walk_at "w";refine ⟨_,_,rfl,.inl (bV.of gp),?_⟩;rw[<- lup];walk_at "w";refine ⟨b,pt.length,w,rfl,Ba,by lia,w1,by lia,fun q xs Hb nq R lx dx Bb ub=>?_⟩;exact k1 _ xs _ ub Bb ⟨lx,dx⟩ ⟨q,rfl,ua.none Ba nq,R⟩
  ·rintro ys cs Hz t ht uz Bz gz lc hc prz nx;exact k t cs Hz ht ⟨ys,gz,prz,pN nx⟩ lc hc Bz uz
theorem p6:bx ["_law_one","_law_other","_law_total","_law_k"] ["_law_one","_law_other"] (ax lE):=by walk_at "d"
theorem p9 (T:Txt K mg Z):cN P w K mg base gK 3 Z.t8 Z.tJ ["_law_one","_law_other"] (GQ K):=by
 refine T.lV.ok p6 (fun vs H Q E h=>?_) (fun cdv A outer s H vs Q E hr h=>?_)
 ·obtain ⟨p,q,xs,ys,rfl,hp,hq,hl,hz,⟨k1,j1,k2,j2,h1,h2,hkj⟩,kk⟩:=h;rfl
 ·obtain ⟨p,q,xs,ys,rfl,hp,hq,hl,hz,⟨k1,j1,k2,j2,h1,h2,hkj⟩,kk⟩:=h
  refine ⟨_,(aw (bo (i:=2) p6.nd rfl (Or.inl rfl) (cZ (aa ak (aa ak ai))))
   (aw (d7 PassesOwn.never rfl (cx rfl T.range (aa (bJ bu (by rfl) T.len aV (aa (pv 0) ai)) ai)) (aO (i:=3) p6.nd)
    (aB (bo (i:=2) p6.nd rfl (Or.inl rfl) (cL (nD T) hr T.j9 T.jL.kp T.lO (aa (pv 2) (aa (cL (nZ T) hr T.kE T.ke.kp T.nG (aa (aW bL (pv 0) (pv 3)) (aa (aW bL (pv 1) (pv 3)) ai))) ai))))))
   (aB (aX (pv 2))))),?_⟩
  refine aS (σ:=[some (.ref p),some (.ref q),none,none]) rfl ?_;obtain ⟨us,gu,qu⟩:=id hp;obtain ⟨ws,gw,qw⟩:=id hq;have lu:=qu.length;have lw:=qw.length;walk_at "w";refine cu fun r0 H0 s0 g0=>?_
  walk_at "w";refine ⟨_,_,rfl,.inl (bV.of (s0 _ _ gu)),?_⟩;walk_at "w";refine ⟨by lia,by lia,?_⟩;refine eG (n:=us.length) (fun i σ' H'=>aL H H'/\∃(r:V) (v:Option V),σ'=[some (.ref p),some (.ref q),some r,v]/\cC K H' (dh (xs.take i) (ys.take i)) r) ⟨s0,_,none,rfl,cC.mk g0 rfl⟩ ?_ ?_
  ·rintro i σ' H' hi ⟨s,r,v,rfl,hr⟩;have ix:i < xs.length:=by lia
   have iy:i < ys.length:=by lia
   obtain ⟨vx,ex,nx⟩:=Jr (Paired.imp' (fun _ _ z=>z.same s) qu) ix;obtain ⟨vy,ey,ny⟩:=Jr (Paired.imp' (fun _ _ z=>z.same s) qw) iy;walk_at "w";refine cB (bV.of (s _ _ gu)) ex ?_;walk_at "w";refine cB (bV.of (s _ _ gw)) ey ?_;walk_at "w";refine ⟨_,_,_,_,rfl,nx,ny,h1.szn (getD_mem ix) (by lia),h2.szn (getD_mem iy) (by lia),fun r3 H3 s3 n3=>?_⟩;walk_at "w";refine ⟨_,_,_,_,rfl,hr.same s3,n3,Ly h1 h2 hz i hkj,KU (h1.one (getD_mem ix)) (h2.one (getD_mem iy)) hkj,fun r4 H4 s4 n4=>?_⟩;walk_at "w";exact ⟨(s.trans s3).trans s4,_,_,rfl,by rw[Cu ix iy];exact n4⟩
  ·rintro σ' H' ⟨s,r,v,rfl,hr⟩;rw[aH (by lia),aH (by lia)] at hr;obtain ⟨t,rfl,ht⟩:=hr;walk_at "w";exact kk _ H' s ⟨t,rfl,ht⟩
theorem FA:bx ["_law_grid","_law_row_here"] ["_law_grid","_law_row_here"] (ax pk):=by walk_at "d"
theorem xr (T:Txt K mg Z):cN P w K mg base gK 4 Z.wq Z.vX ["_law_grid","_law_row_here"] (GO K):=by
 refine T.sO.ok FA (fun vs H Q E h=>?_) (fun cdv A outer s H vs Q E hr h=>?_)
 ·obtain ⟨p,q,H0,rows,ys,rfl,hp,hq,hz,hl,hr1,kk⟩:=h;rfl
 ·obtain ⟨p,q,H0,rows,ys,rfl,hp,hq,hz,hl,hr1,kk⟩:=h;refine ⟨_,(aB (aX (cG ["_law_one"] ["_law_row_here"] [1] (cQ (pv 0)) (fun _=>(aO (i:=0) (show List.Nodup (α:=PySem.Str) ["_law_one","_law_row_here"] by decide +kernel))) (fun _=>cJ) (fun _=>(cL (p9 T) hr T.nF T.lV.kp T.pR (aa (pv 0) (aa (pv 1) ai))))))),?_⟩;refine aS (σ:=[some (.ref p),some (.ref q)]) rfl ?_;obtain ⟨xs,gx,qx,_⟩:=id hp;walk_at "w";refine ⟨⟨_,bV.of gx⟩,?_⟩;refine fB (K:=K) (F:=dB K H0) (cC K) (fun xs=>dh xs ys) gx qx hz (fun a b=>a.same b) (fun a b=>a.same b) ?_ ?_
  ·rintro i ns x H' NY NN en s ⟨u,rfl,_,hu⟩ k;obtain ⟨e1,e2⟩:=hr1 ns (ay en);walk_at "w";exact ⟨u,q,ns,ys,rfl,hu,hq.same s,e1.symm,by lia,e2,fun r H2 s2 h2'=>k _ _ s2 h2'⟩
  ·rintro ys' H' r hr s g pr nx;exact kk r H' hr s ⟨ys',g,pr⟩
theorem gE:bx ["_law_parts_here","_law_state","_law_puts_here","_law_move_here","_law_put","_law_look","_law_found","_law_k"] ["_law_parts_here","_law_state","_law_puts_here"] (ax jW):=by walk_at "d"
theorem Dn (T:Txt K mg Z):cN P w K mg base gK 5 Z.rg Z.qF ["_law_parts_here","_law_state","_law_puts_here"] (Kc K):=by
 refine T.vF.ok gE (fun vs H Q E h=>?_) (fun cdv A outer s H vs Q E hr h=>?_)
 ·obtain ⟨r,s0,u0,H0,mv,pt,lk,st,pu,rfl,PQ,D,hs,hu,l1,l2,NX,k⟩:=h;rfl
 ·obtain ⟨r,s0,u0,H0,mv,pt,lk,st,pu,rfl,PQ,D,hs,hu,l1,l2,NX,k⟩:=h
  refine ⟨_,(aw (ff (pv 0) (uS rfl (cI (aO (i:=3) gE.nd) (cI (aO (i:=4) gE.nd) (cI (aO (i:=5) gE.nd) iX)))))
   (aw (bo (i:=6) gE.nd rfl (Or.inl rfl) (cL (xr T) hr T.tq T.sO.kp T.v7 (aa (pv 3) (aa (pv 1) ai))))
   (aw (d7 PassesOwn.never rfl (cx rfl T.range (aa (bJ bu (by rfl) T.len aV (aa (pv 4) ai)) ai)) (aO (i:=7) gE.nd)
    (aB (bo (i:=6) gE.nd rfl (Or.inl rfl) (cL (oa T) hr T.kF T.kf.kp T.nH (aa (pv 6) (aa (cL (A2 T) hr T.xx T.wC.kp T.y8 (aa (aW bL (pv 2) (pv 7)) (aa (aW bL (pv 4) (pv 7)) ai))) ai))))))
   (aB (aX (pv 6)))))),?_⟩
  refine aS (σ:=[some (.ref r),some (.ref s0),some (.ref u0),none,none,none,none,none]) rfl ?_;obtain ⟨m,p,l,g,n1,n2,n3,Gm,Gp,Gl⟩:=id PQ;have d1:=D.n8;have d2:=D.i4;walk_at "w";refine ⟨m,s0,H0,mv,st,rfl,Gm,hs,by lia,by lia,fun xs hx=>⟨by rw[D.mw xs hx,l1],NX.f2 xs hx⟩,fun f H1 nf s1 R1=>?_⟩;obtain ⟨ps,gp,qp,_⟩:=Gp.same s1;have lp:=qp.length;walk_at "w";refine ⟨_,_,rfl,.inl (bV.of gp),?_⟩;walk_at "w";refine ⟨by lia,by lia,?_⟩;refine eG (n:=ps.length) (fun kk σ' H'=>∃(f:Addr) (x:Option V),σ'=[some (.ref r),some (.ref s0),some (.ref u0),some (.ref m),some (.ref p),some (.ref l),some (.ref f),x]/\H f=none/\aL H1 H'/\cw K H' f (nextK mv pt st pu kk)) ⟨f,none,rfl,nf,aL.refl _,by rw[FQ];exact R1⟩ ?_ ?_
  ·rintro kk σ' H' hk ⟨f',x,rfl,nf',s',R'⟩;have kp:kk < pt.length:=by lia
   have ku:kk < pu.length:=by lia
   obtain ⟨zs,gz,qz⟩:=(hu.same s1).same s';have lz:=qz.length;obtain ⟨vu,eu,nu⟩:=Jr qz ku;obtain ⟨row,vr,er,ev,mr,q,rfl,_,Rq⟩:=lJ qp kp
   have er':pt[kk]=row:=by
    rw[ag kp] at er;exact cm er
   have eu':pu.getD kk 0=pu[kk]:=by rw[ae,ag ku];rfl
   have mu:pu.getD kk 0∈pu:=getD_mem ku;walk_at "w";refine cB (bV.of gz) eu ?_;walk_at "w";refine cB (bV.of (s' _ _ gp)) (eC ev) ?_;walk_at "w";refine ⟨vu,q,_,row,rfl,nu,NX.su _ mu,Rq.same s',by rw[D.pw row mr];lia,NX.sp row mr,fun r1 H2 n1' s2 R2=>?_⟩;walk_at "w";refine ⟨f',r1,_,_,rfl,R'.same s2,R2,by rw[ar,j8,D.pw row mr],by rw[j8];lia,NX.part kk,fun y hy=>?_,fun r2 H3 n2' s3 R3=>?_⟩
   ·obtain ⟨y',hy',rfl⟩:=aD.mp hy;exact NX.mul _ mu row mr y' hy'
   ·walk_at "w";refine ⟨s1.none (s'.none (s2.none n2')),(s'.trans s2).trans s3,?_⟩;have e:=FR (st:=st) (pu:=pu) (fun xs hx=>by rw[D.mw xs hx,l1]) kp ku (by rw[er'];exact D.pw row mr);rw[er',<- eu'] at e;rw[<- e];exact R3
  ·rintro σ' H' ⟨f',x,rfl,nf',s',R'⟩;rw[vR (by lia) (by lia)] at R';walk_at "w";exact k f' H' nf' (s1.trans s') R'
theorem p5:bx ["_law_parts_here","_law_start","_law_rows","_law_state","_law_puts_here"] ["_law_parts_here","_law_start","_law_rows"] (ax lD):=by walk_at "d"
theorem uY (T:Txt K mg Z):cN P w K mg base gK 6 Z.tZ Z.tI ["_law_parts_here","_law_start","_law_rows"] (Me K):=by
 refine T.pT.ok p5 (fun vs H Q E h=>?_) (fun cdv A outer s H vs Q E hr h=>?_)
 ·obtain ⟨r,s,p,H0,H1,mv,pt,lk,pus,st,rfl,PQ,D,Rs,ls,Gp,lp,wp,EF,k⟩:=h;rfl
 ·obtain ⟨r,s,p,H0,H1,mv,pt,lk,pus,st,rfl,PQ,D,Rs,ls,Gp,lp,wp,EF,k⟩:=h
  refine ⟨_,(aw (bo (i:=3) p5.nd rfl (Or.inl rfl) (eB (fM K (by rfl)) (by rfl) T.list PyProof.Rows.boot_list (aa (pv 1) ai)))
   (aw (d7 PassesOwn.never rfl (cQ (pv 2)) (aO (i:=4) p5.nd)
    (aB (bo (i:=3) p5.nd rfl (Or.inl rfl) (cL (Dn T) hr T.xT T.vF.kp T.zG (aa (pv 0) (aa (pv 3) (aa (pv 4) ai)))))))
   (aB (aX (pv 3))))),?_⟩
  refine aS (σ:=[some (.ref r),some (.ref s),some (.ref p),none,none]) rfl ?_;have d1:=D.n8;obtain ⟨ss,gs,qs⟩:=id Rs;obtain ⟨ps,gp,qp,_⟩:=id Gp;have lps:=qp.length;walk_at "w";refine ⟨s,ss,rfl,.inl (bV.of gs),fun c hc=>?_⟩;have sc:aL H (upd H c (.lst ss)):=aL.new hc;have Rc:cw K (upd H c (.lst ss)) c st:=⟨ss,aM,Paired.imp' (fun _ _ z=>z.same sc) qs⟩;generalize upd H c (.lst ss)=Hc at sc Rc ⊢;walk_at "w";refine ⟨⟨_,bV.of (sc _ _ gp)⟩,?_⟩;refine jv (K:=K) (a:=p) (xs:=ps) (fun i σ' H'=>aL H H'/\∃q y,σ'=[some (.ref r),some (.ref s),some (.ref p),some (.ref q),y]/\H q=none/\cw K H' q (kX mv pt st pus i)) ⟨sc,c,_,rfl,hc,Rc⟩ (fun i σ' H' _ ⟨e,_⟩=>bV.of (e _ _ gp)) ?_ ?_
  ·rintro i v σ' H' hv ⟨e,q,y,rfl,nq,Rq⟩;obtain ⟨pu,epu,u,rfl,_,Ru⟩:=cF qp hv;have hi:i < pus.length:=(aI.mp epu).1;have mp:=ay epu;walk_at "w";refine ⟨r,q,u,H0,mv,pt,lk,_,pu,rfl,PQ.same e,D,Rq,cw.same Ru e,jz ls (by lia),wp pu mp,EF.nx D ls wp (by lia) epu,fun q2 H2 n2 s2 R2=>?_⟩;rw[<- nC epu] at R2;exact ⟨e.trans s2,q2,_,rfl,e.none n2,R2⟩
  ·rintro σ' H' ⟨e,q,y,rfl,nq,Rq⟩;rw[<- lps] at Rq;walk_at "w";exact k q H' nq e Rq
theorem C3:bx ["row","bottom"] ["row","bottom"] (ax jO):=by walk_at "d"
theorem xN (T:Txt K mg Z):cN P w K mg base gK 1 Z.qT Z.qo ["row","bottom"] (J8 K):=by
 refine T.nM.ok C3 (fun vs H Q E h=>?_) (fun cdv A outer s H vs Q E hr h=>?_)
 ·obtain ⟨p,ns,M,B,rfl,hp,hl,hz,hB,sB,q⟩:=h;rfl
 ·obtain ⟨p,ns,M,B,rfl,hp,hl,hz,hB,sB,q⟩:=h;refine ⟨_,(aB (aX (cG ["value"] ["bottom"] [1] (cQ (pv 0)) (fun _=>(aO (i:=0) (show List.Nodup (α:=PySem.Str) ["value","bottom"] by decide +kernel))) (fun _=>cJ) (fun _=>(bN di (aW (tx K (by rfl)) (pv 0) ak) (bN ju (pv 1) (aW (tx K (by rfl)) (pv 0) ak))))))),?_⟩;refine aS (σ:=[some (.ref p),some (.int B)]) rfl ?_;obtain ⟨xs,gx,qx⟩:=id hp;have lx:=qx.length;walk_at "w";refine ⟨⟨_,bV.of gx⟩,?_⟩;refine fY (K:=K) (xs:=xs) (fun i ys H'=>H'=H/\ys=(fN (ns.take i) B).map V.int) (aY (bO (by lia))) ⟨rfl,rfl⟩ (fun i ys H' _ ⟨e,_⟩=>by subst e;exact bV.of gx) ?_ ?_
  ·rintro i x ys H' hx hlen ⟨rfl,rfl⟩;obtain ⟨n,en,r,rfl,hr1⟩:=cF qx hx;have nz:=hz.2.2 n (ay en);have sn:Sz 4400 n.2:=DC hz.1 nz.2.1 hz.2.1;walk_at "w";refine gG (show sP _ _ from ⟨by lia,sn.mono (by decide)⟩) ?_;rw[cA _ (by lia)]
   have sq:Sz 4400 (B / n.2):=sB.le (by
    rw[PL (by lia)];exact Nat.div_le_self ..)
   walk_at "w";refine gG (show jk _ _ from .inr ⟨_,_,nz.2.2,sq,by decide⟩) ?_;exact ⟨rfl,by rw[take_snoc en];simp [fN]⟩
  ·rintro ys H' hy ⟨rfl,rfl⟩ l hl';exact q l _ hl' (aL.new hl') (by rw[aM,aH (by lia)])
theorem gB:bx ["wholes","multiple","whole"] ["wholes"] (ax eh):=by walk_at "d"
theorem xp (T:Txt K mg Z):cN P w K mg base gK 2 Z.ig Z.ic ["wholes"] (Ow K):=by
 refine T.kS.ok gB (fun vs H Q E h=>?_) (fun cdv A outer s H vs Q E hr h=>?_)
 ·obtain ⟨p,bs,M,rfl,hp,hM,sM,hb,q⟩:=h;rfl
 ·obtain ⟨p,bs,M,rfl,hp,hM,sM,hb,q⟩:=h
  refine ⟨_,(aw (bo (i:=1) gB.nd rfl (Or.inl rfl) ak)
   (aw (d7 PassesOwn.never rfl (cQ (pv 0)) (aO (i:=2) gB.nd)
    (aB (bo (i:=1) gB.nd rfl (Or.inl rfl) (bN di (pv 1) (bN ju (pv 2) (cL (kz T) hr T.ib T.fZ.kp T.jc (aa (pv 1) (aa (pv 2) ai))))))))
   (aB (aX (pv 1))))),?_⟩
  refine aS (σ:=[some (.ref p),none,none]) rfl ?_;walk_at "w";refine ⟨⟨_,hp⟩,?_⟩;refine jv (K:=K) (a:=p) (xs:=bs.map V.int) (fun i σ' H'=>H'=H/\∃x,σ'=[some (.ref p),some (.int (yS (bs.take i) 1)),x]) ⟨rfl,none,rfl⟩ (fun i σ' H' _ ⟨e,_⟩=>by subst e;exact hp) ?_ ?_
  ·rintro i x σ' H' hx ⟨rfl,y,rfl⟩;rw[aK] at hx
   obtain ⟨b,eb,rfl⟩:∃b,bs[i]?=some b/\x=.int b:=by
    cases e:bs[i]? with
    | none=>rw[e] at hx;cases hx
    | some b=>rw[e] at hx;cases hx;exact ⟨b,rfl,rfl⟩
   have b1:=hb b (ay eb);have sb:Sz 4400 b:=DC hM b1.2 sM;have ht:∀c∈bs.take i,0 < c/\c∣M:=fun c hc=>hb c (cz hc)
   have msz:Sz 4400 (yS (bs.take i) 1):=DC hM (Ab (by decide) (Int.one_dvd _) ht) sM;generalize hm:yS (bs.take i) 1=m at msz ⊢;have gp:0 < g m b:=Bm (by lia);walk_at "w";refine ⟨m,b,rfl,?_⟩;walk_at "w";refine gG (show sP _ _ from ⟨by lia,(RM b1.1 sb).mono (by decide)⟩) ?_;rw[cA _ (by lia)];walk_at "w";refine gG (show jk _ _ from .inr ⟨_,_,msz,sb.hi (t:=m) (by lia),by decide⟩) ?_;walk_at "w";exact ⟨rfl,_,by rw[take_snoc eb,Cr,hm];rfl⟩
  ·rintro σ' H' ⟨rfl,y,rfl⟩;walk_at "w";rw[aH (by simp)];exact q
theorem yK:bx ["row"] ["row"] (ax fA):=by walk_at "d"
theorem sD (T:Txt K mg Z):cN P w K mg base gK 3 Z.jD Z.jB ["row"] (Ox K):=by
 refine T.gN.ok yK (fun vs H Q E h=>?_) (fun cdv A outer s H vs Q E hr h=>?_)
 ·obtain ⟨p,ns,M,rfl,hp,hl,hz,q⟩:=h;rfl
 ·obtain ⟨p,ns,M,rfl,hp,hl,hz,q⟩:=h;refine ⟨_,(aB (aX (cL (xp T) hr T.pP T.kS.kp T.qO (aa (cG ["value"] [] [] (cQ (pv 0)) (fun _=>(aO (i:=0) (show List.Nodup (α:=PySem.Str) ["value"] by decide +kernel))) (fun _=>cJ) (fun _=>(aW (tx K (by rfl)) (pv 0) ak))) ai)))),?_⟩;refine aS (σ:=[some (.ref p)]) rfl ?_;obtain ⟨xs,gx,qx⟩:=id hp;have lx:=qx.length;walk_at "w";refine ⟨⟨_,bV.of gx⟩,?_⟩;refine fY (K:=K) (xs:=xs) (fun i ys H'=>H'=H/\ys=((ns.take i).map (·.2)).map V.int) (aY (bO (by lia))) ⟨rfl,rfl⟩ (fun i ys H' _ ⟨e,_⟩=>by subst e;exact bV.of gx) ?_ ?_
  ·rintro i x ys H' hx hlen ⟨rfl,rfl⟩;obtain ⟨n,en,r,rfl,hr1⟩:=cF qx hx;walk_at "w";exact ⟨rfl,by rw[take_snoc en];simp⟩
  ·rintro ys H' hy ⟨rfl,rfl⟩ l hl';walk_at "w";refine ⟨l,ns.map (·.2),M,rfl,bV.of (by rw[aM,aH (by lia)]),hz.1,hz.2.1,fun b hb=>?_,?_⟩
   ·obtain ⟨n,hn,rfl⟩:=aD.mp hb;exact ⟨(hz.2.2 n hn).1,(hz.2.2 n hn).2.1⟩
   ·exact q _ (aL.new hl')
theorem wH:bx ["lines","begin","place","at"] ["lines","begin","place"] (ax iN):=by walk_at "d"
theorem BO (T:Txt K mg Z):cN P w K mg base gK 1 Z.oK Z.ot ["lines","begin","place"] IJ:=by
 refine T.ui.ok wH (fun vs H Q E h=>?_) (fun cdv A outer s H vs Q E hr h=>?_)
 ·obtain ⟨l,p,ls,b,c,rfl,G,l1000,b1000,hc,k1,k2⟩:=h;rfl
 ·obtain ⟨l,p,ls,b,c,rfl,G,l1000,b1000,hc,k1,k2⟩:=h
  refine ⟨_,(aw (d7 PassesOwn.never rfl (Jb rfl T.range (aa (pv 1) (aa (bJ bu (by rfl) T.len aV (aa (pv 0) ai)) ai))) (aO (i:=3) wH.nd)
    (aB (dc (bH zv (aW bL (aW bL (pv 0) (pv 3)) (pv 2)) ak (bM _)) (aB (aX (pv 3))) bZ)))
   (aB (aX Dh))),?_⟩
  refine aS (σ:=[some (.ref p),some (.int b),some (.int c),none]) rfl ?_;obtain ⟨_,xs,gx,qx⟩:=id G;have lx:=qx.length;walk_at "w";refine ⟨_,_,rfl,.inl (bV.of gx),?_⟩;rw[<- lx];walk_at "w";refine ⟨⟨by lia,by lia,by lia,by lia⟩,?_⟩;refine Ct (lo:=(b:Int)) (n:=((ls.length:Int) - (b:Int)).toNat) (fun i σ' H'=>H'=H/\(∃y,σ'=[some (.ref p),some (.int b),some (.int c),y])/\∀s,b<=s->s < b+i->eV ls s c=0) ⟨rfl,⟨_,rfl⟩,fun s h1 h2=>absurd h2 (by lia)⟩ ?_ ?_
  ·rintro i σ' H' hi ⟨rfl,⟨y,rfl⟩,hz⟩;rw[show ((b:Int)+(i:Int))=((b+i:Nat):Int) by lia];obtain ⟨zs,v,ez,ev,mz,q,rfl,_,gq⟩:=lJ qx (i:=b+i) (by lia);walk_at "w";refine cB (bV.of gx) (eC ev) ?_;walk_at "w";refine cB (bV.of gq) (Au (hc zs mz)) ?_;walk_at "w";have ef:=JT (c:=c) ez;by_cases e:zs.getD c 0=0
   ·rw[decide_eq_true e];walk_at "w";refine ⟨rfl,⟨_,rfl⟩,fun s h1 h2=>?_⟩;by_cases e2:s=b+i
    ·rw[e2,ef,e];rfl
    ·exact hz s h1 (by lia)
   ·rw[decide_eq_false e];walk_at "w";exact k1 (b+i) (by lia) (by lia) (by rw[ef];exact Rv.mpr e)
  ·rintro σ' H' ⟨rfl,⟨y,rfl⟩,hz⟩;walk_at "w";exact k2 fun t h1 h2=>hz t h1 (by lia)
theorem sU:bx ["lines","at","place","before","used","by","swept"] ["lines","at","place","before"] (ax ph):=by walk_at "d"
theorem FP (T:Txt K mg Z):cN P w K mg base gK 1 Z.wo Z.vW ["lines","at","place","before"] IK:=by
 refine T.zj.ok sU (fun vs H Q E h=>?_) (fun cdv A outer s H vs Q E hr h=>?_)
 ·obtain ⟨l,p,ls,kk,c,n,b,rfl,hl,G,l1000,hk,hw,n1000,hc,b0,sb,hs,k⟩:=h;rfl
 ·obtain ⟨l,p,ls,kk,c,n,b,rfl,hl,G,l1000,hk,hw,n1000,hc,b0,sb,hs,k⟩:=h
  refine ⟨_,(aw (bo (i:=4) sU.nd rfl (Or.inr rfl) (aW bL (pv 0) (pv 1)))
   (aw (bo (i:=5) sU.nd rfl (Or.inr rfl) (aW bL (pv 4) (pv 2)))
   (aw (p7 6 ["line"] ["used","by","place","before"] [4,5,2,3] sU.nd rfl rfl (cQ (pv 0)) (fun _=>(aO (i:=0) (show List.Nodup (α:=PySem.Str) ["line","used","by","place","before"] by decide +kernel) rfl (Or.inr rfl) (Or.inl rfl))) (fun _=>cJ) (fun _=>(cG ["mine","yours"] ["by","line","place","before"] [2,0,3,4] (KI K rfl T.zip (aa (pv 0) (aa (pv 1) ai))) (fun _=>(vP K 2 (cI (aO (i:=0) (show List.Nodup (α:=PySem.Str) ["mine","yours","by","line","place","before"] by decide +kernel)) (cI (aO (i:=1) (show List.Nodup (α:=PySem.Str) ["mine","yours","by","line","place","before"] by decide +kernel)) iX)))) (fun _=>cJ) (fun _=>(bN ju (bN lK (bN di (pv 2) (pv 0)) (bN di (aW (iD K (by rfl)) (pv 3) (pv 4)) (pv 1))) (pv 5))))))
   (aw (ff (pv 4) (h9 (pv 6) (pv 1) set_list))
   (aB (aX (pv 6))))))),?_⟩
  refine aS (σ:=[some (.ref p),some (.int kk),some (.int c),some (.int b),none,none,none]) rfl ?_;obtain ⟨pl,xs,gx,qx⟩:=id G;have lx:=qx.length;obtain ⟨zk,vk,ek,evk,mk,qk,rfl,qkl,gk⟩:=lJ qx hk;have wk:=hw zk mk;have ek':ls.getD kk []=zk:=by rw[ae,ek];rfl
  walk_at "w";refine cB (bV.of gx) (eC evk) ?_;walk_at "w";refine cB (bV.of gk) (Au (by lia)) ?_;walk_at "w";refine ⟨⟨_,bV.of gx⟩,?_⟩;refine fY (K:=K) (xs:=xs) (fun i ys H'=>aL H H'/\Paired (Ic l H') ((ls.take i).map fun zs=>List.zipWith (fun x y=>(zk.getD c 0*x - zs.getD c 0*y).fdiv b) zs zk) ys) (aY (bO (by lia))) ⟨aL.refl _,.nil⟩ (fun i ys H' _ ⟨s,_⟩=>bV.of (s _ _ gx)) ?_ ?_
  ·rintro i v ys0 H' hx hlen ⟨s',pr⟩;obtain ⟨zs,ec,q,rfl,ql,gq⟩:=cF qx hx;have mz:=ay ec;have wz:=hw zs mz;have gq':=s' _ _ gq;have gk':=s' _ _ gk;walk_at "w";refine ⟨⟨_,bV.of gq'⟩,⟨_,bV.of gk'⟩,?_⟩;refine vo (K:=K) (xs:=zs.map V.int) (ws:=zk.map V.int) (fun j ys H2=>aL H' H2/\ys=((List.zipWith (fun x y=>(zk.getD c 0*x - zs.getD c 0*y).fdiv b) zs zk).take j).map V.int) (aY (bO (by rw[ar];lia))) (by rw[ar,ar];lia) ⟨aL.refl _,rfl⟩ (fun j ys H2 _ ⟨s2,_⟩=>⟨bV.of (s2 _ _ gq'),bV.of (s2 _ _ gk')⟩) ?_ ?_
   ·rintro j v1 v2 ys H2 r h1 h2 hy ⟨s2,rfl⟩ hr
    obtain ⟨x,ex,rfl⟩:∃x,zs[j]?=some x/\V.int x=v1:=by
     rw[aK] at h1;cases e:zs[j]? with
     | none=>rw[e] at h1;cases h1
     | some x=>rw[e] at h1;exact ⟨x,rfl,cm h1⟩
    obtain ⟨y,ey,rfl⟩:∃y,zk[j]?=some y/\V.int y=v2:=by
     rw[aK] at h2;cases e:zk[j]? with
     | none=>rw[e] at h2;cases h2
     | some x=>rw[e] at h2;exact ⟨x,rfl,cm h2⟩
    have sr:aL H2 (upd H2 r (.tup [.int x,.int y])):=aL.new hr;have gr:(upd H2 r (.tup [.int x,.int y])) r=some (.tup [.int x,.int y]):=aM;generalize upd H2 r (.tup [.int x,.int y])=H3 at sr gr ⊢;have gq3:=sr _ _ (s2 _ _ gq');have sx:=hs zs mz x (ay ex);have sy:=hs zk mk y (ay ey);have s1:=hs zk mk _ (getD_in (e:=0) (show c < zk.length by lia));have s3:=hs zs mz _ (getD_in (e:=0) (show c < zs.length by lia));walk_at "w";refine gG (show jk _ _ from .inr ⟨_,_,s1,sx,by decide⟩) ?_;walk_at "w";refine cB (bV.of gq3) (Au (by lia)) ?_;walk_at "w";refine gG (show jk _ _ from .inr ⟨_,_,s3,sy,by decide⟩) ?_;walk_at "w";refine gG (show sP _ _ from ⟨b0,sb⟩) ?_;have ez:(List.zipWith (fun x y=>(zk.getD c 0*x - zs.getD c 0*y).fdiv b) zs zk)[j]?=some ((zk.getD c 0*x - zs.getD c 0*y).fdiv b):=by rw[bY,ex,ey]
    exact ⟨s2.trans sr,by rw[take_snoc ez];simp⟩
   ·rintro ys H2 hy ⟨s2,rfl⟩ r hr;have sn:aL H2 (upd H2 r (.lst (((List.zipWith (fun x y=>(zk.getD c 0*x - zs.getD c 0*y).fdiv b) zs zk).take (zs.map V.int).length).map V.int))):=aL.new hr;refine ⟨(s'.trans s2).trans sn,?_⟩;rw[take_snoc ec,cV];refine b6 (Paired.imp' (fun _ _ z=>(Ic.same z s2).same sn) pr) (.cons ⟨r,rfl,ne_old (fun z=>hl (s'.none (s2.none z))) hr,?_⟩ .nil);rw[aM,aH (by rw[b9,ar];lia)]
  ·rintro ys H1 hy ⟨s1,pr⟩ r hr;have sn:aL H1 (upd H1 r (.lst ys)):=aL.new hr;have gn:(upd H1 r (.lst ys)) r=some (.lst ys):=aM;have ly:=pr.length;rw[ar,cO] at ly;generalize upd H1 r (.lst ys)=H2 at sn gn ⊢;walk_at "w";refine fh gn (fF (by lia)) rfl ?_;have s2:aL H1 (upd H2 r (.lst (ys.set kk (.ref qk)))):=sn.after hr;walk_at "w";refine k r _ (s1.none hr) (s1.trans s2) ⟨ne_old (fun z=>hl (s1.none z)) hr,_,aM,?_⟩;unfold EW;rw[ek'];rw[aH (by lia)] at pr;exact lG (Paired.imp' (fun _ _ z=>Ic.same z s2) pr) kk ⟨qk,rfl,qkl,(s1.trans s2) _ _ gk⟩
theorem wI:bx ["lines","at","to","swapped"] ["lines","at","to"] (ax iO):=by walk_at "d"
theorem BP (T:Txt K mg Z):cN P w K mg base gK 1 Z.oM Z.ou ["lines","at","to"] Ek:=by
 refine T.uj.ok wI (fun vs H Q E h=>?_) (fun cdv A outer s H vs Q E hr h=>?_)
 ·obtain ⟨l,p,ls,t,kk,rfl,hl,G,l1000,ht,hk,k⟩:=h;rfl
 ·obtain ⟨l,p,ls,t,kk,rfl,hl,G,l1000,ht,hk,k⟩:=h
  refine ⟨_,(aw (bo (i:=3) wI.nd rfl (Or.inl rfl) (eB tP (by rfl) T.list PyProof.Rows.boot_list (aa (pv 0) ai)))
   (aw (ff (aW bL (pv 0) (pv 1)) (h9 (pv 3) (pv 2) set_list))
   (aw (ff (aW bL (pv 0) (pv 2)) (h9 (pv 3) (pv 1) set_list))
   (aB (aX (pv 3)))))),?_⟩
  refine aS (σ:=[some (.ref p),some (.int t),some (.int kk),none]) rfl ?_;obtain ⟨pl,xs,gx,qx⟩:=id G;have lx:=qx.length;obtain ⟨zt,vt,et,evt,_,Ft⟩:=lJ qx ht;obtain ⟨zk,vk,ek,evk,_,Fk⟩:=lJ qx hk;walk_at "w";refine ⟨p,xs,rfl,.inl (bV.of gx),fun c hc=>?_⟩;have sc:aL H (upd H c (.lst xs)):=aL.new hc;have gc:(upd H c (.lst xs)) c=some (.lst xs):=aM;generalize upd H c (.lst xs)=Hc at sc gc ⊢;walk_at "w";refine cB (bV.of (sc _ _ gx)) (eC evt) ?_;walk_at "w";refine fh gc (fF (by lia)) rfl ?_;have s1:aL H (upd Hc c (.lst (xs.set kk vt))):=sc.after hc;have g1:(upd Hc c (.lst (xs.set kk vt))) c=some (.lst (xs.set kk vt)):=aM;generalize upd Hc c (.lst (xs.set kk vt))=H1 at s1 g1 ⊢;walk_at "w";refine cB (bV.of (s1 _ _ gx)) (eC evk) ?_;walk_at "w";refine fh g1 (fF (by rw[dP];lia)) rfl ?_;have s2:aL H (upd H1 c (.lst ((xs.set kk vt).set t vk))):=s1.after hc;walk_at "w";refine k c _ hc s2 ⟨ne_old hl hc,_,aM,?_⟩;have et':ls.getD t []=zt:=by rw[ae,et];rfl
  have ek':ls.getD kk []=zk:=by rw[ae,ek];rfl
  unfold sS;rw[et',ek'];exact lG (lG (Paired.imp' (fun _ _ z=>Ic.same z s2) qx) kk (Ic.same Ft s2)) t (Ic.same Fk s2)
theorem ki:bx ["rows","wide","lines","leads","before","place","many","at"] ["rows","wide"] (ax vL):=by walk_at "d"
theorem EA (T:Txt K mg Z):cN P w K mg base gK 4 Z.Ai Z.Af ["rows","wide"] (Iv K):=by
 refine T.An.ok ki (fun vs H Q E h=>?_) (fun cdv A outer s H vs Q E hr h=>?_)
 ·obtain ⟨p,n,w,H0,rows,rfl,G,r100,n100,hw,F,k⟩:=h;rfl
 ·obtain ⟨p,n,w,H0,rows,rfl,G,r100,n100,hw,F,k⟩:=h
  refine ⟨_,(aw (p7 2 ["row"] [] [] ki.nd rfl rfl (cQ (pv 0)) (fun _=>(aO (i:=0) (show List.Nodup (α:=PySem.Str) ["row"] by decide +kernel))) (fun _=>cJ) (fun _=>(cL (xN T) hr T.oh T.nM.kp T.qN (aa (pv 0) (aa (cL (sD T) hr T.iZ T.gN.kp T.jC (aa (pv 0) ai)) ai)))))
   (aw (bo (i:=3) ki.nd rfl (Or.inl rfl) (dJ ai))
   (aw (bo (i:=4) ki.nd rfl (Or.inl rfl) ak)
   (aw (d7 PassesOwn.never rfl (cx rfl T.range (aa (pv 1) ai)) (aO (i:=5) ki.nd)
    (aw (bo (i:=6) ki.nd rfl (Or.inl rfl) (bJ bu (by rfl) T.len aV (aa (pv 3) ai)))
   (aw (bo (i:=7) ki.nd rfl (Or.inl rfl) (cL (BO T) hr T.wQ T.ui.kp T.yk (aa (pv 2) (aa (pv 6) (aa (pv 5) ai)))))
   (aB (dc (bH G5 (pv 7) Dh (bM _)) (aw (bo (i:=2) ki.nd rfl (Or.inl rfl) (cL (FP T) hr T.A8 T.zj.kp T.CK (aa (cL (BP T) hr T.wU T.uj.kp T.yl (aa (pv 2) (aa (pv 7) (aa (pv 6) ai)))) (aa (pv 6) (aa (pv 5) (aa (pv 4) ai))))))
   (aw (bo (i:=4) ki.nd rfl (Or.inl rfl) (aW bL (aW bL (pv 2) (pv 6)) (pv 5)))
   (aB (md (AR dQ fo fk pB (pv 3) (aa (pv 5) ai)))))) bZ)))))
   (aB (aX (cZ (aa (AO C1 (pv 2) GW (z9 (bJ bu (by rfl) T.len aV (aa (pv 3) ai)))) (aa (pv 3) ai))))))))),?_⟩
  refine aS (σ:=[some (.ref p),some (.int n),none,none,none,none,none,none]) rfl ?_;obtain ⟨xs,gx,qx,_⟩:=id G;obtain ⟨W,hW,W2,ent⟩:=F.ent;obtain ⟨_,_,_,_,_,_,_,_,r15,r89⟩:=id F;walk_at "w";refine ⟨⟨_,bV.of gx⟩,?_⟩;refine fB (K:=K) (as:=rows) (F:=dB K H0) (fun (H:Hp) (zs:List Int) (v:V)=>∃q,v=V.ref q/\H q=some (.lst (zs.map V.int))) kW gx qx (by lia) (fun a b=>a.same b) (fun ⟨q,a,b⟩ s=>⟨q,a,s _ _ b⟩) ?_ ?_
  ·rintro i qs v H' NY NN ec s' ⟨u,rfl,_,R⟩ k1;have mx:=ay ec;obtain ⟨M,hM⟩:=F.rowM mx;obtain ⟨b1,sb⟩:=hM.bot;have lq:(qs.map nm).length<=1000:=by rw[ar,hw qs mx];lia
   walk_at "w";refine ⟨u,_,M,rfl,R.rowK,lq,hM,fun H2 s2=>?_⟩;walk_at "w";exact ⟨u,_,M,_,rfl,(R.same s2).rowK,lq,hM,b1,sb,fun r H3 n3 s3 g3=>k1 _ _ (s2.trans s3) ⟨r,rfl,g3⟩⟩
  rintro ys H1 lp0 hlp s1 g1 pr1 nx1;walk_at "w";refine dg fun qp H2 s2 nq gq=>?_
  have G2:vB qp H2 lp0 (rows.map kW):=⟨(fun z=>by rw[z,nq] at g1;cases g1),ys,s2 _ _ g1,Paired.imp' (fun _ _ ⟨q,a,b⟩=>⟨q,a,(fun z=>by rw[z,nq] at b;cases b),s2 _ _ b⟩) pr1⟩;have hq0:H qp=none:=s1.none nq;have s02:=s1.trans s2;have hm:(rows.map kW).length=rows.length:=ar ..;clear g1 pr1 nx1;walk_at "w";refine ⟨by lia,by lia,?_⟩;refine eG (n:=n) (fun P σ' H'=>aL H H'/\∃lp ls ps d y1 y2 y3,σ'=[some (.ref p),some (.int n),some (.ref lp),some (.ref qp),some (.int d),y1,y2,y3]/\H' qp=some (.lst (nE ps))/\vB qp H' lp ls/\CL (rows.map kW) n P ls ps d) ⟨s02,lp0,rows.map kW,[],1,_,_,_,rfl,gq,G2,CL.start fun zs hz=>by obtain ⟨x,hx,rfl⟩:=aD.mp hz;rw[xD];exact hw x hx⟩ ?_ ?_
  ·rintro P σ' H' hP ⟨s',lp,ls,ps,d,y1,y2,y3,rfl,gq',G',I⟩;have hl:=I.len;have kP:=I.el.kP;have km:=I.el.km;have lps:(nE ps).length=ps.length:=ar ..;have hqp:H' qp≠none:=by rw[gq'];exact fun z=>nomatch z
   obtain ⟨z1,z2⟩:=I.sz (r:=min rows.length n) hW ent (by lia) (by rw[hm];exact ao _) r15;have big:(16*W)^min rows.length n < 2^8999:=bG (FH W2) (dX (by decide) (by lia));walk_at "w";refine ⟨_,_,rfl,.inl (bV.of gq'),?_⟩;rw[lps];walk_at "w";refine ⟨qp,lp,ls,ps.length,P,rfl,G',by lia,by lia,fun zs hz=>by rw[I.wide zs hz];exact hP,fun t h1 h2 h3=>?_,fun hz=>?_⟩
   ·walk_at "w";refine ⟨rfl,_,rfl,?_⟩;rw[show decide (V.int (t:Int)=V.non)=false from decide_eq_false (fun z=>nomatch z)];walk_at "w";refine ⟨qp,lp,ls,t,ps.length,rfl,hqp,G',by lia,h2,by lia,fun l1 Ha na sa Ga=>?_⟩;walk_at "w";refine ⟨qp,l1,_,ps.length,P,n,d,rfl,fun z=>hqp (sa.none z),Ga,by rw[yE];lia,by rw[yE];lia,GN I.wide (by lia) h2,by lia,hP,I.d0,bG z1 big,fun zs hz z hz'=>?_,fun l2 Hb nb sb Gb=>?_⟩
    ·unfold sS at hz;have key:∀ys,ys∈ls->∀z∈ys,Sz 8999 z:=fun ys hy z hz=>bG (z2 ys hy z hz) big
     rcases cv hz with h | h
     ·rcases cv h with h | h
      ·exact key zs h z hz'
      ·rw[h] at hz';exact key _ (getD_in h2) z hz'
     ·rw[h] at hz';exact key _ (getD_in (by lia)) z hz'
    have sab:=sa.trans sb;have I2:=I.step hW ent h1 h2 h3;have hk2:ps.length < (EW (sS ls ps.length t) ps.length P d).length:=by rw[LG,yE];lia
    obtain ⟨n2,xs2,gx2,qx2⟩:=id Gb;obtain ⟨zk,vk,ek,evk,mk,qk,rfl,_,gk⟩:=lJ qx2 hk2;have wk:=I2.wide zk mk;walk_at "w";refine cB (bV.of gx2) (eC evk) ?_;walk_at "w";refine cB (bV.of gk) (Au (by lia)) ?_;have gqb:=sab _ _ gq';walk_at "w";refine ⟨.inl ⟨rfl,_,bV.of gqb⟩,?_⟩;walk_at "w";refine pA gqb (bO (by lia)) ?_;refine ⟨(s'.trans sab).after hq0,l2,_,ps++[P],_,_,_,_,rfl,?_,Gb.upd,?_⟩
    ·rw[aM];unfold nE;rw[cV];rfl
    ·have e:(EW (sS ls ps.length t) ps.length P d).getD ps.length []=zk:=by rw[ae,ek];rfl
     rw[e] at I2;exact I2
   ·walk_at "w";refine ⟨rfl,_,rfl,?_⟩;rw[show decide (V.non=V.non)=true from decide_eq_true rfl];walk_at "w";exact ⟨s',lp,ls,ps,d,_,_,_,rfl,gq',G',I.skip hz⟩
  rintro σ' H' ⟨s',lp,ls,ps,d,y1,y2,y3,rfl,gq',G',I⟩;obtain ⟨R,hR⟩:=I.done hw F;have lps:(nE ps).length=ps.length:=ar ..;obtain ⟨nl,xs',gx',qx'⟩:=id G';walk_at "w";refine ⟨_,_,rfl,.inl (bV.of gq'),?_⟩;rw[lps];walk_at "w";refine OJ (bV.of gx') fun sl H3 s3 n3 g3=>?_
  rw[LD] at g3;walk_at "w";refine cu fun t H4 s4 g4=>?_
  have s34:=s3.trans s4;exact k t sl qp R ps d _ H4 g4 (s34 _ _ gq') ⟨(fun z=>by rw[z,gq'] at n3;cases n3),_,s4 _ _ g3,Paired.imp' (fun _ _ z=>Ic.same z s34) (uU qx' ps.length)⟩ (s'.trans s34) hR
theorem yI:bx ["top","bottom","divisor"] ["top","bottom"] (ax rZ):=by walk_at "d"
theorem vQ (T:Txt K mg Z):cN P w K mg base gK 2 Z.yu Z.yg ["top","bottom"] IE:=by
 refine T.sN.ok yI (fun vs H Q E h=>?_) (fun cdv A outer s H vs Q E hr h=>?_)
 ·obtain ⟨t,b,rfl,hb,hs,k⟩:=h;rfl
 ·obtain ⟨t,b,rfl,hb,hs,k⟩:=h
  refine ⟨_,(aw (bo (i:=2) yI.nd rfl (Or.inl rfl) (cL (kz T) hr T.ib T.fZ.kp T.jc (aa (pv 0) (aa (pv 1) ai))))
   (aw (dc (bH wK (pv 1) ak (bM _)) (aB (bo (i:=2) yI.nd rfl (Or.inl rfl) (zm uJ (pv 2)))) bZ)
   (aB (aX (cZ (aa (bN ju (pv 0) (pv 2)) (aa (bN ju (pv 1) (pv 2)) ai))))))),?_⟩
  refine aS (σ:=[some (.int t),some (.int b),none]) rfl ?_;walk_at "w";refine ⟨t,b,rfl,?_⟩;have hg:=Bm (t:=t) hb
  have hgs:Sz 8999 (g t b):=hs.le (by
   have h1:(g t b).natAbs=Int.gcd t b:=by unfold g;simp
   rw[h1];exact kg (by lia) (by have:=fI (a:=t) (b:=b);exact gJ.mpr this |> fun z=>by simpa using z))
  have hgn:g (-t) (-b)=g t b:=by unfold g;rw[Int.gcd_neg,Int.neg_gcd]
  walk_at "w";refine iq (fun h=>?_) (fun h=>?_)
  ·have hb0:b < 0:=of_decide_eq_true h;walk_at "w";refine gG (show sP _ _ from ⟨by lia,hgs.neg⟩) ?_;walk_at "w";refine gG (show sP _ _ from ⟨by lia,hgs.neg⟩) ?_;walk_at "w";refine cu fun r H' s' h'=>?_
   have e1:t.fdiv (-g t b)=lo (-t) (-b):=by
    unfold Nm.lo;rw[hgn,<- cA _ (by lia),<- Int.neg_fdiv_neg (-t),Int.neg_neg]
   have e2:b.fdiv (-g t b)=hi (-t) (-b):=by
    unfold Nm.hi;rw[hgn,<- cA _ (by lia),<- Int.neg_fdiv_neg (-b),Int.neg_neg]
   exact k r H' s' (by rw[if_pos hb0,if_pos hb0,<- e1,<- e2];exact h')
  ·have hb0:¬b < 0:=fun z=>h (decide_eq_true z)
   walk_at "w";refine gG (show sP _ _ from ⟨by lia,hgs⟩) ?_;walk_at "w";refine gG (show sP _ _ from ⟨by lia,hgs⟩) ?_;walk_at "w";refine cu fun r H' s' h'=>?_
   rw[cA _ (by lia),cA _ (by lia)] at h';exact k r H' s' (by rw[if_neg hb0,if_neg hb0];exact h')
theorem AA:bx ["rows","wide","found"] ["rows","wide"] (ax o7):=by walk_at "d"
theorem FL (T:Txt K mg Z):cN P w K mg base gK 5 Z.wd Z.vT ["rows","wide"] (Ej K):=by
 refine T.zg.ok AA (fun vs H Q E h=>?_) (fun cdv A outer s H vs Q E hr h=>?_)
 ·obtain ⟨p,n,w,H0,rows,rfl,G,r100,n100,hw,F,k⟩:=h;rfl
 ·obtain ⟨p,n,w,H0,rows,rfl,G,r100,n100,hw,F,k⟩:=h
  refine ⟨_,(aw (bo (i:=2) AA.nd rfl (Or.inl rfl) (cL (EA T) hr T.A4 T.An.kp T.DO (aa (pv 0) (aa (pv 1) ai))))
   (aB (aX (cG ["line","lead"] [] [] (vO rfl T.zip (aa (aW b8 (pv 2) ak) (aa (aW b8 (pv 2) ak) ai))) (fun _=>(vP K 2 (cI (aO (i:=0) (show List.Nodup (α:=PySem.Str) ["line","lead"] by decide +kernel) rfl (Or.inr rfl) (Or.inl rfl)) (cI (aO (i:=1) (show List.Nodup (α:=PySem.Str) ["line","lead"] by decide +kernel) rfl (Or.inr rfl) (Or.inl rfl)) iX)))) (fun _=>cJ) (fun _=>(cG ["top"] ["line","lead"] [0,1] (Ez K (pv 0)) (fun _=>(aO (i:=0) (show List.Nodup (α:=PySem.Str) ["top","line","lead"] by decide +kernel))) (fun _=>cJ) (fun _=>(cL (vQ T) hr T.sE T.sN.kp T.vv (aa (pv 0) (aa (aW (iD K (by rfl)) (pv 1) (pv 2)) ai)))))))))),?_⟩
  refine aS (σ:=[some (.ref p),some (.int n),none]) rfl ?_;obtain ⟨_,_,_,_,_,_,_,_,r15,r89⟩:=id F;walk_at "w";refine ⟨p,n,w,H0,rows,rfl,G,r100,n100,hw,F,fun t lp qp R ps d ls H1 gt gq G1 s1 S=>?_⟩;obtain ⟨lR,wR,RR⟩:=id S.rr;have hl:=S.len;obtain ⟨_,xs,gx,qx⟩:=id G1;have lx:=qx.length;have lps:(nE ps).length=ps.length:=ar ..;have d0:(d:Rat)≠0:=fun z=>S.d0 (vp z)
  have dsz:Sz 8999 d:=bG S.dsz (dX (by decide) (by lia))
  have km:ps.length<=n:=by
   rcases cR n ps.length with z | z
   ·have inc:∀j,j < ps.length->j<=ps.getD j 0:=by
     intro j
     induction j with
     | zero=>intro _;exact bD _
     | succ j ih =>
      intro hj;have:=ih (by lia);have:=RR.inc j (j+1) (by lia) hj
      lia
    have h1:=inc (ps.length - 1) (by lia);have h2:=RR.low (ps.length - 1) (by lia)
    lia
   ·exact z
  walk_at "w";refine ⟨⟨_,bV.of gx⟩,⟨_,bV.of gq⟩,?_⟩;refine vo (K:=K) (xs:=xs) (ws:=nE ps) (fun i ys H'=>aL H1 H'/\Paired (dB K H1 H') (R.take i) ys) (aY (bO (by lia))) (by lia) ⟨aL.refl _,.nil⟩ (fun i ys H' _ ⟨s,_⟩=>⟨bV.of (s _ _ gx),bV.of (s _ _ gq)⟩) ?_ ?_
  ·rintro i v1 v2 ys H' r h1 h2 hy ⟨s,pr⟩ hr;obtain ⟨zs,ez,q,rfl,_,gq1⟩:=cF qx h1;have hi:i < ls.length:=(aI.mp ez).1;have mz:=ay ez;have wz:=S.wide zs mz
   obtain ⟨j,ej,rfl⟩:∃j:Nat,ps[i]?=some j/\V.int (j:Int)=v2:=by
    unfold nE at h2;rw[aK] at h2;cases e:ps[i]? with
    | none=>rw[e] at h2;cases h2
    | some x=>rw[e] at h2;exact ⟨x,rfl,cm h2⟩
   have ej':ps.getD i 0=j:=by rw[ae,ej];rfl
   have jn:j < n:=by have:=RR.low i (by lia);rw[ej'] at this;exact this
   have sr:aL H' (upd H' r (.tup [.ref q,.int j])):=aL.new hr;have gr:(upd H' r (.tup [.ref q,.int j])) r=some (.tup [.ref q,.int j]):=aM;generalize upd H' r (.tup [.ref q,.int j])=H2 at sr gr ⊢;have s2:=s.trans sr;have iR:i < R.length:=by lia
   have eR:=ag iR;have wRi:=wR _ (aJ iR)
   have ed:zs.getD j 0=d:=by
    have h:=S.val i j;rw[JT ez] at h;have u:=RR.unit i (by lia) i (by lia);rw[if_pos rfl,ej'] at u;rw[u,LP] at h;exact dN.mp h
   have val:∀c,((zs.getD c 0:Int):Rat)=(d:Rat)*(R[i]).getD c 0:=fun c=>by
    have h:=S.val i c;rw[JT ez] at h;rw[h];unfold cS;rw[ae (l:=R),eR];rfl
   walk_at "w";refine ⟨⟨_,bV.of (s2 _ _ gq1)⟩,?_⟩;refine fY (K:=K) (xs:=zs.map V.int) (fun c ys' H3=>aL H2 H3/\Paired (cC K H3) ((R[i]).take c) ys') (aY (bO (by rw[ar];lia))) ⟨aL.refl _,.nil⟩ (fun c ys' H3 _ ⟨s3,_⟩=>bV.of ((s2.trans s3) _ _ gq1)) ?_ ?_
   ·rintro c x ys' H3 hx hlen ⟨s3,pr3⟩
    obtain ⟨z,ec,rfl⟩:∃z,zs[c]?=some z/\V.int z=x:=by
     rw[aK] at hx;cases e:zs[c]? with
     | none=>rw[e] at hx;cases hx
     | some x=>rw[e] at hx;exact ⟨x,rfl,cm hx⟩
    have hc:c < zs.length:=(aI.mp ec).1;have vc:=val c;have e1:zs.getD c 0=z:=by rw[ae,ec];rfl
    rw[e1] at vc;walk_at "w";refine cB (bV.of ((s2.trans s3) _ _ gq1)) (Au (by lia)) ?_;rw[ed];walk_at "w";refine ⟨z,d,rfl,S.d0,dsz,fun r4 H4 s4 g4=>?_⟩;have ec':(R[i])[c]?=some ((R[i]).getD c 0):=by rw[ae,ag (show c < (R[i]).length by lia)];rfl
    refine ⟨s3.trans s4,?_⟩;rw[take_snoc ec'];refine b6 (Paired.imp' (fun _ _ z=>cC.same z s4) pr3) (.cons (cC.mk g4 ?_) .nil);rcases Int.lt_or_lt_of_ne S.d0 with hd | hd
    ·rw[if_pos hd,if_pos hd];refine tw (by lia) ?_;rw[dM,dM,vc];grind
    ·rw[if_neg (by lia),if_neg (by lia)];refine tw hd ?_;rw[vc];grind
   ·rintro ys' H3 hy' ⟨s3,pr3⟩ l4 hl4;have sn:aL H3 (upd H3 l4 (.lst ys')):=aL.new hl4;refine ⟨(s2.trans s3).trans sn,?_⟩;rw[take_snoc eR];rw[aH (by rw[ar];lia)] at pr3;exact b6 (Paired.imp' (fun _ _ z=>dB.same z ((sr.trans s3).trans sn)) pr) (.cons ⟨l4,rfl,(s2.trans s3).none hl4,ys',aM,Paired.imp' (fun _ _ z=>cC.same z sn) pr3⟩ .nil)
  ·rintro ys H' hy ⟨s,pr⟩ r hr;have sn:aL H' (upd H' r (.lst ys)):=aL.new hr;rw[aH (by lia)] at pr;refine k r R ps d.natAbs _ (s1.none (s.none hr)) ((s1.trans s).trans sn) ⟨ys,aM,Paired.imp' (fun _ _ z=>(dB.weak z s1).same sn) pr,pN (H0:=H1) (rows:=R) ⟨H',hr,pr⟩⟩ S.rr S.km ?_ S.dsz S.tp;have:=S.d0
   lia
theorem sT:bx ["one","other","one_bottom","other_bottom","pairs"] ["one","other"] (ax o6):=by walk_at "d"
theorem AX (T : Txt K mg Z) : cN P w K mg base gK 4 Z.v9 Z.vS ["one", "other"] (GQ K) := by
  have uB := sD (P := P) (w := w) (base := base) T;have zM := xN (P := P) (w := w) (base := base) T;have LM := vQ (P := P) (w := w) (base := base) T;refine T.wB.ok sT (fun vs H Q E h => ?_) (fun cdv A outer s H vs Q E hr h => ?_)
  · obtain ⟨p, q, xs, ys, rfl, hp, hq, hl, hz, ⟨k1, j1, k2, j2, h1, h2, hkj⟩, kk⟩ := h;rfl
  · obtain ⟨p, q, xs, ys, rfl, hp, hq, hl, hz, ⟨k1, j1, k2, j2, h1, h2, hkj⟩, kk⟩ := h
    refine ⟨_, (aw (bo (i := 2) sT.nd rfl (Or.inl rfl) (cL uB hr T.iZ T.gN.kp T.jC (aa (pv 0) ai)))
      (aw (bo (i := 3) sT.nd rfl (Or.inl rfl) (cL uB hr T.iZ T.gN.kp T.jC (aa (pv 1) ai)))
      (aw (bo (i := 4) sT.nd rfl (Or.inl rfl) (FI rfl T.list rfl T.zip (aa (cL zM hr T.oh T.nM.kp T.qN (aa (pv 0) (aa (pv 2) ai))) (aa (cL zM hr T.oh T.nM.kp T.qN (aa (pv 1) (aa (pv 3) ai))) ai))))
      (aB (aX (cL LM hr T.sE T.sN.kp T.vv (aa (bJ (LH rfl) (by rfl) T.sum PyProof.Rows.boot_sum (aa (cG ["mine", "yours"] [] [] (cQ (pv 4)) (fun _ => (vP K 2 (cI (aO (i := 0) (show List.Nodup (α := PySem.Str) ["mine", "yours"] by decide +kernel)) (cI (aO (i := 1) (show List.Nodup (α := PySem.Str) ["mine", "yours"] by decide +kernel)) iX)))) (fun _ => cJ) (fun _ => (bN di (pv 0) (pv 1)))) ai)) (aa (bN di (pv 2) (pv 3)) ai)))))))), ?_⟩
    refine aS (σ := [some (.ref p), some (.ref q), none, none, none]) rfl ?_;obtain ⟨M, h1⟩ := h1.rowM (by lia);obtain ⟨N, h2⟩ := h2.rowM (by lia);replace hp := hp.rowK;replace hq := hq.rowK;replace hl : (ys.map nm).length = (xs.map nm).length := by simpa using hl
    replace hz : (xs.map nm).length ≤ 1000 := by simpa using hz
    obtain ⟨b1, s1⟩ := h1.bot;obtain ⟨b2, s2⟩ := h2.bot;have k2 : ∀ r H', aL H H' → H' r = some (.tup [.int (lo (Lz (xs.map nm) (ys.map nm)) (iE (xs.map nm) * iE (ys.map nm))), .int (hi (Lz (xs.map nm) (ys.map nm)) (iE (xs.map nm) * iE (ys.map nm)))]) → Q (.ref r) H' := fun r H' s g => kk r H' s (cC.mk g (Nn b1 b2))
    clear kk;generalize xs.map nm = ns at hp hq hl hz h1 h2 b1 b2 s1 s2 k2;generalize ys.map nm = ms at hp hq hl hz h1 h2 b1 b2 s1 s2 k2;have hb : 0 < iE ns * iE ms := pU b1 b2;walk_at "w";refine ⟨p, ns, M, rfl, hp, hz, h1, fun H1 t1 => ?_⟩;walk_at "w";refine ⟨q, ms, N, rfl, hq.same t1, by lia, h2, fun H2 t2 => ?_⟩;have u2 := t1.trans t2;walk_at "w";refine ⟨p, ns, M, _, rfl, hp.same u2, hz, h1, b1, s1, fun r1 H3 n3 t3 g3 => ?_⟩;walk_at "w";refine ⟨q, ms, N, _, rfl, (hq.same u2).same t3, by lia, h2, b2, s2, fun r2 H4 n4 t4 g4 => ?_⟩;walk_at "w";refine ⟨r1, r2, _, _, rfl, bV.of (t4 _ _ g3), bV.of g4, by simp [fN, hl], fun L ts H5 t5 n5 g5 pr => ?_⟩;have lt := pr.length;have ll : (fN ns (iE ns)).length = ns.length := by simp [fN]
    have lm : (fN ms (iE ms)).length = ns.length := by simp [fN, hl]
    rw [BG, ar, ar, ll, lm] at lt;walk_at "w";refine ⟨⟨_, bV.of g5⟩, ?_⟩;refine fY (K := K) (xs := ts) (fun i ys H' => H' = H5 /\ ys = ((List.zipWith (· * ·) (fN ns (iE ns)) (fN ms (iE ms))).take i).map V.int) (aY (bO (by lia))) ⟨rfl, rfl⟩ (fun i ys H' _ ⟨e, _⟩ => by subst e; exact bV.of g5) ?_ ?_
    · rintro i x ys H' hx hlen ⟨rfl, rfl⟩;obtain ⟨pq, epq, T, rfl, gT⟩ := cF pr hx;obtain ⟨t, u, et, eu, rfl⟩ := L0 epq;walk_at "w";refine gG (show jk _ _ from .inr ⟨_, _, Ed h1 b1 s1 (ay et), Ed h2 b2 s2 (ay eu), by decide⟩) ?_;have ez : (List.zipWith (· * ·) (fN ns (iE ns)) (fN ms (iE ms)))[i]? = some (t * u) := by rw [bY, et, eu]
      exact ⟨rfl, by rw [take_snoc ez]; simp⟩
    · rintro ys H' hy ⟨rfl, rfl⟩ l hl';walk_at "w";refine ⟨l, List.zipWith (· * ·) (fN ns (iE ns)) (fN ms (iE ms)), rfl, bV.of (by rw [aM, aH (by rw [b9]; lia)]), ?_⟩;walk_at "w";refine gG (show jk _ _ from .inr ⟨_, _, s1, s2, by decide⟩) ?_;walk_at "w";refine ⟨_, _, rfl, by lia, (s1.mul s2).mono (by decide), fun r H6 t6 g6 => ?_⟩;rw [if_neg (by lia), if_neg (by lia)] at g6;exact k2 r H6 ((((u2.trans t3).trans t4).trans t5).trans ((aL.new hl').trans t6)) g6
theorem Fz:bx ["grid","row"] ["grid","row"] (ax o9):=by walk_at "d"
theorem FO (T:Txt K mg Z):cN P w K mg base gK 5 Z.wg Z.vV ["grid","row"] (GO K):=by
 refine T.zi.ok Fz (fun vs H Q E h=>?_) (fun cdv A outer s H vs Q E hr h=>?_)
 ·obtain ⟨p,q,H0,rows,ys,rfl,hp,hq,hz,hl,hr1,kk⟩:=h;rfl
 ·obtain ⟨p,q,H0,rows,ys,rfl,hp,hq,hz,hl,hr1,kk⟩:=h;refine ⟨_,(aB (aX (cG ["line"] ["row"] [1] (cQ (pv 0)) (fun _=>(aO (i:=0) (show List.Nodup (α:=PySem.Str) ["line","row"] by decide +kernel))) (fun _=>cJ) (fun _=>(cL (AX T) hr T.xv T.wB.kp T.y7 (aa (pv 0) (aa (pv 1) ai))))))),?_⟩;refine aS (σ:=[some (.ref p),some (.ref q)]) rfl ?_;obtain ⟨xs,gx,qx,_⟩:=id hp;walk_at "w";refine ⟨⟨_,bV.of gx⟩,?_⟩;refine fB (K:=K) (F:=dB K H0) (cC K) (fun xs=>dh xs ys) gx qx hz (fun a b=>a.same b) (fun a b=>a.same b) ?_ ?_
  ·rintro i ns x H' NY NN en s ⟨u,rfl,_,hu⟩ k;obtain ⟨e1,e2⟩:=hr1 ns (ay en);walk_at "w";exact ⟨u,q,ns,ys,rfl,hu,hq.same s,e1.symm,by lia,e2,fun r H2 s2 h2'=>k _ _ s2 h2'⟩
  ·rintro ys' H' r hr s g pr nx;exact kk r H' hr s ⟨ys',g,pr⟩
theorem BL:bx ["system","rows"] ["system","rows"] (ax iM):=by walk_at "d"
theorem wM (T:Txt K mg Z):cN P w K mg base gK 6 Z.oJ Z.oq ["system","rows"] (IB K Z.a_System):=by
 refine T.oV.ok BL (fun vs H Q E h=>?_) (fun cdv A outer s H vs Q E hr h=>?_)
 ·obtain ⟨x,p,H0,H1,mv,pt,lk,R,rfl,S,D,G,l100,wR,hf,k⟩:=h;rfl
 ·obtain ⟨x,p,H0,H1,mv,pt,lk,R,rfl,S,D,G,l100,wR,hf,k⟩:=h;refine ⟨_,(aB (aX (cG ["row"] ["system"] [0] (cQ (pv 1)) (fun _=>(aO (i:=0) (show List.Nodup (α:=PySem.Str) ["row","system"] by decide +kernel))) (fun _=>cJ) (fun _=>(cL (FO T) hr T.A7 T.zi.kp T.CJ (aa (GX K (pv 1) rfl) (aa (pv 0) ai))))))),?_⟩;refine aS (σ:=[some (.ref x),some (.ref p)]) rfl ?_;obtain ⟨dx,a',b',c',gx,_,_,_,Ga,Gb,Gc⟩:=id S;have d8:=D.n8;obtain ⟨xs,gxs,qx,_⟩:=id G;walk_at "w";refine ⟨⟨_,bV.of gxs⟩,?_⟩;refine fB (K:=K) (F:=dB K H1) (dB K H) (uG mv) gxs qx (by lia) (fun a b=>a.same b) (fun a b=>a.same b) ?_ ?_
  ·rintro i ns v H' NY NN en s ⟨u,rfl,_,hu⟩ k1;have mn:=ay en;walk_at "w";refine ⟨x,Z.a_System,dx,_,_,rfl,s _ _ gx,T.cl_System,T.na_move,Eh,?_⟩;walk_at "w";exact ⟨a',u,H0,mv,ns,rfl,Ga.same s,hu,by lia,by rw[wR ns mn];lia,fun xs hx=>⟨by rw[D.mw xs hx,wR ns mn],hf xs hx ns mn⟩,fun r H2 nr s2 R2=>k1 _ _ s2 ⟨r,rfl,s.none nr,R2⟩⟩
  ·rintro ys H' r hr s g pr nx;exact k r H' hr s ⟨ys,g,pr,pN nx⟩
theorem pE:bx ["system","steps","lists","rows"] ["system","steps"] (ax gQ):=by walk_at "d"
theorem AY (T:Txt K mg Z):cN P w K mg base gK 7 Z.mN Z.mo ["system","steps"] (II K Z.a_System):=by
 refine T.rR.ok pE (fun vs H Q E h=>?_) (fun cdv A outer s H vs Q E hr h=>?_)
 ·obtain ⟨x,a,c,st,H0,mv,pt,lk,rfl,s1000,S,D,F,k⟩:=h;rfl
 ·obtain ⟨x,a,c,st,H0,mv,pt,lk,rfl,s1000,S,D,F,k⟩:=h
  refine ⟨_,(aw (bo (i:=2) pE.nd rfl (Or.inl rfl) (dJ (aa (dJ ai) ai)))
   (aw (AJ PassesOwn.never (bH QI (bJ bu (by rfl) T.len aV (aa (pv 2) ai)) (pv 1) (bM _))
    (aw (bo (i:=3) pE.nd rfl (Or.inl rfl) (cL (FL T) hr T.A5 T.zg.kp T.CH (aa (bN ky (kx (pv 0) rfl) (cL (wM T) hr T.rJ T.oV.kp T.tQ (aa (pv 0) (aa (aW bL (pv 2) (zm uJ ak)) ai)))) (aa (kx (pv 0) rfl) ai))))
   (aw (dc (bH eP (bJ bu (by rfl) T.len aV (aa (pv 3) ai)) (bJ bu (by rfl) T.len aV (aa (aW bL (pv 2) (zm uJ ak)) ai)) (bM _)) (aB (aX (pv 2))) bZ)
   (aB (md (AR dQ fo fk pB (pv 2) (aa (pv 3) ai)))))))
   (aB (aX (pv 2))))),?_⟩
  refine aS (σ:=[some (.ref x),some (.int st),none,none]) rfl ?_;obtain ⟨dx,a',b',c',gx,_,_,_,Ga,Gb,Gc⟩:=id S;have d8:=D.n8;have i4:=D.i4;have lP:=gM (mv:=mv) (pt:=pt) rfl D.pw;walk_at "w";refine dg fun q0 H1 s1 nq0 g1=>?_
  walk_at "w";refine dg fun l H2 s2 nl g2=>?_
  have s02:=s1.trans s2;have nl0:H l=none:=s1.none nl;obtain ⟨Hz,eHz⟩:∃Hz,Hz=upd H l (.lst []):=⟨_,rfl⟩;have zl:Hz l≠none:=by rw[eHz,aM];exact fun z=>nomatch z
  have zn:∀q,Hz q=none->H q=none/\q≠l:=fun q h=>by
   have ne:q≠l:=fun z=>zl (by rw[<- z];exact h)
   rw[eHz,bI ne] at h;exact ⟨h,ne⟩
  have nz:∀q,H q=none->q≠l->Hz q=none:=fun q h ne=>by rw[eHz,bI ne];exact h
  clear eHz;have q0l:q0≠l:=fun z=>by rw[z,nl] at g1;cases g1
  have G0:bR K Hz H2 q0 []:=⟨[],s2 _ _ g1,.nil,fun z=>nomatch z⟩;walk_at "w";refine CQ (fun σ' H'=>aL H H'/\∃Rs R us y,σ'=[some (.ref x),some (.int st),some (.ref l),y]/\H' l=some (.lst us)/\Paired (fun R v=>∃q,v=V.ref q/\Hz q=none/\bR K Hz H' q R) (Rs++[R]) us/\BA mv pt (Rs++[R])/\Rs.length<=st) (fun _ H'=>match H' l with | some (.lst us)=>st+1 - us.length | _=>0) ⟨s02,[],[],_,_,rfl,g2,.cons ⟨q0,rfl,nz q0 nq0 q0l,G0⟩ .nil,⟨by simp,fun t R e=>?_,fun t R R' e e'=>?_⟩,bD _⟩ ?_
  ·have ht:=(aI.mp e).1;have:t=0:=by simpa using ht
   subst this;cases e;exact ⟨[],OD⟩
  ·have ht:=(aI.mp e').1;simp at ht
  rintro σ' Ha ⟨sa,Rs,R,us,y,rfl,gu,pa,Gw,hst⟩;have lu:=pa.length;rw[av,bU] at lu;have eR:(Rs++[R])[Rs.length]?=some R:=by rw[aZ (ao _),fQ];rfl
  obtain ⟨ps,RR⟩:=Gw.rr _ _ eR;have tn:Rs.length<=mv.length:=by have:=Gw.len _ _ eR;have:=RR.le;have:=RR.1;lia
  have fin:∀(Hx:Hp) (sx:aL Ha Hx) (hh:∀s,(Rs.length=st/\s=st\/Rs.length < st/\Rs.length<=s)->∃ps,cM (kry mv pt s) mv.length R ps),Q (.ref l) Hx:=fun Hx sx hh=>by
   refine k l (Rs++[R]) Hx nl0 (sa.trans sx) ⟨us,sx _ _ gu,Paired.imp' (fun _ _ ⟨q,e1,e2,e3⟩=>⟨q,e1,(zn q e2).1,(zn q e2).2,bR.weakN (bR.same e3 sx) fun q h=>(zn q h).1⟩) pa⟩ Gw (by rw[av,bU];lia) fun R2 e2 s hs=>?_
   rw[List.getLast?_concat] at e2;cases e2;rw[av,bU,Nat.add_sub_cancel] at hs;exact hh s hs
  walk_at "w";refine ⟨_,_,rfl,.inl (bV.of gu),?_⟩;walk_at "w";refine iq (fun h0=>?_) (fun h0=>?_)
  ·have h0:=of_decide_eq_true h0;refine NO ?_
   obtain ⟨zs,gS⟩:∃zs q,us=zs++[V.ref q]/\Hz q=none/\bR K Hz Ha q R:=by
    obtain ⟨v,ev,q,rfl,e2,e3⟩:∃v,us[Rs.length]?=some v/\∃q,v=V.ref q/\Hz q=none/\bR K Hz Ha q R:=by
     have ev:=ag (show Rs.length < us.length by lia);obtain ⟨R2,e2,w⟩:=cF pa ev;rw[eR] at e2;cases e2;exact ⟨_,ev,w⟩
    refine ⟨us.take Rs.length,q,?_,e2,e3⟩;rw[<- take_snoc ev,aH (by lia)]
   obtain ⟨q,rfl,zq,Gq⟩:=gS;have gxa:=sa _ _ gx;walk_at "w";refine ⟨x,Z.a_System,dx,_,_,rfl,gxa,T.cl_System,T.na_put,CW,?_⟩;walk_at "w";refine cB (bV.of gu) (yr _ _) ?_;have wR:=RR.2.1;have lR:=RR.1;have pn:=RR.le;walk_at "w";refine ⟨x,q,H0,Hz,mv,pt,lk,R,rfl,S.same sa,D,Gq,by lia,wR,F.fit d8 D.mw D.pw tn RR,fun mr Hb nmr sb Gm=>?_⟩;obtain ⟨pv,gpv,qpv,_⟩:=Gb.same (sa.trans sb);obtain ⟨mvs,gmv,qmv,_⟩:=id Gm;have lpv:=qpv.length;have lmv:=qmv.length;rw[ar] at lmv;walk_at "w";refine kr gpv gmv (aY (bO (by lia))) fun cr Hc sc nc gc=>?_
   have sab:=sa.trans (sb.trans sc);have Gc':bR K (fun _=>none) Hc cr (pt++R.map (uG mv)):=yV (H:=Hb) (b6 (Paired.imp' (fun _ _ ⟨q,e1,e2,e3⟩=>⟨q,e1,rfl,e3⟩) qpv) (Paired.imp' (fun _ _ ⟨q,e1,e2,e3⟩=>⟨q,e1,rfl,e3⟩) qmv)) sc nc gc;walk_at "w";refine ⟨x,Z.a_System,dx,_,_,rfl,sab _ _ gx,T.cl_System,T.na_states,xk,?_⟩;walk_at "w";refine ⟨cr,mv.length,_,_,_,rfl,Gc',by rw[av,ar];lia,by lia,fun xs hx=>?_,F.step d8 D.mw D.pw tn RR,fun rr R' ps' M' Hd nrr sd G' RR' pm' _ _ _=>?_⟩
   ·rcases az.mp hx with hx | hx
    ·exact D.pw xs hx
    ·obtain ⟨y,_,rfl⟩:=aD.mp hx;exact Dj
   have sbd:=sb.trans (sc.trans sd);have sad:=sa.trans sbd;have K1:=Bl rfl D.mw D.pw RR RR';have gud:=sbd _ _ gu;obtain ⟨rv,grv,qrv,_⟩:=id G';have lrv:=qrv.length;have lR':=RR'.1;have pn':=RR'.le;walk_at "w";refine ⟨_,_,rfl,.inl (bV.of grv),?_⟩;walk_at "w";refine cB (bV.of gud) (yr _ _) ?_;obtain ⟨ov,gov,qov,_⟩:=Gq.same sbd;have lov:=qov.length;walk_at "w";refine ⟨_,_,rfl,.inl (bV.of gov),?_⟩;walk_at "w";refine iq (fun h1=>?_) (fun h1=>?_)
   ·have h1:=of_decide_eq_true h1;walk_at "w";refine fin Hd sbd fun s hs=>⟨ps,?_⟩
    obtain ⟨s',rfl⟩:∃s',s=Rs.length+s':=⟨s - Rs.length,by lia⟩;exact Jq rfl D.mw D.pw RR RR' (by lia) s'
   ·have h1:¬((rv.length:Int)=ov.length):=fun z=>h1 (decide_eq_true z)
    have gr:=K9 rfl D.mw D.pw RR K1;have rl:rr≠l:=fun z=>by rw[z,(sb.trans sc) _ _ gu] at nrr;cases nrr
    have zc:∀q,Hc q=none->Hz q=none:=fun q h=>nz q (sab.none h) (fun z=>by rw[z,(sb.trans sc) _ _ gu] at h;cases h)
    walk_at "w";refine ⟨.inl ⟨rfl,_,bV.of gud⟩,?_⟩;walk_at "w";refine pA gud (bO (by lia)) ?_;refine ⟨⟨sad.after nl0,Rs++[R],R',_,_,rfl,aM,b6 (Paired.imp' (fun _ _ ⟨q,e1,e2,e3⟩=>⟨q,e1,e2,bR.updL (bR.same e3 sbd) gud zl (zn q e2).2⟩) pa) (.cons ⟨rr,rfl,zc rr nrr,bR.updL (G'.weakN zc) gud zl rl⟩ .nil),Gw.snoc K1 (by lia),by rw[av,bU];lia⟩,?_⟩;simp only[gu,aM,av,bU] at lu h0 ⊢
    lia
  ·have h0:¬((us.length:Int)<=st):=fun z=>h0 (decide_eq_true z)
   walk_at "w"
   exact fin Ha (aL.refl _) fun s hs=>⟨ps,by
    have:s=Rs.length:=by lia
    rw[this];exact RR⟩
theorem C6:bx ["lists","joined","each"] ["lists"] (ax yL):=by walk_at "d"
theorem M7 (T:Txt K mg Z):cN P w K mg base gK 1 Z.DU Z.DJ ["lists"] (Kh K):=by
 refine T.GA.ok C6 (fun vs H Q E h=>?_) (fun cdv A outer s H vs Q E hr h=>?_)
 ·obtain ⟨p,xs,Rs,rfl,gx,qx,hl,k⟩:=h;rfl
 ·obtain ⟨p,xs,Rs,rfl,gx,qx,hl,k⟩:=h
  refine ⟨_,(aw (bo (i:=1) C6.nd rfl (Or.inl rfl) (dJ ai))
   (aw (d7 PassesOwn.never rfl (cQ (pv 0)) (aO (i:=2) C6.nd)
    (aB (md (AR dQ PySem.F.slot_list_extend PySem.F.type_list_extend Jk (pv 1) (aa (pv 2) ai)))))
   (aB (aX (pv 1))))),?_⟩
  refine aS (σ:=[some (.ref p),none,none]) rfl ?_;have lx:=qx.length;walk_at "w";refine dg fun j H1 s1 n1 g1=>?_
  walk_at "w";refine ⟨⟨_,bV.of (s1 _ _ gx)⟩,?_⟩;refine jv (K:=K) (a:=p) (xs:=xs) (fun i σ' H'=>aL H H'/\∃(us:List V) (x:Option V),σ'=[some (.ref p),some (.ref j),x]/\H' j=some (.lst us)/\Paired (dB K (BV j) H') (Rs.take i).flatten us) ⟨s1,[],none,rfl,g1,.nil⟩ (fun i σ' H' _ ⟨s,_⟩=>bV.of (s _ _ gx)) ?_ ?_
  ·rintro i x σ' H' hx ⟨s,us,y,rfl,gj,pr⟩;obtain ⟨qs,eq,q,rfl,_,Gq⟩:=cF qx hx;obtain ⟨qj,zs,gz,qz,_⟩:=Gq.off n1;have lz:=qz.length;have lu:=pr.length;have tl:(Rs.take (i+1)).flatten=(Rs.take i).flatten++qs:=by rw[take_snoc eq,ji];simp
   have bl:(Rs.take i).flatten.length+qs.length<=1000:=by
    have e:Rs.flatten=(Rs.take (i+1)).flatten++(Rs.drop (i+1)).flatten:=by rw[<- ji,List.take_append_drop]
    rw[e,tl,av,av] at hl
    lia
   walk_at "w";refine ⟨.inl ⟨rfl,_,bV.of gj⟩,?_⟩;walk_at "w";refine ⟨j,q,us,zs,rfl,rfl,gj,s _ _ gz,aY (bO (by lia)),?_⟩;refine ⟨s.after n1,_,_,rfl,aM,?_⟩;rw[tl];exact b6 (Paired.imp' (fun _ _ z=>dB.updL z gj off_ne) pr) (Paired.imp' (fun _ _ z=>dB.updL (dB.same z s) gj off_ne) qz)
  ·rintro σ' H' ⟨s,us,y,rfl,gj,pr⟩;rw[aH (by lia)] at pr;walk_at "w";refine k j (BV j) H' n1 s ⟨us,gj,pr,fun z=>?_⟩;obtain ⟨_,_,q,e,h,_⟩:=dd pr z;cases e;exact off_ne h
theorem kj:bx ["system","steps","lists","rows","step"] ["system","steps"] (ax jR):=by walk_at "d"
theorem Dm (T:Txt K mg Z):cN P w K mg base gK 7 Z.qW Z.qA ["system","steps"] (Kk K Z.a_System):=by
 refine T.vE.ok kj (fun vs H Q E h=>?_) (fun cdv A outer s H vs Q E hr h=>?_)
 ·obtain ⟨x,u,a,c,H0,mv,pt,lk,rfl,hu,S,D,F,k⟩:=h;rfl
 ·obtain ⟨x,u,a,c,H0,mv,pt,lk,rfl,hu,S,D,F,k⟩:=h
  refine ⟨_,(aw (bo (i:=2) kj.nd rfl (Or.inl rfl) (dJ ai))
   (aw (bo (i:=3) kj.nd rfl (Or.inl rfl) (kx (pv 0) rfl))
   (aw (d7 PassesOwn.never rfl (cx rfl T.range (aa (pv 1) ai)) (aO (i:=4) kj.nd)
    (aw (md (AR dQ fo fk pB (pv 2) (aa (pv 3) ai)))
   (aB (bo (i:=3) kj.nd rfl (Or.inl rfl) (cL (wM T) hr T.rJ T.oV.kp T.tQ (aa (pv 0) (aa (pv 3) ai)))))))
   (aB (aX (pv 2)))))),?_⟩
  refine aS (σ:=[some (.ref x),some (.int u),none,none,none]) rfl ?_;obtain ⟨dx,a',b',c',gx,_,_,_,Ga,Gb,Gc⟩:=id S;have d8:=D.n8;have i4:=D.i4;walk_at "w";refine dg fun l H1 s1 n1 g1=>?_
  walk_at "w";refine ⟨x,Z.a_System,dx,_,_,rfl,s1 _ _ gx,T.cl_System,T.na_put,CW,?_⟩;walk_at "w";obtain ⟨bl,G0⟩:=Gb.off n1;have G1:=G0.same s1;refine ⟨by lia,by lia,?_⟩;refine eG (n:=u) (fun i σ' H'=>aL H H'/\∃q us y,σ'=[some (.ref x),some (.int u),some (.ref l),some (.ref q),y]/\q≠l/\H' l=some (.lst us)/\Paired (JI K l H') (JC mv pt i) us/\bR K (BV l) H' q (pt.map (jq mv i))) ⟨s1,b',[],_,rfl,bl,g1,.nil,by rw[show pt.map (jq mv 0)=pt from uF pt];exact G1⟩ ?_ ?_
  ·rintro i σ' H' hi ⟨s',q,us,y,rfl,ql,gu,pu,Gq⟩;have lu:=pu.length;have la:(JC mv pt i).length=i:=by unfold JC;rw[ar,cK]
   walk_at "w";refine ⟨.inl ⟨rfl,_,bV.of gu⟩,?_⟩;walk_at "w";refine pA gu (bO (by lia)) ?_;have s2:aL H (upd H' l (.lst (us++[V.ref q]))):=s'.after n1;have g2:(upd H' l (.lst (us++[V.ref q]))) l=some (.lst (us++[V.ref q])):=aM
   have p2:Paired (JI K l (upd H' l (.lst (us++[V.ref q])))) (JC mv pt (i+1)) (us++[V.ref q]):=by
    rw[DT];exact b6 (Paired.imp' (fun _ _ z=>JI.upd z gu) pu) (.cons ⟨q,rfl,ql,Gq.updL gu off_ne ql⟩ .nil)
   have Gq2:=Gq.updL (o:=.lst (us++[V.ref q])) gu off_ne ql;generalize upd H' l (.lst (us++[V.ref q]))=H2 at s2 g2 p2 Gq2 ⊢;walk_at "w";refine ⟨x,q,H0,BV l,mv,pt,lk,_,rfl,S.same s2,D,Gq2,by rw[ar];lia,fun r hr=>?_,F.fitP D.mw D.pw (by lia),fun r H3 nr s3 G3=>?_⟩
   ·obtain ⟨y,hy,rfl⟩:=aD.mp hr;exact gH (D.pw y hy) i
   ·have e:(pt.map (jq mv i)).map (uG mv)=pt.map (jq mv (i+1)):=by rw[wD];rfl
    rw[e] at G3;exact ⟨s2.trans s3,r,_,_,rfl,fun z=>(by rw[z,g2] at nr;cases nr),s3 _ _ g2,Paired.imp' (fun _ _ z=>JI.same z s3) p2,G3.weakN fun q h=>KR fun z=>by rw[z,g2] at h;cases h⟩
  ·rintro σ' H' ⟨s',q,us,y,rfl,ql,gu,pu,Gq⟩;walk_at "w";exact k l us H' n1 s' gu pu
theorem BK:bx ["many"] ["many"] (ax iL):=by walk_at "d"
theorem rE (T:Txt K mg Z):cN P w K mg base gK 1 Z.oI Z.oo ["many"] (Ot K):=by
 refine T.kR.ok BK (fun vs H Q E h=>?_) (fun cdv A outer s H vs Q E hr h=>?_)
 ·obtain ⟨m,rfl,hm,k⟩:=h;rfl
 ·obtain ⟨m,rfl,hm,k⟩:=h;refine ⟨_,(aB (aX (cG ["place"] [] [] (cx rfl T.range (aa (pv 0) ai)) (fun _=>(aO (i:=0) (show List.Nodup (α:=PySem.Str) ["place"] by decide +kernel))) (fun _=>cJ) (fun _=>(xM (v:=.ref Z.a_NOUGHT) rfl T.mg_NOUGHT rfl))))),?_⟩;refine aS (σ:=[some (.int m)]) rfl ?_;walk_at "w";refine ⟨by lia,by lia,?_⟩;refine fX (n:=m) (cC K) (fun _=>0) (by lia) (fun a b=>a.same b) ?_ ?_
  ·rintro i Ha NY NN hi sa k1;walk_at "w";exact k1 _ _ (aL.refl _) ⟨_,rfl,T.sq_NOUGHT _⟩
  ·rintro ys H1 t ht s1 g1 pr _;exact k t H1 ht s1 ⟨ys,g1,by rw[<- K3];exact pr⟩
theorem rX:bx ["rows","wide","due","found","answer","line","lead"] ["rows","wide","due"] (ax rY):=by walk_at "d"
theorem Cm (T:Txt K mg Z):cN P w K mg base gK 5 Z.yt Z.yf ["rows","wide","due"] (Fo K):=by
 refine T.yy.ok rX (fun vs H Q E h=>?_) (fun cdv A outer s H vs Q E hr h=>?_)
 ·obtain ⟨p,q,n,w,H0,rows,due,rfl,G,Rd,hd,m99,n99,hw,F,k1,k2⟩:=h;rfl
 ·obtain ⟨p,q,n,w,H0,rows,due,rfl,G,Rd,hd,m99,n99,hw,F,k1,k2⟩:=h
  refine ⟨_,(aw (bo (i:=3) rX.nd rfl (Or.inl rfl) (cL (EA T) hr T.A4 T.An.kp T.DO (aa (cG ["row","wanted"] [] [] (vO rfl T.zip (aa (pv 0) (aa (pv 2) ai))) (fun _=>(vP K 2 (cI (aO (i:=0) (show List.Nodup (α:=PySem.Str) ["row","wanted"] by decide +kernel)) (cI (aO (i:=1) (show List.Nodup (α:=PySem.Str) ["row","wanted"] by decide +kernel)) iX)))) (fun _=>cJ) (fun _=>(bN ky (pv 0) (dJ (aa (pv 1) ai))))) (aa (bN fv (pv 1) ak) ai))))
   (aw (dc (bH Jd (pv 1) (aW b8 (pv 3) ak) (by with_unfolding_all rfl)) (aB (aX Dh)) bZ)
   (aw (bo (i:=4) rX.nd rfl (Or.inl rfl) (cL (rE T) hr T.me T.kR.kp T.oF (aa (pv 1) ai)))
   (aw (d7 PassesOwn.never rfl (vO rfl T.zip (aa (aW b8 (pv 3) ak) (aa (aW b8 (pv 3) ak) ai))) (uS rfl (cI (aO (i:=5) rX.nd) (cI (aO (i:=6) rX.nd) iX)))
    (aB (ff (cL (vQ T) hr T.sE T.sN.kp T.vv (aa (aW bL (pv 5) (pv 1)) (aa (aW bL (pv 5) (pv 6)) ai))) (h9 (pv 4) (pv 6) set_list))))
   (aB (aX (pv 4))))))),?_⟩
  refine aS (σ:=[some (.ref p),some (.int n),some (.ref q),none,none,none,none]) rfl ?_;obtain ⟨xs,gx,qx,_⟩:=id G;obtain ⟨ds,gd,qd⟩:=id Rd;have lx:=qx.length;have ld:=qd.length;have lj:=rM hd;walk_at "w";refine ⟨⟨_,bV.of gx⟩,⟨_,bV.of gd⟩,?_⟩;refine vo (K:=K) (xs:=xs) (ws:=ds) (fun i ys H'=>aL H H'/\Paired (dB K H H') ((df rows due).take i) ys) (aY (bO (by lia))) (by lia) ⟨aL.refl _,.nil⟩ (fun i ys H' _ ⟨s,_⟩=>⟨bV.of (s _ _ gx),bV.of (s _ _ gd)⟩) ?_ ?_
  ·rintro i v1 v2 ys H' r h1 h2 hy ⟨s,pr⟩ hr;obtain ⟨row,er,u,rfl,_,Ru⟩:=cF qx h1;obtain ⟨d,ed,nd⟩:=cF qd h2;have wr:=hw row (ay er);have sr:aL H' (upd H' r (.tup [.ref u,v2])):=aL.new hr;have gr:(upd H' r (.tup [.ref u,v2])) r=some (.tup [.ref u,v2]):=aM;generalize upd H' r (.tup [.ref u,v2])=H2 at sr gr ⊢;have s2:=s.trans sr;walk_at "w";refine dg fun l1 H3 s3 n3 g3=>?_
   have s23:=s2.trans s3;obtain ⟨zs,gz,qz⟩:=Ru.same s23;have lz:=qz.length;walk_at "w";refine kr gz g3 (aY (bO (by rw[bU];lia))) fun l2 H4 s4 n4 g4=>?_
   refine ⟨s23.trans s4,?_⟩;rw[take_snoc (NU er ed)];exact b6 (Paired.imp' (fun _ _ z=>dB.same z ((sr.trans s3).trans s4)) pr) (.cons ⟨l2,rfl,s23.none n4,_,g4,Paired.imp' (fun _ _ z=>cC.same z s4) (b6 qz (.cons (nd.same s23) .nil))⟩ .nil)
  rintro ys H1 hy ⟨s1,pr⟩ l hl;have sn:aL H1 (upd H1 l (.lst ys)):=aL.new hl;have gn:(upd H1 l (.lst ys)) l=some (.lst ys):=aM;rw[aH (by lia)] at pr;generalize upd H1 l (.lst ys)=H2 at sn gn ⊢;have GJ:bR K H H2 l (df rows due):=yV pr sn hl gn;have s02:=s1.trans sn;walk_at "w";rw[show ((n:Int)+1)=((n+1:Nat):Int) by lia];refine ⟨l,n+1,w,H,_,rfl,GJ,by lia,by lia,ya hw,F,fun t lp qp R ps d ls H3 gt gq GZ s3 S=>?_⟩;have s03:=s02.trans s3;have pn:=S.rr.le;walk_at "w";refine ⟨qp,nE ps,rfl,.inl (bV.of gq),rfl,Jj,?_⟩;rw[Lc];by_cases hn:n∈ps
  ·rw[decide_eq_true hn,show (if false=true then !true else true)=true from rfl];walk_at "w";exact k2 R ps H3 S.rr hn s03
  ·rw[decide_eq_false hn,show (if false=true then !false else false)=false from rfl];obtain ⟨lR,wR,rr⟩:=id S.rr;obtain ⟨_,zs,gz,qz⟩:=id GZ;have lz:=qz.length;have hl':=S.len
   have low:∀j,j < ps.length->ps.getD j 0 < n:=fun j hj=>by
    have:=rr.low j hj;have:ps.getD j 0≠n:=fun z=>hn (by rw[<- z];exact getD_in hj)
    lia
   obtain ⟨_,_,_,_,_,_,_,_,_,e89⟩:=id F;rw[lj] at e89;have dsz:Sz 8999 d:=bG S.dsz (dX (by decide) (by rw[lj];lia));have lps:=KS (ps:=ps);walk_at "w";refine ⟨n,rfl,by lia,fun an H4 na s4 R4=>?_⟩;rw[<- Mh (R:=R) (ps:=ps)] at R4;obtain ⟨vs0,g0,q0⟩:=id R4;have gt4:=s4 _ _ gt;walk_at "w";refine ⟨⟨_,bV.of (s4 _ _ gz)⟩,⟨_,bV.of (s4 _ _ gq)⟩,?_⟩;refine Nf (K:=K) (xs:=zs) (ws:=nE ps) (fun j σ' H'=>aL H3 H'/\∃y1 y2 vs,σ'=[some (.ref p),some (.int n),some (.ref q),some (.ref t),some (.ref an),y1,y2]/\H' an=some (.lst vs)/\Paired (cC K H') (xH R ps n j) vs) (by lia) ⟨s4,_,_,vs0,rfl,g0,q0⟩ (fun j σ' H' _ ⟨e,_⟩=>⟨bV.of (e _ _ gz),bV.of (e _ _ gq)⟩) ?_ ?_
   ·rintro j v1 v2 σ' H' r h1 h2 ⟨s',y1,y2,vs,rfl,ga,qa⟩ hr;obtain ⟨line,el,u,rfl,_,gu⟩:=cF qz h1;have wl:=S.wide line (ay el);obtain ⟨pj,ej,rfl⟩:=Na h2;have hj:j < ps.length:=(aI.mp ej).1;have ejD:ps.getD j 0=pj:=by rw[ae,ej];rfl
    have pjn:=low j hj;rw[ejD] at pjn;have v0:=S.val j n;rw[JT el] at v0
    have ed:line.getD pj 0=d:=by
     have h:=S.val j pj;rw[JT el] at h;have u:=rr.unit j hj j hj;rw[if_pos rfl,ejD] at u;rw[u,LP] at h;exact dN.mp h
    have sr:aL H' (upd H' r (.tup [.ref u,.int pj])):=aL.new hr;have gr:(upd H' r (.tup [.ref u,.int pj])) r=some (.tup [.ref u,.int pj]):=aM;generalize upd H' r (.tup [.ref u,.int pj])=H5 at sr gr ⊢;have gu5:=(s'.trans sr) _ _ gu;walk_at "w";refine cB (bV.of gu5) (Au (by lia)) ?_;walk_at "w";refine cB (bV.of gu5) (Au (by lia)) ?_;rw[ed];walk_at "w";refine ⟨_,d,rfl,S.d0,dsz,fun r6 H6 s6 g6=>?_⟩;have d0:(d:Rat)≠0:=fun z=>S.d0 (vp z)
    have n6:cC K H6 (cS R j n) (.ref r6):=by
     refine cC.mk g6 ?_;rcases Int.lt_or_lt_of_ne S.d0 with hd' | hd'
     ·rw[if_pos hd',if_pos hd'];refine tw (by lia) ?_;rw[dM,dM,v0];grind
     ·rw[if_neg (by lia),if_neg (by lia)];refine tw hd' ?_;rw[v0];grind
    have ga6:=(sr.trans s6) _ _ ga;have la:=qa.length;rw[kZ] at la;walk_at "w";refine fh ga6 (fF (by lia)) rfl ?_;refine ⟨((s'.trans sr).trans s6).after na,_,_,_,rfl,aM,?_⟩;rw[<- Mi S.rr hj,ejD];exact lG (Paired.imp' (fun _ _ z=>(cC.same z (sr.trans s6)).updL ga6) qa) pj (n6.updL ga6)
   ·rintro σ' H' ⟨s',y1,y2,vs,rfl,ga,qa⟩;rw[show zs.length=ps.length by lia] at qa;walk_at "w";refine k1 an R ps d.natAbs H' S.rr hn (s03.none na) (s03.trans s') ⟨vs,ga,qa⟩ (by have:=S.d0;lia) (by rw[<- lj];exact S.dsz) ?_;rw[<- lj];exact Qp (by have:=S.d0;lia) S.tp S.rr
theorem AD:bx ["grid","wide"] ["grid","wide"] (ax gU):=by walk_at "d"
theorem pK (T:Txt K mg Z):cN P w K mg base gK 1 Z.mP Z.mB ["grid","wide"] (J7 K):=by
 refine T.jw.ok AD (fun vs H Q E h=>?_) (fun cdv A outer s H vs Q E hr h=>?_)
 ·obtain ⟨p,w,H0,rows,rfl,hp,hz,hw,hl,kk⟩:=h;rfl
 ·obtain ⟨p,w,H0,rows,rfl,hp,hz,hw,hl,kk⟩:=h;refine ⟨_,(aB (aX (cG ["place"] ["grid"] [0] (cx rfl T.range (aa (pv 1) ai)) (fun _=>(aO (i:=0) (show List.Nodup (α:=PySem.Str) ["place","grid"] by decide +kernel) rfl (Or.inr rfl) (Or.inl rfl))) (fun _=>cJ) (fun _=>(cG ["line"] ["place"] [0] (Ez K (pv 1)) (fun _=>(aO (i:=0) (show List.Nodup (α:=PySem.Str) ["line","place"] by decide +kernel))) (fun _=>cJ) (fun _=>(aW (iD K (by rfl)) (pv 0) (pv 1)))))))),?_⟩;refine aS (σ:=[some (.ref p),some (.int w)]) rfl ?_;walk_at "w";refine ⟨by lia,by lia,?_⟩;refine fX (n:=w) (dB K H) (fun j=>rows.map fun xs=>xs.getD j 0) hw (fun a b=>a.same b) ?_ ?_
  ·rintro j H1 NY NN hj s1 k1;obtain ⟨xs,gx,qx,_⟩:=hp.same s1;walk_at "w";refine ⟨⟨_,bV.of gx⟩,?_⟩;refine fB (K:=K) (F:=dB K H0) (cC K) (fun xs=>xs.getD j 0) gx qx hz (fun a b=>a.same b) (fun a b=>a.same b) ?_ ?_
   ·rintro i ns x H2 NY2 NN2 en s2 ⟨u,rfl,_,zs,gz,qz⟩ k2;obtain ⟨v,ev,hv⟩:=Jr qz (j:=j) (by rw[hl ns (ay en)];exact hj);walk_at "w";refine cB (bV.of gz) ev ?_;exact k2 _ _ (aL.refl _) hv
   ·rintro ys' H2 r hr s2 g pr nx;exact k1 _ _ s2 ⟨r,rfl,s1.none hr,ys',g,pr⟩
  ·rintro ys' H1 r hr s1 g pr nx;exact kk r H1 hr s1 ⟨ys',g,pr,pN nx⟩
theorem Az:bx ["rows","wide","due","answer","columns"] ["rows","wide","due"] (ax vM):=by walk_at "d"
theorem KP (T:Txt K mg Z):cN P w K mg base gK 6 Z.Aj Z.Ag ["rows","wide","due"] (Iy K):=by
 refine T.DZ.ok Az (fun vs H Q E h=>?_) (fun cdv A outer s H vs Q E hr h=>?_)
 ·obtain ⟨p,q,n,w,w1,H0,rows,due,rfl,G,Rd,hd,m90,n90,hw,F,F1,k1,k2⟩:=h;rfl
 ·obtain ⟨p,q,n,w,w1,H0,rows,due,rfl,G,Rd,hd,m90,n90,hw,F,F1,k1,k2⟩:=h
  refine ⟨_,(aw (bo (i:=3) Az.nd rfl (Or.inl rfl) (cL (Cm T) hr T.yR T.yy.kp T.Bu (aa (pv 0) (aa (pv 1) (aa (pv 2) ai)))))
   (aw (dc (bH G5 (pv 3) Dh (bM _)) (aB (aX (cZ (aa rC (aa (pv 3) ai))))) bZ)
   (aw (bo (i:=4) Az.nd rfl (Or.inl rfl) (cL (pK T) hr T.kC T.jw.kp T.mJ (aa (pv 0) (aa (pv 1) ai))))
   (aB (aX (cZ (aa rC (aa (cL (Cm T) hr T.yR T.yy.kp T.Bu (aa (bN ky (pv 4) (dJ (aa (pv 2) ai))) (aa (bJ bu (by rfl) T.len aV (aa (pv 0) ai)) (aa (bN ky (cL (rE T) hr T.me T.kR.kp T.oF (aa (pv 1) ai)) (dJ (aa (xM (v:=.ref Z.a_ONE) rfl T.mg_ONE rfl) ai))) ai)))) ai)))))))),?_⟩
  refine aS (σ:=[some (.ref p),some (.int n),some (.ref q),none,none]) rfl ?_;walk_at "w";refine ⟨p,q,n,w,H0,rows,due,rfl,G,Rd,hd,by lia,by lia,hw,F,fun x R ps M H1 RR hn nx s1 Rx M0 M1 tM=>?_,fun R ps H1 RR hn s1=>?_⟩
  ·walk_at "w";refine ⟨rfl,_,rfl,?_⟩;rw[show decide (V.ref x=V.non)=false from decide_eq_false (fun z=>nomatch z)];walk_at "w";refine cu fun t H2 s2 g2=>?_
   exact k1 t x R ps M H2 RR hn g2 nx (s1.trans s2) (Rx.same s2) M0 M1 tM
  ·walk_at "w";refine ⟨rfl,_,rfl,?_⟩;rw[show decide (V.non=V.non)=true from decide_eq_true rfl];walk_at "w";refine ⟨p,n,H0,rows,rfl,G.same s1,by lia,by lia,hw,fun co H2 nc s2 G2=>?_⟩;have s02:=s1.trans s2;walk_at "w";refine dg fun l3 H3 s3 n3 g3=>?_
   obtain ⟨cs,gc,qc,_⟩:=G2.same s3;have lc:=qc.length;rw[dj] at lc;walk_at "w";refine kr gc g3 (aY (bO (by rw[bU];lia))) fun l4 H4 s4 n4 g4=>?_
   have s03:=s02.trans s3;have s04:=s03.trans s4;have G4:bR K (fun _=>none) H4 l4 (cW rows n++[due]):=yV (H:=H3) (b6 (Paired.imp' (fun _ _ ⟨q',a,_,c⟩=>⟨q',a,rfl,c⟩) qc) (.cons ⟨q,rfl,rfl,Rd.same s03⟩ .nil)) s4 n4 g4;obtain ⟨xs,gx,qx,_⟩:=G.same s04;have lx:=qx.length;walk_at "w";refine ⟨_,_,rfl,.inl (bV.of gx),?_⟩;rw[<- lx];walk_at "w";refine ⟨n,rfl,by lia,fun l5 H5 n5 s5 R5=>?_⟩;walk_at "w";refine dg fun l6 H6 s6 n6 g6=>?_
   obtain ⟨zs,gz,qz⟩:=R5.same s6;have lz:=qz.length;rw[aE] at lz;walk_at "w";refine kr gz g6 (aY (bO (by rw[bU];lia))) fun l7 H7 s7 n7 g7=>?_
   have s47:=(s5.trans s6).trans s7;have s07:=s04.trans s47;have R7:cw K H7 l7 (List.replicate n 0++[1]):=⟨_,g7,Paired.imp' (fun _ _ z=>cC.same z s7) (b6 qz (.cons ⟨_,rfl,T.sq_ONE _⟩ .nil))⟩;have l1:(cW rows n++[due]).length=n+1:=by rw[av,dj];rfl
   have w1':∀xs∈cW rows n++[due],xs.length=rows.length:=fun xs hx=>by
    rcases az.mp hx with hx | hx
    ·exact kY xs hx
    ·rw[bT.mp hx];exact hd
   walk_at "w";refine ⟨l4,l7,rows.length,w1,_,_,_,rfl,G4.same s47,R7,by rw[l1,av,aE];rfl,by lia,by lia,w1',F1,fun x R1 p1 M H8 RR1 hn1 nx s8 Rx M0 M1 tM=>?_,fun R1 p1 H8 RR1 hn1 s8=>?_⟩
   ·walk_at "w";refine cu fun t H9 s9 g9=>?_
    rw[l1] at M1 tM;exact k2 t x R ps R1 p1 M H9 RR hn RR1 hn1 g9 (s07.none nx) ((s07.trans s8).trans s9) (Rx.same s9) M0 M1 tM
   ·exact absurd hn1 (IY hd hw RR hn RR1)
theorem uO:bx ["rows","wide","row","answer"] ["rows","wide","row"] (ax gP):=by walk_at "d"
theorem AW (T:Txt K mg Z):cN P w K mg base gK 7 Z.mM Z.mj ["rows","wide","row"] (Ei K):=by
 refine T.rQ.ok uO (fun vs H Q E h=>?_) (fun cdv A outer s H vs Q E hr h=>?_)
 ·obtain ⟨p,q,n,w,w1,H0,rows,row,rfl,G,Rr,hl,m90,n90,hw,F,F1,k1,k2⟩:=h;rfl
 ·obtain ⟨p,q,n,w,w1,H0,rows,row,rfl,G,Rr,hl,m90,n90,hw,F,F1,k1,k2⟩:=h
  refine ⟨_,(aw (bo (i:=3) uO.nd rfl (Or.inl rfl) (cL (KP T) hr T.EH T.DZ.kp T.HX (aa (cL (pK T) hr T.kC T.jw.kp T.mJ (aa (pv 0) (aa (pv 1) ai))) (aa (bJ bu (by rfl) T.len aV (aa (pv 0) ai)) (aa (pv 2) ai)))))
   (aB (aX (cZ (aa (KJ (bH eP (aW b8 (pv 3) ak) rC (bM _)) rC rC) (aa (aW b8 (pv 3) ak) ai)))))),?_⟩
  refine aS (σ:=[some (.ref p),some (.int n),some (.ref q),none]) rfl ?_;walk_at "w";refine ⟨p,n,H0,rows,rfl,G,by lia,by lia,hw,fun co H1 nc s1 G1=>?_⟩;obtain ⟨xs,gx,qx,_⟩:=G.same s1;have lx:=qx.length;walk_at "w";refine ⟨_,_,rfl,.inl (bV.of gx),?_⟩;rw[<- lx];have lT:(cW rows n).length=n:=dj;have eS:JZ (cW rows n) rows.length row=df (rows++[row]) (List.replicate rows.length 0++[1]):=by unfold JZ;rw[Il hw]
  walk_at "w";refine ⟨co,q,rows.length,w,w1,_,cW rows n,row,rfl,G1,Rr.same s1,by lia,by lia,by lia,fun xs hx=>kY xs hx,F,by rw[eS,lT];exact F1,fun t x R ps M H2 RR hn g2 nx s2 Rx M0 M1 tM=>?_,fun t x R ps R1 p1 M H2 RR hn RR1 hn1 g2 nx s2 Rx M0 M1 tM=>?_⟩
  ·rw[lT] at M1 tM;walk_at "w";rw[decide_eq_true rfl];walk_at "w";refine cu fun t2 H3 s3 g3=>?_
   exact k1 t2 x R ps M H3 RR hn g3 (s1.none nx) ((s1.trans s2).trans s3) (Rx.same s3) M0 M1 tM
  ·rw[lT] at M1 tM RR1 hn1 Rx;rw[eS] at RR1;walk_at "w";rw[decide_eq_false (show ¬(Str.ofString "no"=Str.ofString "yes") by decide)];walk_at "w";refine cu fun t2 H3 s3 g3=>?_
   exact k2 t2 x R ps R1 p1 M H3 RR hn RR1 hn1 g3 (s1.none nx) ((s1.trans s2).trans s3) (Rx.same s3) M0 M1 tM
theorem Ko:bx ["one","other"] ["one","other"] (ax vN):=by walk_at "d"
theorem KQ (T:Txt K mg Z):cN P w K mg base gK 3 Z.Ak Z.Ah ["one","other"] (uN K (fun x y=>x - y)):=by
 refine T.D3.ok Ko (fun vs H Q E h=>?_) (fun cdv A outer s H vs Q E hr h=>?_)
 ·obtain ⟨p,q,a,b,c,d,rfl,hp,hq,hb,hd,sa,sb,sc,sd,k⟩:=z7 h;rfl
 ·obtain ⟨p,q,a,b,c,d,rfl,hp,hq,hb,hd,sa,sb,sc,sd,k⟩:=z7 h;refine ⟨_,(aB (aX (cL (vQ T) hr T.sE T.sN.kp T.vv (aa (bN lK (bN di (aW b8 (pv 0) ak) (aW b8 (pv 1) ak)) (bN di (aW b8 (pv 1) ak) (aW b8 (pv 0) ak))) (aa (bN di (aW b8 (pv 0) ak) (aW b8 (pv 1) ak)) ai))))),?_⟩;refine aS (σ:=[some (.ref p),some (.ref q)]) rfl ?_;have hbd:0 < b*d:=pU hb hd;have sbd:Sz 8999 (b*d):=(sb.mul sd).mono (by decide);walk_at "w";refine gG (show jk _ _ from .inr ⟨_,_,sa,sd,by decide⟩) ?_;walk_at "w";refine gG (show jk _ _ from .inr ⟨_,_,sc,sb,by decide⟩) ?_;walk_at "w";refine gG (show jk _ _ from .inr ⟨_,_,sb,sd,by decide⟩) ?_;walk_at "w";walk_at "w";refine ⟨_,_,rfl,by lia,sbd,fun r H' s' h'=>?_⟩;rw[if_neg (by lia),if_neg (by lia)] at h';exact k r H' s' h'
theorem C4:bx ["one","other"] ["one","other"] (ax jP):=by walk_at "d"
theorem Dk (T:Txt K mg Z):cN P w K mg base gK 4 Z.qU Z.qq ["one","other"] (Ce K):=by
 refine T.vC.ok C4 (fun vs H Q E h=>?_) (fun cdv A outer s H vs Q E hr h=>?_)
 ·obtain ⟨p,q,xq,yq,rfl,hp,hq,hl,hz,hn,hm,k⟩:=h;rfl
 ·obtain ⟨p,q,xq,yq,rfl,hp,hq,hl,hz,hn,hm,k⟩:=h;refine ⟨_,(aB (aX (cG ["mine","yours"] [] [] (vO rfl T.zip (aa (pv 0) (aa (pv 1) ai))) (fun _=>(vP K 2 (cI (aO (i:=0) (show List.Nodup (α:=PySem.Str) ["mine","yours"] by decide +kernel)) (cI (aO (i:=1) (show List.Nodup (α:=PySem.Str) ["mine","yours"] by decide +kernel)) iX)))) (fun _=>cJ) (fun _=>(cL (KQ T) hr T.EI T.D3.kp T.HZ (aa (pv 0) (aa (pv 1) ai))))))),?_⟩;refine aS (σ:=[some (.ref p),some (.ref q)]) rfl ?_;obtain ⟨xs,gx,qx⟩:=id hp;obtain ⟨ys,gy,qy⟩:=id hq;have lx:=qx.length;have ly:=qy.length;walk_at "w";refine ⟨⟨_,bV.of gx⟩,⟨_,bV.of gy⟩,?_⟩;refine vo (K:=K) (xs:=xs) (ws:=ys) (fun i zs H'=>aL H H'/\Paired (cC K H') ((List.zipWith (fun x y=>x - y) xq yq).take i) zs) (aY (bO (by lia))) (by lia) ⟨aL.refl _,.nil⟩ (fun i zs H' _ ⟨s,_⟩=>⟨bV.of (s _ _ gx),bV.of (s _ _ gy)⟩) ?_ ?_
  ·rintro i x y zs H' r hx hy hlen ⟨s,hP⟩ hr;obtain ⟨n,en,hn1⟩:=cF qx hx;obtain ⟨m,em,hm1⟩:=cF qy hy;have s1:=aL.new (o:=.tup [x,y]) hr;have s01:=s.trans s1;have gr:(upd H' r (.tup [x,y])) r=some (.tup [x,y]):=aM;generalize upd H' r (.tup [x,y])=Hr at s1 s01 gr ⊢;walk_at "w";refine ⟨_,_,n,m,rfl,hn1.same s01,hm1.same s01,hn n (ay en),hm m (ay em),fun r3 H3 s3 h3=>?_⟩;refine ⟨s01.trans s3,?_⟩;have ez:(List.zipWith (fun x y=>x - y) xq yq)[i]?=some (n - m):=by rw[bY,en,em]
   rw[take_snoc ez];exact b6 (Paired.imp' (fun _ _ z=>z.same (s1.trans s3)) hP) (.cons h3 .nil)
  ·rintro zs H' hy ⟨s,hP⟩ l hl';rw[aH (by rw[b9];lia)] at hP;exact k l _ (s.none hl') (s.trans (aL.new hl')) ⟨zs,aM,Paired.imp' (fun _ _ z=>z.same (aL.new hl')) hP⟩
theorem uw:bx ["self","state","puts","columns"] ["self","state","puts"] (ax fW):=by walk_at "d"
theorem zW (T:Txt K mg Z):cN P w K mg base gK 5 Z.kN Z.kJ ["self","state","puts"] (IC K Z.a_System):=by
 refine T.vK.ok uw (fun vs H Q E h=>?_) (fun cdv A outer s H vs Q E hr h=>?_)
 ·obtain ⟨x,p,q,H0,mv,pt,lk,st,pu,rfl,S,D,F,hp,hq,l1,l2,fs,k⟩:=h;rfl
 ·obtain ⟨x,p,q,H0,mv,pt,lk,st,pu,rfl,S,D,F,hp,hq,l1,l2,fs,k⟩:=h
  refine ⟨_,(aw (bo (i:=3) uw.nd rfl (Or.inl rfl) (cL (pK T) hr T.kC T.jw.kp T.mJ (aa (kx (pv 0) rfl) (aa (kx (pv 0) rfl) ai))))
   (aB (aX (cG ["line","column"] ["state","puts"] [1,2] (vO rfl T.zip (aa (kx (pv 0) rfl) (aa (pv 3) ai))) (fun _=>(vP K 2 (cI (aO (i:=0) (show List.Nodup (α:=PySem.Str) ["line","column","state","puts"] by decide +kernel)) (cI (aO (i:=1) (show List.Nodup (α:=PySem.Str) ["line","column","state","puts"] by decide +kernel)) iX)))) (fun _=>cJ) (fun _=>(cL (AX T) hr T.xv T.wB.kp T.y7 (aa (bN ky (pv 0) (pv 1)) (aa (bN ky (pv 2) (pv 3)) ai)))))))),?_⟩
  refine aS (σ:=[some (.ref x),some (.ref p),some (.ref q),none]) rfl ?_;obtain ⟨dx,a,b,c,gx,n1,n2,n3,Ga,Gb,Gc⟩:=id S;have d1:=D.n8;have d2:=D.i4;walk_at "w";refine ⟨x,Z.a_System,dx,_,_,rfl,gx,T.cl_System,T.na_put,CW,?_⟩;walk_at "w";refine ⟨x,Z.a_System,dx,_,_,rfl,gx,T.cl_System,T.na_states,xk,?_⟩;walk_at "w";refine ⟨b,mv.length,H0,pt,rfl,Gb,by lia,by lia,D.pw,fun t H1 nt s1 Gt=>?_⟩;obtain ⟨as,ga,qa,_⟩:=Ga.same s1;obtain ⟨ts,gt,qt,_⟩:=id Gt;have la:=qa.length;have lt:=qt.length;rw[dj] at lt;have gx1:=s1 _ _ gx;walk_at "w";refine ⟨x,Z.a_System,dx,_,_,rfl,gx1,T.cl_System,T.na_move,Eh,?_⟩;walk_at "w";refine ⟨⟨_,bV.of ga⟩,⟨_,bV.of gt⟩,?_⟩;refine vo (K:=K) (xs:=as) (ws:=ts) (fun i ys H'=>aL H1 H'/\Paired (cC K H') ((fw mv pt st pu).take i) ys) (aY (bO (by lia))) (by lia) ⟨aL.refl _,.nil⟩ (fun i ys H' _ ⟨s,_⟩=>⟨bV.of (s _ _ ga),bV.of (s _ _ gt)⟩) ?_ ?_
  ·rintro i v1 v2 ys H' r h1 h2 hy ⟨s,pr⟩ hr;obtain ⟨line,el,u1,rfl,_,R1⟩:=cF qa h1;obtain ⟨col,ec,u2,rfl,_,R2⟩:=cF qt h2;have ml:=ay el;have mc:=ay ec;have sr:aL H' (upd H' r (.tup [.ref u1,.ref u2])):=aL.new hr;have gr:(upd H' r (.tup [.ref u1,.ref u2])) r=some (.tup [.ref u1,.ref u2]):=aM;have s2:=s.trans sr;generalize upd H' r (.tup [.ref u1,.ref u2])=H2 at sr gr s2 ⊢;have lc:col.length=pt.length:=kY col mc;have ll:line.length=mv.length:=D.mw line ml;obtain ⟨z1,g1,q1⟩:=R1.same s2;obtain ⟨z2,g2,q2⟩:=R2.same s2;have y1:=q1.length;have y2:=q2.length;walk_at "w";refine kr g1 g2 (aY (bO (by lia))) fun c1 H3 s3 n3' g3=>?_
   have s13:=s2.trans s3;obtain ⟨z3,g4,q3⟩:=(hp.same s1).same s13;obtain ⟨z4,g5,q4⟩:=(hq.same s1).same s13;have y3:=q3.length;have y4:=q4.length;walk_at "w";refine kr g4 g5 (aY (bO (by lia))) fun c2 H4 s4 n4 g6=>?_
   have s34:=s3.trans s4;walk_at "w";refine ⟨c1,c2,line++col,st++pu,rfl,⟨_,s4 _ _ g3,Paired.imp' (fun _ _ z=>z.same s34) (b6 q1 q2)⟩,⟨_,g6,Paired.imp' (fun _ _ z=>z.same s4) (b6 q3 q4)⟩,by rw[av,av];lia,by rw[av];lia,.sys ?_ fs,fun r2 H5 s5 h5=>?_⟩
   ·refine F.fits fun y hy=>?_
    rcases az.mp hy with hy | hy
    ·exact .inl ⟨line,ml,hy⟩
    ·obtain ⟨j,_,rfl⟩:=aD.mp mc;obtain ⟨xs,hx,rfl⟩:=aD.mp hy;by_cases hj:j < xs.length
     ·refine .inr (.inl ⟨xs,hx,?_⟩);rw[ae,ag hj];exact aJ hj
     ·exact .inr (.inr (.inr (by rw[ae,aR (by lia)];rfl)))
   ·have em:(fw mv pt st pu)[i]?=some (dh (line++col) (st++pu)):=by
     unfold fw;rw[bY,el,ec]
    refine ⟨((s2.trans s34).trans s5),?_⟩;rw[take_snoc em];exact b6 (Paired.imp' (fun _ _ z=>(z.same (sr.trans s34)).same s5) pr) (.cons h5 .nil)
  ·rintro ys H' hy ⟨s,pr⟩ l hl;have lm:(fw mv pt st pu).length=mv.length:=by unfold fw;rw[b9,dj];lia
   rw[aH (by lia)] at pr;exact k l _ (s1.none (s.none hl)) ((s1.trans s).trans (aL.new hl)) ⟨ys,aM,Paired.imp' (fun _ _ z=>z.same (aL.new hl)) pr⟩
theorem yJ:bx ["system","start","puts","states","row"] ["system","start","puts"] (ax sv):=by walk_at "d"
theorem Jf (T:Txt K mg Z):cN P w K mg base gK 6 Z.yw Z.yi ["system","start","puts"] (Fu K Z.a_System):=by
 refine T.BD.ok yJ (fun vs H Q E h=>?_) (fun cdv A outer s H vs Q E hr h=>?_)
 ·obtain ⟨x,s,p,H0,H1,mv,pt,lk,pus,st,rfl,S,D,F,Rs,ls,Gp,lp,wp,cf,k⟩:=h;rfl
 ·obtain ⟨x,s,p,H0,H1,mv,pt,lk,pus,st,rfl,S,D,F,Rs,ls,Gp,lp,wp,cf,k⟩:=h
  refine ⟨_,(aw (bo (i:=3) yJ.nd rfl (Or.inl rfl) (dJ (aa (eB tP (by rfl) T.list PyProof.Rows.boot_list (aa (pv 1) ai)) ai)))
   (aw (d7 PassesOwn.never rfl (cQ (pv 2)) (aO (i:=4) yJ.nd)
    (aB (md (AR dQ fo fk pB (pv 3) (aa (MW (pv 0) T.cl_System T.uA (zW T) (hr.mono (by decide)) T.vz .nil KL (aa (aW bL (pv 3) (zm uJ ak)) (aa (pv 4) ai))) ai)))))
   (aB (aX (pv 3))))),?_⟩
  refine aS (σ:=[some (.ref x),some (.ref s),some (.ref p),none,none]) rfl ?_;have d1:=D.n8;obtain ⟨ss,gs,qs⟩:=id Rs;obtain ⟨ps,gp,qp,_⟩:=id Gp;have lps:=qp.length;walk_at "w";refine ⟨s,ss,rfl,.inl (bV.of gs),fun c hc=>?_⟩;have sc:aL H (upd H c (.lst ss)):=aL.new hc;have Rc:cw K (upd H c (.lst ss)) c st:=⟨ss,aM,Paired.imp' (fun _ _ z=>z.same sc) qs⟩;generalize upd H c (.lst ss)=Hc at sc Rc ⊢;walk_at "w";refine dg fun l Hl sl nl gl=>?_
  have hl0:=sc.none nl;have s0:=sc.trans sl;have cl:c≠l:=fun z=>by obtain ⟨_,g,_⟩:=Rc;rw[z,nl] at g;cases g
  have pr0:Paired (za K H l Hl) ((qL mv pt st pus).take 1) [V.ref c]:=by
   have:(qL mv pt st pus).take 1=[st]:=by
    have e:=take_snoc (vZ (mv:=mv) (pt:=pt) (st:=st) (pus:=pus) (k:=0) (bD _));rw[e];rfl
   rw[this];exact .cons ⟨c,rfl,hc,cl,Rc.same sl⟩ .nil
  walk_at "w";refine ⟨⟨_,bV.of (s0 _ _ gp)⟩,?_⟩;refine jv (K:=K) (a:=p) (xs:=ps) (fun i σ' H'=>aL H H'/\(∃y ys,σ'=[some (.ref x),some (.ref s),some (.ref p),some (.ref l),y]/\H' l=some (.lst ys)/\Paired (za K H l H') ((qL mv pt st pus).take (i+1)) ys)) ⟨s0,_,_,rfl,gl,pr0⟩ (fun i σ' H' _ ⟨e,_⟩=>bV.of (e _ _ gp)) ?_ ?_
  ·rintro i v σ' H' hv ⟨e,y,ys,rfl,g,pr⟩;obtain ⟨pu,epu,u,rfl,_,Ru⟩:=cF qp hv;have hi:i < pus.length:=(aI.mp epu).1;have mp:=ay epu;have ly:=pr.length;rw[cO,xy] at ly;have ec:=vZ (mv:=mv) (pt:=pt) (st:=st) (pus:=pus) (k:=i) (by lia);have el:ys[i]?=some (ys[i]'(by lia)):=ag (by lia)
   obtain ⟨vl,evl,q,hq1,hq2,hq3,Rq⟩:∃vl,ys[i]?=some vl/\∃q,vl=V.ref q/\H q=none/\q≠l/\cw K H' q (kX mv pt st pus i):=by
    obtain ⟨xs,ex,w⟩:=cF pr el;rw[yC (by lia),ec] at ex;cases ex;exact ⟨_,el,w⟩
   subst hq1
   have ey:∃zs,ys=zs++[V.ref q]:=by
    refine ⟨ys.take i,?_⟩;rw[<- take_snoc evl,aH (by lia)]
   obtain ⟨zs,rfl⟩:=ey;walk_at "w";refine ⟨.inl ⟨rfl,_,bV.of g⟩,?_⟩;walk_at "w";obtain ⟨dx,_,_,_,gx,_⟩:=S.same e;refine ⟨x,dx,_,rfl,gx,Iq,?_⟩;walk_at "w";refine cB (bV.of g) (yr _ _) ?_;walk_at "w";refine ⟨x,q,u,H0,mv,pt,lk,_,pu,rfl,S.same e,D,F,Rq,Ru.same e,jz ls (by lia),wp pu mp,cf.both (by lia) mp,fun r1 H2 n2 s2 R2=>?_⟩;have gn:=s2 _ _ g;walk_at "w";refine pA gn (bO (by lia)) ?_;refine ⟨IS (e.trans s2) hl0,_,_,rfl,aM,?_⟩;rw[take_snoc (vZ (by lia)),nC epu];have rl:r1≠l:=fun z=>by rw[z,g] at n2;cases n2
   exact b6 (Paired.imp' (fun _ _ z=>(za.same z s2).upd gn) pr) (.cons ⟨r1,rfl,e.none n2,rl,R2.updL gn rl⟩ .nil)
  ·rintro σ' H' ⟨e,y,ys,rfl,g,pr⟩;walk_at "w";rw[aH (by rw[xy];lia)] at pr;exact k l H' hl0 e ⟨ys,g,Paired.imp' (fun _ _ z=>za.rowF z) pr,AI pr⟩
theorem AB:bx ["system","steps"] ["system","steps"] (ax gR):=by walk_at "d"
theorem uW (T:Txt K mg Z):cN P w K mg base gK 2 Z.mO Z.my ["system","steps"] (Kb K Z.a_System):=by
 refine T.mW.ok AB (fun vs H Q E h=>?_) (fun cdv A outer s H vs Q E hr h=>?_)
 ·obtain ⟨x,tt,H0,mv,pt,lk,rfl,hT,S,D,k⟩:=h;rfl
 ·obtain ⟨x,tt,H0,mv,pt,lk,rfl,hT,S,D,k⟩:=h;refine ⟨_,(aB (aX (cG ["step"] ["system"] [0] (cx rfl T.range (aa (pv 1) ai)) (fun _=>(aO (i:=0) (show List.Nodup (α:=PySem.Str) ["step","system"] by decide +kernel))) (fun _=>cJ) (fun _=>(cL (rE T) hr T.me T.kR.kp T.oF (aa (GX K (pv 1) rfl) ai)))))),?_⟩;refine aS (σ:=[some (.ref x),some (.int tt)]) rfl ?_;obtain ⟨dx,a',b',c',gx,_,_,_,Ga,Gb,Gc⟩:=id S;have i4:=D.i4;walk_at "w";refine ⟨by lia,by lia,?_⟩;refine fX (n:=tt) (dB K H) (fun (_:Nat)=>List.replicate pt.length (0:Rat)) (by lia) (fun a b=>a.same b) ?_ ?_
  ·rintro i Hb NY NN hi sa k1;walk_at "w";refine ⟨x,Z.a_System,dx,_,_,rfl,sa _ _ gx,T.cl_System,T.na_ins,GK,?_⟩;walk_at "w";exact ⟨pt.length,rfl,by lia,fun r H2 nr s2 R2=>k1 _ _ s2 ⟨r,rfl,sa.none nr,R2⟩⟩
  rintro ys Hz t ht sz g pr nx;have e:(List.range tt).map (fun (_:Nat)=>List.replicate pt.length (0:Rat))=List.replicate tt (List.replicate pt.length 0):=by rw[uI,cK]
  rw[e] at pr nx;exact k t Hz ht sz ⟨ys,g,pr,pN nx⟩
theorem Fy:bx ["system","start","goal","steps"] ["system","start","goal","steps"] (ax o8):=by walk_at "d"
theorem FN (T:Txt K mg Z):cN P w K mg base gK 7 Z.we Z.vU ["system","start","goal","steps"] (Kf K Z.a_System):=by
 refine T.zh.ok Fy (fun vs H Q E h=>?_) (fun cdv A outer s H vs Q E hr h=>?_)
 ·obtain ⟨x,s,g,tt,H0,mv,pt,lk,st,go,rfl,hT,S,D,F,Rs,ls,Rg,lg,cf,sg,k⟩:=h;rfl
 ·obtain ⟨x,s,g,tt,H0,mv,pt,lk,st,go,rfl,hT,S,D,F,Rs,ls,Rg,lg,cf,sg,k⟩:=h;refine ⟨_,(aB (aX (cL (Dk T) hr T.xQ T.vC.kp T.zD (aa (pv 2) (aa (aW bL (cL (Jf T) hr T.Cq T.BD.kp T.E4 (aa (pv 0) (aa (pv 1) (aa (cL (uW T) hr T.pO T.mW.kp T.rN (aa (pv 0) (aa (pv 3) ai))) ai)))) (zm uJ ak)) ai))))),?_⟩;refine aS (σ:=[some (.ref x),some (.ref s),some (.ref g),some (.int tt)]) rfl ?_;have d8:=D.n8;have i4:=D.i4;walk_at "w";refine ⟨x,tt,H0,mv,pt,lk,rfl,by lia,S,D,fun p1 H1 n1 s1 G1=>?_⟩;walk_at "w";refine ⟨x,s,p1,H0,H,mv,pt,lk,_,st,rfl,S.same s1,D,F,Rs.same s1,ls,G1,by rw[aE];lia,fun xs hx=>by rw[(dq.mp hx).2,aE],cf,fun p2 H2 n2 s2 G2=>?_⟩;obtain ⟨us,gu,qu,_⟩:=id G2;have lu:=qu.length;rw[xy,aE] at lu;have ec:=vZ (mv:=mv) (pt:=pt) (st:=st) (pus:=List.replicate tt (List.replicate pt.length 0)) (k:=tt) (by rw[aE];exact ao _);have el:us[tt]?=some (us[tt]'(by lia)):=ag (by lia)
  obtain ⟨q,eq,Rq⟩:∃q,us[tt]?=some (V.ref q)/\cw K H2 q (jq mv tt st):=by
   obtain ⟨xs,ex,q,e,_,w⟩:=cF qu el;rw[ec] at ex;cases ex;rw[J0 D ls] at w;exact ⟨q,by rw[el,e],w⟩
  have ey:∃zs,us=zs++[V.ref q]:=by
   refine ⟨us.take tt,?_⟩;rw[<- take_snoc eq,aH (by lia)]
  obtain ⟨zs,rfl⟩:=ey
  have szp:∀y∈jq mv tt st,rW y:=fun y hy=>by
   have:=(cf.state (k:=tt) (by rw[aE];exact ao _)).szn (x:=y);rw[J0 D ls] at this;exact this hy
  walk_at "w";refine cB (bV.of gu) (yr _ _) ?_;walk_at "w";exact ⟨g,q,go,_,rfl,(Rg.same s1).same s2,Rq,by rw[lg,gH ls],by lia,sg,szp,fun r H3 n3 s3 R3=>k r H3 ((s1.trans s2).none n3) ((s1.trans s2).trans s3) R3⟩
theorem OC:bx ["row","many","wide"] ["row","many","wide"] (ax Ci):=by walk_at "d"
theorem O8 (T:Txt K mg Z):cN P w K mg base gK 1 Z.Ib Z.HS ["row","many","wide"] (Mf K):=by
 refine T.LN.ok OC (fun vs H Q E h=>?_) (fun cdv A outer s H vs Q E hr h=>?_)
 ·obtain ⟨p,u,kk,w,rfl,Rw,lw,uk,u1,k1,k⟩:=h;rfl
 ·obtain ⟨p,u,kk,w,rfl,Rw,lw,uk,u1,k1,k⟩:=h;refine ⟨_,(aB (aX (cG ["turn"] ["row","wide"] [0,2] (cx rfl T.range (aa (pv 1) ai)) (fun _=>(aO (i:=0) (show List.Nodup (α:=PySem.Str) ["turn","row","wide"] by decide +kernel))) (fun _=>cJ) (fun _=>(AO (Km K (by rfl)) (pv 1) (z9 (bN di (pv 0) (pv 2))) (z9 (bN di (bN fv (pv 0) ak) (pv 2)))))))),?_⟩;refine aS (σ:=[some (.ref p),some (.int u),some (.int kk)]) rfl ?_;obtain ⟨xs,gx,qx⟩:=id Rw;have lx:=qx.length;walk_at "w";refine ⟨by lia,by lia,?_⟩;refine fX (n:=u) (dB K H) (fun t=>(w.drop (t*kk)).take kk) (by lia) (fun a b=>a.same b) ?_ ?_
  ·rintro i Hb NY NN hi sa k2;have b1:i*kk+kk<=u*kk:=by rw[<- dA];exact aA _ hi
   walk_at "w";refine gG (DM (by lia) (by lia)) ?_;walk_at "w";refine gG (HU (by lia) (by lia)) ?_;walk_at "w";rw[show ((i:Int)*(kk:Int))=((i*kk:Nat):Int) by lia,show (((i:Int)+1)*(kk:Int))=((i*kk:Nat):Int)+(kk:Int) by rw[Int.add_mul,Int.one_mul];lia];refine ⟨p,xs,rfl,bV.of (sa _ _ gx),fun r hr=>?_⟩;rw[Nq (by lia)];have sn:=aL.new (o:=.lst ((xs.drop (i*kk)).take kk)) hr;exact k2 _ _ sn ⟨r,rfl,sa.none hr,_,aM,Paired.imp' (fun _ _ z=>(z.same sa).same sn) (uU (wJ qx _) _)⟩
  rintro ys Hz t ht sz g pr nx;exact k t Hz ht sz ⟨ys,g,pr,pN nx⟩
theorem xI:bx ["system","start","goal","steps","used","rows","answer","latest_first"] ["system","start","goal","steps"] (ax yM):=by walk_at "d"
theorem Ho (T:Txt K mg Z):cN P w K mg base gK 8 Z.DV Z.DK ["system","start","goal","steps"] (Kj K Z.a_System):=by
 refine T.D4.ok xI (fun vs H Q E h=>?_) (fun cdv A outer s H vs Q E hr h=>?_)
 ·obtain ⟨x,s,g,tt,a,c,D0,W0,E0,W1,H0,mv,pt,lk,st,go,rfl,hT,S,D,SF,F,Rs,ls,Rg,lg,cf,sg,CF,k1,k2⟩:=h;rfl
 ·obtain ⟨x,s,g,tt,a,c,D0,W0,E0,W1,H0,mv,pt,lk,st,go,rfl,hT,S,D,SF,F,Rs,ls,Rg,lg,cf,sg,CF,k1,k2⟩:=h
  refine ⟨_,(aw (bo (i:=4) xI.nd rfl (Or.inl rfl) (bN lK (bJ bu (by rfl) T.len aV (aa (cL (AY T) hr T.va T.rR.kp T.w5 (aa (pv 0) (aa (pv 3) ai))) ai)) ak))
   (aw (bo (i:=5) xI.nd rfl (Or.inl rfl) (cL (M7 T) hr T.Ht T.GA.kp T.LJ (aa (cL (Dm T) hr T.xS T.vE.kp T.zF (aa (pv 0) (aa (pv 4) ai))) ai)))
   (aw (bo (i:=6) xI.nd rfl (Or.inl rfl) (cL (AW T) hr T.uZ T.rQ.kp T.wZ (aa (pv 5) (aa (kx (pv 0) rfl) (aa (cL (FN T) hr T.A6 T.zh.kp T.CI (aa (pv 0) (aa (pv 1) (aa (pv 2) (aa (pv 3) ai))))) ai)))))
   (aw (dc (bH eP (aW b8 (pv 6) ak) rC (bM _)) (aB (aX (cZ (aa rC (aa (aW b8 (pv 6) ak) ai))))) bZ)
   (aw (bo (i:=7) xI.nd rfl (Or.inl rfl) (cL (O8 T) hr T.K2 T.LN.kp T.N9 (aa (aW b8 (pv 6) ak) (aa (pv 4) (aa (kx (pv 0) rfl) ai)))))
   (aB (aX (cZ (aa rC (aa (bN ky (cL (uW T) hr T.pO T.mW.kp T.rN (aa (pv 0) (aa (bN lK (pv 3) (pv 4)) ai))) (FJ K rfl T.list rfl T.reversed (aa (pv 7) ai))) ai)))))))))),?_⟩
  refine aS (σ:=[some (.ref x),some (.ref s),some (.ref g),some (.int tt),none,none,none,none]) rfl ?_;have d8:=D.n8;have i4:=D.i4;obtain ⟨dx,a',b',c',gx,_⟩:=id S;walk_at "w";refine ⟨x,a,c,tt,H0,mv,pt,lk,rfl,by lia,S,D,F,fun r1 Rs1 H1 n1 s1 GL Gw ln hlast=>?_⟩;obtain ⟨us,gus,pus1⟩:=id GL;have lus:=pus1.length;have rne:=Gw.ne;have lpos:0 < Rs1.length:=List.length_pos_iff.mpr rne;walk_at "w";refine ⟨_,_,rfl,.inl (bV.of gus),?_⟩;rw[<- lus];obtain ⟨u,eu⟩:∃u,Rs1.length=u+1:=⟨Rs1.length - 1,by lia⟩;rw[eu];have eL:Rs1[u]?=some (Rs1[u]'(by lia)):=ag (by lia);obtain ⟨R,eR⟩:∃R,Rs1[u]?=some R:=⟨_,eL⟩;obtain ⟨ps,RRu⟩:=Gw.rr u R eR;have ul:=Gw.len u R eR;have un:u<=mv.length:=by have:=RRu.le;have:=RRu.1;lia
  have uT:u<=tt:=by lia
  obtain ⟨psT,RRT⟩:∃ps,cM (kry mv pt tt) mv.length R ps:=by
   refine hlast R ?_ tt (by lia);rw[List.getLast?_eq_getElem?,eu];exact eR
  walk_at "w";rw[show ((((u+1:Nat):Int)) - 1)=(u:Int) by lia];refine ⟨x,u,a,c,H0,mv,pt,lk,rfl,un,S.same s1,D,F,fun r2 us2 H2 n2 s2 g2 p2=>?_⟩;have s02:=s1.trans s2;have kl:=xZ (mv:=mv) (pt:=pt) u;have kl2:u*pt.length<=8*4:=aF (by lia) i4;walk_at "w";refine ⟨r2,us2,JC mv pt u,rfl,g2,p2,by rw[v8];lia,fun r3 H9 H3 n3 s3 G3=>?_⟩;rw[v8] at G3;have s03:=s02.trans s3;walk_at "w";refine ⟨x,Z.a_System,dx,_,_,rfl,s03 _ _ gx,T.cl_System,T.na_states,xk,?_⟩;walk_at "w";refine ⟨x,s,g,tt,H0,mv,pt,lk,st,go,rfl,hT,S.same s03,D,SF,Rs.same s03,ls,Rg.same s03,lg,cf,sg,fun r4 H4 n4 s4 R4=>?_⟩;have s04:=s03.trans s4;have lL:=sF (T:=tt) ls lg;have wk:=gM (mv:=mv) (pt:=pt) rfl D.pw u;have tk:=CF.tk u un;have up0:∀y,Tp D0 W0 y->Tp (D0*E0) (W0*E0+W1*D0+D0*E0) y:=fun y h=>h.up E0 (by lia)
  have up1:∀y,Tp E0 W1 y->Tp (D0*E0) (W0*E0+W1*D0+D0*E0) y:=fun y h=>by
   rw[b7 D0 E0];exact h.up D0 (by lia)
  have up2:∀y,y=0\/y=1->Tp (D0*E0) (W0*E0+W1*D0+D0*E0) y:=fun y h=>by
   rcases h with rfl | rfl
   ·exact Tp.zero
   ·exact ⟨((D0*E0:Nat):Int),by rw[Rat.one_mul,aQ],by rw[ck];lia⟩
  obtain ⟨wa,sw1⟩:=CF.join (rows:=cW (kry mv pt u) mv.length) (due:=fO mv tt st go) (n':=(kry mv pt u).length+1) (by rw[dj];exact lL) (fun ys hy y hy'=>by
   obtain ⟨j,_,rfl⟩:=aD.mp hy;obtain ⟨zs,hz,rfl⟩:=aD.mp hy';exact up0 _ (lW (tk zs hz) j)) (fun y hy=>up1 y (CF.tl y hy)) d8 (by rw[dj];lia)
  obtain ⟨wb,sw2⟩:=CF.join (rows:=kry mv pt u++[fO mv tt st go]) (due:=List.replicate (kry mv pt u).length 0++[1]) (n':=mv.length+1) (by simp) (fun ys hy y hy'=>by
   rcases az.mp hy with hy | hy
   ·exact up0 _ (tk ys hy y hy')
   ·rw[bT.mp hy] at hy';exact up1 _ (CF.tl y hy')) (fun y hy=>by
   rcases az.mp hy with hy | hy
   ·exact up2 _ (.inl (dq.mp hy).2)
   ·exact up2 _ (.inr (bT.mp hy))) d8 (zP _ _)
  walk_at "w";refine ⟨r3,r4,mv.length,wa,wb,H9,kry mv pt u,fO mv tt st go,rfl,G3.same s4,R4,lL,by lia,by lia,wk,sw1,sw2,⟨fun t5 x5 R5 ps5 M5 H5 RR5 hn5 g5 n5 s5 R5' M50 M51 tp5=>?_,fun t5 x5 R5 ps5 R6 ps6 M5 H5 RR5 hn5 RR6 hn6 g5 n5 s5 R5' M50 M51 tp5=>?_⟩⟩
  ·have s05:=s04.trans s5;have x50:=s04.none n5;have ew:=Ik lL RR5 hn5;have lw:(ip R5 ps5 (kry mv pt u).length).length=(kry mv pt u).length:=kZ;obtain ⟨q,q0,q1,q2⟩:=OA wk lL (by lia) CF.d0 CF.e0 CF.w0 CF.w1 tk CF.tl RR5 hn5;generalize ip R5 ps5 (kry mv pt u).length=ws at ew lw q2 R5' tp5;have lead:=Gj D ls lg uT lw ew;have lw2:ws.length=u*pt.length:=by rw[lw,kl]
   walk_at "w";rw[decide_eq_false (show ¬(Str.ofString "in"=Str.ofString "out") by decide)];walk_at "w";refine ⟨x,Z.a_System,dx,_,_,rfl,s05 _ _ gx,T.cl_System,T.na_ins,GK,?_⟩;walk_at "w";refine ⟨x5,u,pt.length,ws,rfl,R5',lw2,by lia,by lia,by lia,fun r6 H6 n6 s6 G6=>?_⟩;have s06:=s05.trans s6;walk_at "w";rw[show ((tt:Int) - (u:Int))=((tt - u:Nat):Int) by lia];refine ⟨x,tt - u,H0,mv,pt,lk,rfl,by lia,S.same s06,D,fun r7 H7 n7 s7 G7=>?_⟩;obtain ⟨vs,gv,qv,_⟩:=id (G6.same s7);have lv:=qv.length;have lc:(zY ws u pt.length).length=u:=by unfold zY;rw[ar,cK]
   unfold Ef;walk_at "w";refine ⟨r6,vs,rfl,bV.of gv,by lia,fun r8 H8 s8 n8 g8=>?_⟩;have s67:=s7.trans s8;obtain ⟨zs,gz,qz,_⟩:=id (G7.same s8);have lz:=qz.length;rw[aE] at lz;walk_at "w";refine kr gz g8 (aY (bO (by rw[nR];lia))) fun r9 H9 s9 n9 g9=>?_
   have s09:=(s06.trans s67).trans s9;have qz0:Paired (dB K H H8) (List.replicate (tt - u) (List.replicate pt.length 0)) zs:=Paired.imp' (fun _ _ ⟨q,a,b,c⟩=>⟨q,a,s06.none b,c⟩) qz;have qv0:Paired (dB K H H8) (zY ws u pt.length).reverse vs.reverse:=AU (Paired.imp' (fun _ _ ⟨q,a,b,c⟩=>⟨q,a,s05.none b,cw.same c s8⟩) qv);have G9:bR K H H9 r9 (Df ws tt u pt.length):=⟨_,g9,Paired.imp' (fun _ _ z=>dB.same z s9) (b6 qz0 qv0),pN ⟨H8,n9,b6 qz0 qv0⟩⟩;walk_at "w";refine cu fun t10 H10 s10 g10=>?_
   exact k1 t10 r9 _ q H10 g10 ((s06.trans s67).none n9) (s09.trans s10) (G9.same s10) (GV uT) (NR lw2) lead q0 q1 (MS Tp.zero q2)
  ·have s05:=s04.trans s5;have x50:=s04.none n5;have lw:(ip R6 ps6 mv.length).length=mv.length:=kZ;obtain ⟨pr1,pr2⟩:=IX wk lL RR6 hn6;obtain ⟨q,q0,q1,q2⟩:=KG wk lL (by lia) CF.d0 CF.e0 CF.w0 tk CF.tl RR6 hn6;walk_at "w";rw[decide_eq_true rfl];walk_at "w";refine cu fun t10 H10 s10 g10=>?_
   exact k2 t10 x5 _ q H10 g10 x50 (s05.trans s10) (R5'.same s10) lw (IZ D.pw RRu RRT lw pr2) pr1 q0 q1 q2
theorem pZ:bx ["_law_thing","_law_part"] ["_law_thing"] (ax eU):=by walk_at "d"
theorem xP (T:Txt K mg Z):cN P w K mg base gK 2 Z.jf Z.ja ["_law_thing"] (IH K):=by
 refine T.lU.ok pZ (fun vs H Q E h=>?_) (fun cdv A outer s H vs Q E hr h=>?_)
 ·obtain ⟨x,n,rfl,⟨p,rfl,hp⟩,hn,k⟩:=h;rfl
 ·obtain ⟨x,n,rfl,⟨p,rfl,hp⟩,hn,k⟩:=h
  refine ⟨_,(aw (dc (PW.pt (uR (jH (jo (Aa rfl T.isinstance PyProof.Rows.boot_tuple T.tuple (pv 0)))) (pH (bH zv (bJ bu (by rfl) T.len aV (aa (pv 0) ai)) ak (bM _))))) (aB (aX sA)) bZ)
   (aw (d7 PassesOwn.never rfl (O3 (pv 0)) (aO (i:=1) pZ.nd)
    (aB (dc (PW.pt (uR (jH (jo (Aa rfl T.isinstance PyProof.Rows.boot_int T.int (pv 1)))) (pH (jo (Aa rfl T.isinstance PyProof.Rows.boot_bool T.bool (pv 1)))))) (aB (aX sA)) bZ)))
   (aB (aX (AS (iY wL (aW b8 (pv 0) ak) ak (bM _)) (AQ (iY (Di (Le hr)) (cL (j7 T) hr T.iC T.iH.kp T.jK (aa (aW b8 (pv 0) ak) (aa (aW b8 (pv 0) ak) ai))) (pv 0) (bM _)))))))),?_⟩
  refine aS (σ:=[some (.ref p),none]) rfl ?_;obtain ⟨hb,hg,_,hs⟩:=hn;walk_at "w";refine .inr ⟨p,_,_,rfl,hp,rfl,?_⟩;walk_at "w";refine ⟨_,_,rfl,.inr hp,?_⟩;walk_at "w"
  try refine Nb ?_
  walk_at "w";refine ⟨⟨_,hp⟩,?_⟩;refine Ng (K:=K) (a:=p) (xs:=[.int n.1,.int n.2]) (fun i σ' H'=>H'=H/\∃x,σ'=[some (.ref p),x]) ⟨rfl,none,rfl⟩ (fun i σ' H' _ ⟨e,_⟩=>by subst e;exact hp) ?_ ?_
  ·rintro i x σ' H' hx ⟨rfl,y,rfl⟩
   obtain ⟨z,rfl⟩:∃z,x=V.int z:=by
    have hm:x∈[V.int n.1,V.int n.2]:=ay hx;simp only[aG,ba,or_false] at hm;rcases hm with e | e
    ·exact ⟨_,e⟩
    ·exact ⟨_,e⟩
   walk_at "w";refine .inl ⟨_,_,.int z,rfl,?_⟩;walk_at "w";refine .inl ⟨_,_,.int z,rfl,?_⟩;walk_at "w";exact ⟨rfl,_,rfl⟩
  ·rintro σ' H' ⟨rfl,x,rfl⟩;walk_at "w";rw[decide_eq_true hb];walk_at "w";refine ⟨n.1,n.2,rfl,hb,hs.mono (by decide),fun r H' s1 h'=>?_⟩;obtain ⟨e1,e2⟩:=Pc hb hg;walk_at "w";refine ⟨_,_,QM,(lo n.1 n.2,hi n.1 n.2),n,by decide,⟨r,rfl,uc.of h'⟩,⟨p,rfl,s1.sqt hp⟩,?_⟩;rw[e1,e2,decide_eq_true rfl];exact k _ s1
theorem AE:bx ["_law_thing","_law_many"] ["_law_thing","_law_many"] (ax hJ):=by walk_at "d"
theorem uX (T:Txt K mg Z):cN P w K mg base gK 3 Z.mU Z.mG ["_law_thing","_law_many"] (Cf K):=by
 refine T.mX.ok AE (fun vs H Q E h=>?_) (fun cdv A outer s H vs Q E hr h=>?_)
 ·obtain ⟨p,ns,rfl,hp,hl,hn,k⟩:=h;rfl
 ·obtain ⟨p,ns,rfl,hp,hl,hn,k⟩:=h
  refine ⟨_,(aw (dc (PW.pt (uR (jH (jo (yQ rfl T.isinstance PyProof.Rows.boot_list T.list (pv 0)))) (pH (bH zv (bJ bu (by rfl) T.len aV (aa (pv 0) ai)) (pv 1) (bM _))))) (aB (aX sA)) bZ)
   (aB (aX (bJ (Br rfl) (by rfl) T.all PyProof.Rows.boot_all (aa (cG ["_law_one"] [] [] (cQ (pv 0)) (fun _=>(aO (i:=0) (show List.Nodup (α:=PySem.Str) ["_law_one"] by decide +kernel))) (fun _=>cJ) (fun _=>(cL (xP T) hr T.qg T.lU.kp T.sJ (aa (pv 0) ai)))) ai))))),?_⟩
  refine aS (σ:=[some (.ref p),some (.int ns.length)]) rfl ?_;obtain ⟨xs,gx,qx⟩:=id hp;have lx:=qx.length;walk_at "w";refine ⟨_,_,.lst gx,rfl,?_⟩;walk_at "w";refine ⟨_,_,rfl,.inl (bV.of gx),?_⟩;walk_at "w";rw[show ((xs.length:Nat):Int)=(ns.length:Nat) by rw[lx],decide_eq_true rfl];walk_at "w";refine ⟨⟨_,bV.of gx⟩,?_⟩;refine fY (K:=K) (xs:=xs) (fun i ys H'=>aL H H'/\ys=List.replicate i (.bl true)) (aY (bO (by lia))) ⟨aL.refl _,rfl⟩ (fun i ys H' _ ⟨s,_⟩=>bV.of (s _ _ gx)) ?_ ?_
  ·rintro i x ys H' hx hlen ⟨s,rfl⟩;obtain ⟨n,en,z⟩:=cF qx hx;walk_at "w";exact ⟨x,n,rfl,s.num z,hn n (ay en),fun H2 s2=>⟨s.trans s2,by rw[CM]⟩⟩
  ·rintro ys H' hy ⟨s,rfl⟩ l hl';walk_at "w";refine ⟨l,List.replicate xs.length true,rfl,bV.of (by rw[aM];simp),?_⟩;have e4:(List.replicate xs.length true).all id=true:=by simp
   rw[e4];exact k _ (s.trans (aL.new hl'))
theorem zU:bx ["_law_thing","_law_many","_law_wide"] ["_law_thing","_law_many","_law_wide"] (ax fU):=by walk_at "d"
theorem zV (T:Txt K mg Z):cN P w K mg base gK 4 Z.kL Z.kH ["_law_thing","_law_many","_law_wide"] (Fs K):=by
 refine T.pS.ok zU (fun vs H Q E h=>?_) (fun cdv A outer s H vs Q E hr h=>?_)
 ·obtain ⟨p,rows,m,rfl,hp,hl,hm,hn,k⟩:=h;rfl
 ·obtain ⟨p,rows,m,rfl,hp,hl,hm,hn,k⟩:=h
  refine ⟨_,(aw (dc (PW.pt (uR (jH (jo (yQ rfl T.isinstance PyProof.Rows.boot_list T.list (pv 0)))) (pH (bH zv (bJ bu (by rfl) T.len aV (aa (pv 0) ai)) (pv 1) (bM _))))) (aB (aX sA)) bZ)
   (aB (aX (bJ (Br rfl) (by rfl) T.all PyProof.Rows.boot_all (aa (cG ["_law_row_here"] ["_law_wide"] [2] (cQ (pv 0)) (fun _=>(aO (i:=0) (show List.Nodup (α:=PySem.Str) ["_law_row_here","_law_wide"] by decide +kernel))) (fun _=>cJ) (fun _=>(cL (uX T) hr T.pQ T.mX.kp T.rO (aa (pv 0) (aa (pv 1) ai))))) ai))))),?_⟩
  refine aS (σ:=[some (.ref p),some (.int rows.length),some (.int m)]) rfl ?_;obtain ⟨xs,gx,qx⟩:=id hp;have lx:=qx.length;walk_at "w";refine ⟨_,_,.lst gx,rfl,?_⟩;walk_at "w";refine ⟨_,_,rfl,.inl (bV.of gx),?_⟩;walk_at "w";rw[show ((xs.length:Nat):Int)=(rows.length:Nat) by rw[lx],decide_eq_true rfl];walk_at "w";refine ⟨⟨_,bV.of gx⟩,?_⟩;refine fY (K:=K) (xs:=xs) (fun i ys H'=>aL H H'/\ys=List.replicate i (.bl true)) (aY (bO (by lia))) ⟨aL.refl _,rfl⟩ (fun i ys H' _ ⟨s,_⟩=>bV.of (s _ _ gx)) ?_ ?_
  ·rintro i x ys H' hx hlen ⟨s,rfl⟩;obtain ⟨ns,en,q,rfl,z⟩:=cF qx hx;obtain ⟨e1,e2⟩:=hn ns (ay en);walk_at "w";exact ⟨q,ns,by rw[e1],z.same s,by lia,e2,fun H2 s2=>⟨s.trans s2,by rw[CM]⟩⟩
  ·rintro ys H' hy ⟨s,rfl⟩ l hl';walk_at "w";refine ⟨l,List.replicate xs.length true,rfl,bV.of (by rw[aM];simp),?_⟩;have e4:(List.replicate xs.length true).all id=true:=by simp
   rw[e4];exact k _ (s.trans (aL.new hl'))
theorem BN:bx ["_law_parts_here","_law_start","_law_goal_here","_law_steps_here","_law_puts_here"] ["_law_parts_here","_law_start","_law_goal_here","_law_steps_here","_law_puts_here"] (ax iU):=by walk_at "d"
theorem wO (T:Txt K mg Z):cN P w K mg base gK 7 Z.oS Z.oB ["_law_parts_here","_law_start","_law_goal_here","_law_steps_here","_law_puts_here"] (IF K):=by
 refine T.oX.ok BN (fun vs H Q E h=>?_) (fun cdv A outer s H vs Q E hr h=>?_)
 ·obtain ⟨r,s,g0,p0,tt,H0,H1,mv,pt,lk,pus,st,go,rfl,hT,PQ,D,Rs,ls,Rg,Gp,lp,wp,EF,est,k⟩:=h;rfl
 ·obtain ⟨r,s,g0,p0,tt,H0,H1,mv,pt,lk,pus,st,go,rfl,hT,PQ,D,Rs,ls,Rg,Gp,lp,wp,EF,est,k⟩:=h
  refine ⟨_,(aw (dc (jH (jo (cL (zV T) hr T.uy T.pS.kp T.vw (aa (pv 4) (aa (pv 3) (aa (bJ bu (by rfl) T.len aV (aa (aW b8 (pv 0) ak) ai)) ai)))))) (aB (aX sA)) bZ)
   (aB (aX (iY (Di (Le hr)) (cL (uY T) hr T.qh T.pT.kp T.tT (aa (pv 0) (aa (pv 1) (aa (pv 4) ai)))) (pv 2) (bM _))))),?_⟩
  refine aS (σ:=[some (.ref r),some (.ref s),some (.ref g0),some (.int tt),some (.ref p0)]) rfl ?_;have i4:=D.i4;obtain ⟨m,p,l,g,n1,n2,n3,Gm,Gpt,Gl⟩:=id PQ;obtain ⟨up,gp,qp,_⟩:=id Gpt;have lup:=qp.length;have lm1:(pus.map (List.map nm)).length=tt:=by rw[ar];exact lp
  walk_at "w";refine ⟨_,_,rfl,.inl (bV.of gp),?_⟩;rw[<- lup];walk_at "w";refine ⟨p0,_,pt.length,by rw[lm1],Gp.gridK,by rw[lm1];lia,by lia,fun ns' hx=>?_,fun H2 s2=>?_⟩
  ·obtain ⟨xs,mx,rfl⟩:=aD.mp hx;refine ⟨by rw[ar];exact wp xs mx,fun v hv=>?_⟩;obtain ⟨v,mv',rfl⟩:=aD.mp hv;exact JX (EF.sznP xs mx v mv')
  walk_at "w";refine ⟨r,s,p0,H0,H1,mv,pt,lk,pus,st,rfl,PQ.same s2,D,Rs.same s2,ls,Gp.same s2,by lia,wp,EF,fun t3 H3 n3' s3 R3=>?_⟩;rw[lp,est] at R3;walk_at "w";refine ⟨_,_,NT,go,go,by decide,R3.kind,((Rg.same s2).same s3).kind,?_⟩;rw[decide_eq_true rfl];exact k _ (s2.trans s3)
theorem nU:bx ["_law_system_here","_law_parts_here","_law_start","_law_goal_here","_law_steps_here","_law_kind","_law_puts_here"] ["_law_system_here","_law_parts_here","_law_start","_law_goal_here","_law_steps_here"] (ax fV):=by walk_at "d"
theorem nV (T:Txt K mg Z):cN P w K mg base gK 9 Z.kM Z.kI ["_law_system_here","_law_parts_here","_law_start","_law_goal_here","_law_steps_here"] (Ov K Z.a_System):=by
 refine T.iI.ok nU (fun vs H Q E h=>?_) (fun cdv A outer s H vs Q E hr h=>?_)
 ·obtain ⟨x,r,s,g0,tt,a,c,D0,W0,E0,W1,H0,H1,mv,pt,lk,pus,st,go,rfl,hT,S,PQ,D,SF,F,Rs,ls,Rg,lg,CT,lp,wp,est,k⟩:=h;rfl
 ·obtain ⟨x,r,s,g0,tt,a,c,D0,W0,E0,W1,H0,H1,mv,pt,lk,pus,st,go,rfl,hT,S,PQ,D,SF,F,Rs,ls,Rg,lg,CT,lp,wp,est,k⟩:=h
  refine ⟨_,(aw (ff (cL (Ho T) hr T.Dv T.D4.kp T.Gk (aa (pv 0) (aa (eB (fM K (by rfl)) (by rfl) T.list PyProof.Rows.boot_list (aa (pv 2) ai)) (aa (eB (fM K (by rfl)) (by rfl) T.list PyProof.Rows.boot_list (aa (pv 3) ai)) (aa (pv 4) ai))))) (uS rfl (cI (aO (i:=5) nU.nd) (cI (aO (i:=6) nU.nd) iX))))
   (aB (aX (AS (iY eP (pv 5) rC (bM _)) (AQ (cL (wO T) hr T.rL T.oX.kp T.tS (aa (pv 1) (aa (pv 2) (aa (pv 3) (aa (pv 4) (aa (pv 6) ai))))))))))),?_⟩
  refine aS (σ:=[some (.ref x),some (.ref r),some (.ref s),some (.ref g0),some (.int tt),none,none]) rfl ?_;obtain ⟨zs,gz,qz⟩:=id Rs;obtain ⟨ys,gy,qy⟩:=id Rg;walk_at "w";refine ⟨s,zs,rfl,.inl (bV.of gz),fun c1 hc1=>?_⟩;have s1:aL H (upd H c1 (.lst zs)):=aL.new hc1;have R1:cw K (upd H c1 (.lst zs)) c1 st:=⟨zs,aM,Paired.imp' (fun _ _ z=>z.same s1) qz⟩;generalize upd H c1 (.lst zs)=H2 at s1 R1 ⊢;walk_at "w";refine ⟨g0,ys,rfl,.inl (bV.of (s1 _ _ gy)),fun c2 hc2=>?_⟩;have s2:aL H2 (upd H2 c2 (.lst ys)):=aL.new hc2;have R2:cw K (upd H2 c2 (.lst ys)) c2 go:=⟨ys,aM,Paired.imp' (fun _ _ z=>z.same (s1.trans s2)) qy⟩;generalize upd H2 c2 (.lst ys)=H3 at s2 R2 ⊢;have s03:=s1.trans s2;walk_at "w";refine ⟨x,c1,c2,tt,a,c,D0,W0,E0,W1,H0,mv,pt,lk,st,go,rfl,by lia,S.same s03,D,SF,F,R1.same s2,ls,R2,lg,CT.cf,CT.sg,CT.co,⟨fun t4 p4 pus4 q4 H4 g4 n4 s4 G4 l4 w4 st4 q40 q41 tp4=>?_,fun t4 p4 pr q4 H4 g4 n4 s4 R4 l4 w4 d4 _ _ _=>?_⟩⟩
  ·have s04:=s03.trans s4;walk_at "w";rw[decide_eq_true rfl];walk_at "w";exact ⟨r,s,g0,p4,tt,H1,H3,mv,pt,lk,pus4,st,go,rfl,by lia,PQ.same s04,D,Rs.same s04,ls,Rg.same s04,G4,l4,w4,CT.en pus4 q4 q40 q41 l4 tp4,st4,fun H5 s5=>k H5 (s04.trans s5)⟩
  ·have:=Cn D ls lg lp wp est l4 w4;rw[d4] at this;exact absurd this (by decide)
theorem De:bx ["_law_one","_law_other"] ["_law_one","_law_other"] (ax j3):=by walk_at "d"
theorem Ds (T:Txt K mg Z):cN P w K mg base gK 2 Z.rn Z.qJ ["_law_one","_law_other"] (uN K (fun x y=>x - y)):=by
 refine T.vI.ok De (fun vs H Q E h=>?_) (fun cdv A outer s H vs Q E hr h=>?_)
 ·obtain ⟨p,q,a,b,c,d,rfl,hp,hq,hb,hd,sa,sb,sc,sd,k⟩:=z7 h;rfl
 ·obtain ⟨p,q,a,b,c,d,rfl,hp,hq,hb,hd,sa,sb,sc,sd,k⟩:=z7 h;refine ⟨_,(aB (aX (cL (j7 T) hr T.iC T.iH.kp T.jK (aa (bN lK (bN di (aW b8 (pv 0) ak) (aW b8 (pv 1) ak)) (bN di (aW b8 (pv 1) ak) (aW b8 (pv 0) ak))) (aa (bN di (aW b8 (pv 0) ak) (aW b8 (pv 1) ak)) ai))))),?_⟩;refine aS (σ:=[some (.ref p),some (.ref q)]) rfl ?_;have hbd:0 < b*d:=pU hb hd;have sbd:Sz 8999 (b*d):=(sb.mul sd).mono (by decide);walk_at "w";refine gG (show jk _ _ from .inr ⟨_,_,sa,sd,by decide⟩) ?_;walk_at "w";refine gG (show jk _ _ from .inr ⟨_,_,sc,sb,by decide⟩) ?_;walk_at "w";refine gG (show jk _ _ from .inr ⟨_,_,sb,sd,by decide⟩) ?_;walk_at "w";walk_at "w";refine ⟨_,_,rfl,hbd,sbd,k⟩
theorem BM:bx ["_law_one","_law_other"] ["_law_one","_law_other"] (ax iT):=by walk_at "d"
theorem rF (T:Txt K mg Z):cN P w K mg base gK 3 Z.oR Z.oA ["_law_one","_law_other"] (Ce K):=by
 refine T.kT.ok BM (fun vs H Q E h=>?_) (fun cdv A outer s H vs Q E hr h=>?_)
 ·obtain ⟨p,q,xs,ys,rfl,hp,hq,hl,hz,h1,h2,kk⟩:=h;rfl
 ·obtain ⟨p,q,xs,ys,rfl,hp,hq,hl,hz,h1,h2,kk⟩:=h;refine ⟨_,(aB (aX (cG ["_law_k"] ["_law_one","_law_other"] [0,1] (cx rfl T.range (aa (bJ bu (by rfl) T.len aV (aa (pv 0) ai)) ai)) (fun _=>(aO (i:=0) (show List.Nodup (α:=PySem.Str) ["_law_k","_law_one","_law_other"] by decide +kernel))) (fun _=>cJ) (fun _=>(cL (Ds T) hr T.xW T.vI.kp T.zJ (aa (aW (iD K (by rfl)) (pv 1) (pv 0)) (aa (aW (iD K (by rfl)) (pv 2) (pv 0)) ai))))))),?_⟩;refine aS (σ:=[some (.ref p),some (.ref q)]) rfl ?_;obtain ⟨us,gu,qu⟩:=id hp;obtain ⟨ws,gw,qw⟩:=id hq;have lu:=qu.length;walk_at "w";refine ⟨_,_,rfl,.inl (bV.of gu),?_⟩;walk_at "w";refine ⟨by lia,by lia,?_⟩;refine fX (n:=us.length) (cC K) (fun i=>xs.getD i 0 - ys.getD i 0) (by lia) (fun a b=>a.same b) ?_ ?_
  ·rintro i H' NY NN hi s k1;have ix:i < xs.length:=by lia
   have iy:i < ys.length:=by lia
   obtain ⟨vx,ex,nx⟩:=Jr (Paired.imp' (fun _ _ z=>z.same s) qu) ix;obtain ⟨vy,ey,ny⟩:=Jr (Paired.imp' (fun _ _ z=>z.same s) qw) iy;walk_at "w";refine cB (bV.of (s _ _ gu)) ex ?_;walk_at "w";refine cB (bV.of (s _ _ gw)) ey ?_;walk_at "w";exact ⟨_,_,_,_,rfl,nx,ny,h1 _ (getD_mem ix),h2 _ (getD_mem iy),fun r3 H3 s3 n3=>k1 _ _ s3 n3⟩
  ·rintro ys' H' l hl' s g pr nx;exact kk l H' hl' s ⟨ys',g,by rw[Fg (by lia)];rw[<- lu] at pr;exact pr⟩
theorem lZ:bx ["_law_parts_here","_law_start","_law_steps_here","_law_state","_law_turn"] ["_law_parts_here","_law_start","_law_steps_here"] (ax iV):=by walk_at "d"
theorem rG (T:Txt K mg Z):cN P w K mg base gK 5 Z.oT Z.oC ["_law_parts_here","_law_start","_law_steps_here"] (IL K):=by
 refine T.kU.ok lZ (fun vs H Q E h=>?_) (fun cdv A outer s H vs Q E hr h=>?_)
 ·obtain ⟨r,s,tt,H0,mv,pt,lk,st,rfl,hT,PQ,D,Rs,ls,AF,k⟩:=h;rfl
 ·obtain ⟨r,s,tt,H0,mv,pt,lk,st,rfl,hT,PQ,D,Rs,ls,AF,k⟩:=h
  refine ⟨_,(aw (bo (i:=3) lZ.nd rfl (Or.inl rfl) (eB (fM K (by rfl)) (by rfl) T.list PyProof.Rows.boot_list (aa (pv 1) ai)))
   (aw (d7 PassesOwn.never rfl (cx rfl T.range (aa (pv 2) ai)) (aO (i:=4) lZ.nd)
    (aB (bo (i:=3) lZ.nd rfl (Or.inl rfl) (cL (xr T) hr T.tq T.sO.kp T.v7 (aa (aW b8 (pv 0) ak) (aa (pv 3) ai))))))
   (aB (aX (pv 3))))),?_⟩
  refine aS (σ:=[some (.ref r),some (.ref s),some (.int tt),none,none]) rfl ?_;have d1:=D.n8;obtain ⟨m,p,l,g,n1,n2,n3,Gm,Gp,Gl⟩:=id PQ;obtain ⟨ss,gs,qs⟩:=id Rs;walk_at "w";refine ⟨s,ss,rfl,.inl (bV.of gs),fun c hc=>?_⟩;have sc:aL H (upd H c (.lst ss)):=aL.new hc;have Rc:cw K (upd H c (.lst ss)) c st:=⟨ss,aM,Paired.imp' (fun _ _ z=>z.same sc) qs⟩;generalize upd H c (.lst ss)=Hc at sc Rc ⊢;walk_at "w";refine ⟨by lia,by lia,?_⟩;refine eG (n:=tt) (fun i σ' H'=>aL H H'/\∃q y,σ'=[some (.ref r),some (.ref s),some (.int tt),some (.ref q),y]/\H q=none/\cw K H' q (jq mv i st)) ⟨sc,c,_,rfl,hc,Rc⟩ ?_ ?_
  ·rintro i σ' H' hi ⟨e,q,y,rfl,nq,Rq⟩;have ge:=e _ _ g;walk_at "w";refine ⟨m,q,H0,mv,_,rfl,Gm.same e,Rq,by lia,by rw[gH ls];lia,fun xs hx=>⟨by rw[D.mw xs hx,gH ls],(AF.fit D.mw ls (show i<=tt by lia)).1 xs hx⟩,fun q2 H2 n2 s2 R2=>?_⟩;exact ⟨e.trans s2,q2,_,rfl,e.none n2,R2⟩
  ·rintro σ' H' ⟨e,q,y,rfl,nq,Rq⟩;walk_at "w";exact k q H' nq e Rq
theorem sV:bx ["_law_bag_here","_law_parts_here","_law_start","_law_steps_here","_law_wide","_law_goal_here","_law_at"] ["_law_bag_here","_law_parts_here","_law_start","_law_steps_here","_law_wide"] (ax j4):=by walk_at "d"
theorem Dt (T:Txt K mg Z):cN P w K mg base gK 7 Z.rz Z.qK ["_law_bag_here","_law_parts_here","_law_start","_law_steps_here","_law_wide"] (Kg K):=by
 refine T.vJ.ok sV (fun vs H Q E h=>?_) (fun cdv A outer s H vs Q E hr h=>?_)
 ·obtain ⟨b,r,s,tt,w,H0,mv,pt,lk,st,rfl,hT,w1,w2,hB,nb,PQ,D,Rs,sb,ls,EN,k⟩:=h;rfl
 ·obtain ⟨b,r,s,tt,w,H0,mv,pt,lk,st,rfl,hT,w1,w2,hB,nb,PQ,D,Rs,sb,ls,EN,k⟩:=h
  refine ⟨_,(aw (dc (bH eP (cL (bp T) hr T.aU T.bg.kp T.bw (aa (pv 0) (aa ak ai))) ak (bM _)) (aB (aX (cL (j6 T) hr T.gi T.gI.kp T.iF (aa (pv 0) (aa (bJ bu (by rfl) T.len aV (aa (pv 2) ai)) (aa (pv 4) ai)))))) bZ)
   (aw (bo (i:=5) sV.nd rfl (Or.inl rfl) (cL (uY T) hr T.qh T.pT.kp T.tT (aa (pv 1) (aa (pv 2) (aa (cL (sX T) hr T.oi T.nN.kp T.qP (aa (pv 0) (aa (pv 1) (aa (pv 3) (aa (pv 4) ai))))) ai)))))
   (aw (dc (PW.pt (kv (bH wL (bJ bu (by rfl) T.len aV (aa (pv 5) ai)) ak (bM _)) (ma (bH eP (cL (bp T) hr T.aU T.bg.kp T.bw (aa (pv 0) (aa ak ai))) ak (bM _))))) (aw (bo (i:=6) sV.nd rfl (Or.inl rfl) (cL (bp T) hr T.aU T.bg.kp T.bw (aa (pv 0) (aa (bJ bu (by rfl) T.len aV (aa (pv 5) ai)) ai))))
   (aB (ff (cL (nD T) hr T.j9 T.jL.kp T.lO (aa (aW bL (pv 5) (pv 6)) (aa (cZ (aa ak (aa (bN fv ak (cL (bp T) hr T.aU T.bg.kp T.bw (aa (pv 0) (aa ak ai)))) ai))) ai))) (h9 (pv 5) (pv 6) set_list)))) bZ)
   (aB (aX (pv 5)))))),?_⟩
  refine aS (σ:=[some (.ref b),some (.ref r),some (.ref s),some (.int tt),some (.int w),none,none]) rfl ?_;have d8:=D.n8;walk_at "w";refine ⟨b,2,rfl,hB,by decide,by decide,fun v H1 v0 v1 B1 u1=>?_⟩;have Rs1:=Rs.upto u1 hB sb;obtain ⟨zs,gz,qz⟩:=id Rs1;have lz:=qz.length;walk_at "w";refine iq (fun h=>?_) (fun h=>?_)
  ·walk_at "w";refine ⟨_,_,rfl,.inl (bV.of gz),?_⟩;rw[<- lz];walk_at "w";refine ⟨b,st.length,w,rfl,B1,by lia,w1,by lia,fun q xs H2 nq R2 l2 d2 B2 u2=>?_⟩;exact k q xs H2 (u1.none B1 nq) R2 (by lia) (.inl d2) B2 (u1.trans u2)
  ·have PQ1:=PQ.upto u1 hB nb;walk_at "w";refine ⟨b,r,tt,w,H0,mv,pt,lk,rfl,hT,w1,w2,B1,nb,PQ1,D,fun p pus H2 np Gp lp dp B2 u2=>?_⟩;have DP:LV pt tt w pus:=⟨lp,dp⟩;have EF:=EN pus DP;have wp:∀xs∈pus,xs.length=pt.length:=fun xs hx=>(dp xs hx).1
   have u02:=u1.trans u2;walk_at "w";refine ⟨r,s,p,H0,H1,mv,pt,lk,pus,st,rfl,PQ1.upto u2 B1 nb,D,Rs1.upto u2 B1 sb,ls,Gp,by lia,wp,EF,fun g H3 ng s3 Rg=>?_⟩;rw[lp] at Rg;have B3:=B2.same s3;have u03:cT b H H3:=u02.same s3;have ng0:H g=none:=u02.none B2 ng;have gb:g≠b:=fun z=>B2.at (by rw[<- z];exact ng)
   have lst:(kX mv pt st pus tt).length=mv.length:=jz ls (by lia);have fin0:∀H':Hp,cT b H3 H'->ir H' b->Q (.ref g) H':=fun H' u B=>k g _ H' ng0 (Rg.upto u B3 gb) lst (.inr ⟨pus,DP,.inl rfl⟩) B (u03.trans u)
   obtain ⟨ys,gy,qy⟩:=id Rg;have ly:=qy.length;rw[lst] at ly;walk_at "w";refine ⟨_,_,rfl,.inl (bV.of gy),?_⟩;rw[<- ly];walk_at "w";refine iq (fun h1=>?_) (fun h1=>?_)
   ·have np0:0 < mv.length:=by have:=of_decide_eq_true h1;lia
    walk_at "w";refine ⟨b,4,rfl,B3,by decide,by decide,fun v4 H4 v40 v41 B4 u4=>?_⟩;walk_at "w";refine iq (fun h2=>?_) (fun h2=>?_)
    ·obtain ⟨ys4,gy4,qy4⟩:=Rg.upto u4 B3 gb;have ly4:=qy4.length;rw[lst] at ly4;walk_at "w";refine ⟨_,_,rfl,.inl (bV.of gy4),?_⟩;rw[<- ly4];walk_at "w";refine ⟨b,mv.length,rfl,B4,by lia,by lia,fun at' H5 a0 a1 B5 u5=>?_⟩;obtain ⟨at',rfl⟩:=cn a0;have u35:=u4.trans u5;obtain ⟨ys5,gy5,qy5⟩:=Rg.upto u35 B3 gb;have ly5:=qy5.length;rw[lst] at ly5;obtain ⟨vx,ex,nx⟩:=Jr qy5 (j:=at') (by rw[lst];lia);walk_at "w";refine cB (bV.of gy5) ex ?_;walk_at "w";refine ⟨b,3,rfl,B5,by decide,by decide,fun v6 H6 v60 v61 B6 u6=>?_⟩;obtain ⟨v6,rfl⟩:=cn v60;walk_at "w";refine cu fun t7 H7 s7 g7=>?_
     rw[show ((1:Int)+(v6:Int))=((v6+1:Nat):Int) by lia] at g7;have u37:cT b H3 H7:=(u35.trans u6).same s7;obtain ⟨ys7,gy7,qy7⟩:=Rg.upto u37 B3 gb;have ly7:=qy7.length;rw[lst] at ly7
     have e57:ys7=ys5:=by
      have:=(u6.same s7).other gb gy5;rw[gy7] at this;cases this;rfl
     have szst:=EF.szn D ls wp (k:=tt) (by lia);have mx:(kX mv pt st pus tt).getD at' 0∈kX mv pt st pus tt:=getD_in (by rw[lst];lia);have szu:rW (L5 v6):=tz (by decide) (show 6<=2^3 by decide) (show 1<=2^0 by decide) (by decide) (NB (by lia));walk_at "w";refine ⟨_,_,(kX mv pt st pus tt).getD at' 0,L5 v6,rfl,(nx.upto (u6.same s7) B5),cC.mk (q:=L5 v6) g7 rfl,szst _ mx,szu,fun r8 H8 s8 N8=>?_⟩;have gy8:=s8 _ _ gy7;have B8:=(B6.same s7).same s8;have u38:=u37.same s8;obtain ⟨q0,I0,xq0,gq0⟩:=hB.inner;have gq:g≠q0:=fun z=>by rw[<- z,ng0] at gq0;cases gq0
     have u08:cT b H H8:=u03.trans u38;have I8:=u08.2 _ I0;walk_at "w";refine fh gy8 (fF (by lia)) rfl ?_;walk_at "w";exact k g _ _ ng0 ⟨_,aM,xn (N8.updL gy8) at' (Paired.imp' (fun _ _ z=>(z.same s8).updL gy8) qy7)⟩ (by rw[dP];exact lst) (.inr ⟨pus,DP,.inr ⟨at',v6,by lia,rfl⟩⟩) (B8.upd I8 gb gq) (u08.after ng0)
    ·walk_at "w";exact fin0 H4 u4 B4
   ·walk_at "w";exact fin0 H3 (aL.refl _).upto B3
theorem gO:bx ["_law_parts_here","_law_steps_here","_law_rows","_law_some","_law_turn"] ["_law_parts_here","_law_steps_here"] (ax iW):=by walk_at "d"
theorem BU (T:Txt K mg Z):cN P w K mg base gK 5 Z.oU Z.oE ["_law_parts_here","_law_steps_here"] (IM K):=by
 refine T.uu.ok gO (fun vs H Q E h=>?_) (fun cdv A outer s H vs Q E hr h=>?_)
 ·obtain ⟨r,tt,H0,mv,pt,lk,rfl,hT,PQ,D,AF,k⟩:=h;rfl
 ·obtain ⟨r,tt,H0,mv,pt,lk,rfl,hT,PQ,D,AF,k⟩:=h
  refine ⟨_,(aw (p7 2 ["_law_row_here"] [] [] gO.nd rfl rfl (cQ (aW b8 (pv 0) ak)) (fun _=>(aO (i:=0) (show List.Nodup (α:=PySem.Str) ["_law_row_here"] by decide +kernel))) (fun _=>cJ) (fun _=>(eB (fM K (by rfl)) (by rfl) T.list PyProof.Rows.boot_list (aa (pv 0) ai))))
   (aw (bo (i:=3) gO.nd rfl (Or.inl rfl) (dJ ai))
   (aw (d7 PassesOwn.never rfl (cx rfl T.range (aa (pv 1) ai)) (aO (i:=4) gO.nd)
    (aw (bo (i:=3) gO.nd rfl (Or.inl rfl) (bN ky (pv 3) (pv 2)))
   (aB (p7 2 ["_law_row_here"] ["_law_parts_here"] [0] gO.nd rfl rfl (cQ (pv 2)) (fun _=>(aO (i:=0) (show List.Nodup (α:=PySem.Str) ["_law_row_here","_law_parts_here"] by decide +kernel))) (fun _=>cJ) (fun _=>(cL (xr T) hr T.tq T.sO.kp T.v7 (aa (aW (tx K (by rfl)) (pv 1) ak) (aa (pv 0) ai))))))))
   (aB (aX (pv 3)))))),?_⟩
  refine aS (σ:=[some (.ref r),some (.int tt),none,none,none]) rfl ?_;have d1:=D.n8;have i4:=D.i4;obtain ⟨m,p,l,g,n1,n2,n3,Gm,Gp,Gl⟩:=id PQ;obtain ⟨up,gp,qp,_⟩:=id Gp;have lup:=qp.length;walk_at "w";refine ⟨⟨_,bV.of gp⟩,?_⟩;refine fB (K:=K) (F:=dB K H0) (dB K H) id gp qp (by lia) (fun a b=>a.same b) (fun a b=>a.same b) ?_ ?_
  ·rintro i ns x H' NY NN en s ⟨u,rfl,_,zs,gz,qz⟩ k1;walk_at "w";refine ⟨u,zs,rfl,.inl (bV.of gz),fun l1 hl1=>?_⟩;exact k1 _ _ (aL.new hl1) ⟨l1,rfl,s.none hl1,zs,aM,Paired.imp' (fun _ _ z=>z.same (aL.new hl1)) qz⟩
  rintro ys1 H1 rq1 hr1 s1 g1 pr1 nx1;rw[uF] at pr1 nx1;have G1:bR K H H1 rq1 pt:=⟨ys1,g1,pr1,pN nx1⟩;walk_at "w";refine dg fun sm0 H2 s2 nf gf=>?_
  have s02:=s1.trans s2;walk_at "w";refine ⟨by lia,by lia,?_⟩;refine eG (n:=tt) (fun t σ' H'=>aL H H'/\∃rq sm y,σ'=[some (.ref r),some (.int tt),some (.ref rq),some (.ref sm),y]/\H sm=none/\bR K H H' sm (kry mv pt t)/\bR K H H' rq (pt.map (jq mv t))) ⟨s02,rq1,sm0,_,rfl,s1.none nf,⟨[],gf,.nil,fun z=>nomatch z⟩,by rw[show pt.map (jq mv 0)=pt from uF pt];exact G1.same s2⟩ ?_ ?_
  ·rintro t σ' H' ht ⟨s',rq,sm,y,rfl,nsm,Gs,Gq⟩;obtain ⟨us,gu,pu,_⟩:=id Gs;obtain ⟨zs,gz,qz,_⟩:=id Gq;have lz:=qz.length;rw[ar] at lz;have lu:=pu.length;rw[xZ] at lu;have lb:t*pt.length<=20*4:=aF (by lia) i4;walk_at "w";refine kr gu gz (aY (bO (by lia))) fun cc H3 s3 nc gc=>?_
   have ek:kry mv pt (t+1)=kry mv pt t++pt.map (jq mv t):=by
    rw[<- v8,DT,ji,v8];simp
   have Gc:bR K H H3 cc (kry mv pt (t+1)):=by
    rw[ek];exact ⟨_,gc,Paired.imp' (fun _ _ z=>dB.same z s3) (b6 pu qz),pN ⟨H',nc,b6 pu qz⟩⟩
   have s03:=s'.trans s3;have g3:=s03 _ _ g;walk_at "w";refine ⟨⟨_,bV.of (s3 _ _ gz)⟩,?_⟩;refine fB (K:=K) (F:=dB K H) (dB K H) (uG mv) (s3 _ _ gz) (Paired.imp' (fun _ _ z=>dB.same z s3) qz) (by rw[ar];lia) (fun a b=>a.same b) (fun a b=>a.same b) ?_ ?_
   ·rintro i ns v Ha NY NN en sa ⟨u,rfl,_,Ru⟩ k1;have mn:=ay en;obtain ⟨y0,hy0,rfl⟩:=aD.mp mn;have wy:=D.pw y0 hy0;have ga:=sa _ _ g3;walk_at "w";exact ⟨m,u,H0,mv,_,rfl,(Gm.same s03).same sa,Ru,by lia,by rw[gH wy];lia,fun xs hx=>⟨by rw[D.mw xs hx,gH wy],((AF.row D.mw D.pw y0 hy0).fit D.mw wy (show t<=tt by lia)).1 xs hx⟩,fun z Hj nz sj Rz=>k1 _ _ sj ⟨z,rfl,s03.none (sa.none nz),Rz⟩⟩
   ·rintro ys Hb rr hrr sb gb prb nxb;have e:(pt.map (jq mv t)).map (uG mv)=pt.map (jq mv (t+1)):=by rw[wD];rfl
    rw[e] at prb nxb;exact ⟨s03.trans sb,rr,cc,_,rfl,s'.none nc,Gc.same sb,ys,gb,prb,pN nxb⟩
  ·rintro σ' H' ⟨s',rq,sm,y,rfl,nsm,Gs,Gq⟩;walk_at "w";exact k sm H' nsm s' Gs
theorem uP:bx ["_law_parts_here","_law_start","_law_goal_here","_law_steps_here","_law_price","_law_row_here"] ["_law_parts_here","_law_start","_law_goal_here","_law_steps_here","_law_price"] (ax gY):=by walk_at "d"
theorem A0 (T:Txt K mg Z):cN P w K mg base gK 6 Z.mS Z.mE ["_law_parts_here","_law_start","_law_goal_here","_law_steps_here","_law_price"] (Fp K):=by
 refine T.rT.ok uP (fun vs H Q E h=>?_) (fun cdv A outer s H vs Q E hr h=>?_)
 ·obtain ⟨r,s,g0,p0,tt,H0,mv,pt,lk,st,go,pr,rfl,hT,PQ,D,Rs,ls,Rg,lg,Rp,lpr,PF,hz,h1,k⟩:=h;rfl
 ·obtain ⟨r,s,g0,p0,tt,H0,mv,pt,lk,st,go,pr,rfl,hT,PQ,D,Rs,ls,Rg,lg,Rp,lpr,PF,hz,h1,k⟩:=h
  refine ⟨_,(aw (dc (jH (jo (cL (uX T) hr T.pQ T.mX.kp T.rO (aa (pv 4) (aa (bJ bu (by rfl) T.len aV (aa (aW b8 (pv 0) ak) ai)) ai))))) (aB (aX sA)) bZ)
   (aw (d7 PassesOwn.never rfl (cQ (cL (BU T) hr T.wY T.uu.kp T.yp (aa (pv 0) (aa (pv 3) ai)))) (aO (i:=5) uP.nd)
    (aB (dc (bH (O6 (Le hr)) (cL (p9 T) hr T.nF T.lV.kp T.pR (aa (pv 4) (aa (pv 5) ai))) (cZ (aa ak (aa ak ai))) (bM _)) (aB (aX sA)) bZ)))
   (aB (aX (iY (Di (Le hr)) (cL (p9 T) hr T.nF T.lV.kp T.pR (aa (pv 4) (aa (cL (rF T) hr T.mh T.kT.kp T.oG (aa (pv 2) (aa (cL (rG T) hr T.mi T.kU.kp T.oH (aa (pv 0) (aa (pv 1) (aa (pv 3) ai)))) ai))) ai))) (cZ (aa ak (aa ak ai))) (bM _)))))),?_⟩
  refine aS (σ:=[some (.ref r),some (.ref s),some (.ref g0),some (.int tt),some (.ref p0),none]) rfl ?_;have d8:=D.n8;have i4:=D.i4;obtain ⟨m,p,l,g,n1,n2,n3,Gm,Gpt,Gl⟩:=id PQ;obtain ⟨um,gm,qm,_⟩:=id Gm;have lum:=qm.length;walk_at "w";refine ⟨_,_,rfl,.inl (bV.of gm),?_⟩;rw[<- lum];walk_at "w";refine ⟨p0,pr.map nm,by rw[ar,lpr],Rp.rowK,by rw[ar];lia,fun v hv=>?_,fun H2 s2=>?_⟩
  ·obtain ⟨v,mv',rfl⟩:=aD.mp hv;exact JX (PF.sr v mv')
  walk_at "w";refine ⟨r,tt,H0,mv,pt,lk,rfl,hT,PQ.same s2,D,PF.ad,fun q H3 nq s3 Gq=>?_⟩;obtain ⟨us,gu,qu,_⟩:=id Gq;have wk:=gM (mv:=mv) (pt:=pt) rfl D.pw tt;have s03:=s2.trans s3;walk_at "w";refine ⟨⟨_,bV.of gu⟩,?_⟩;refine jv (K:=K) (a:=q) (xs:=us) (fun i σ' H'=>aL H3 H'/\∃x1,σ'=[some (.ref r),some (.ref s),some (.ref g0),some (.int tt),some (.ref p0),x1]) ⟨aL.refl _,_,rfl⟩ (fun i σ' H' _ ⟨e,_⟩=>bV.of (e _ _ gu)) ?_ ?_
  ·rintro i v σ' H' hv ⟨e,x1,rfl⟩;obtain ⟨row,er,u,rfl,_,Ru⟩:=cF qu hv;have mr:=ay er;have wr:=wk row mr;have e3:=s03.trans e;have dz:dh pr row=0:=by rw[ES (by lia)];exact hz row mr
   walk_at "w";refine ⟨p0,u,pr,row,rfl,Rp.same e3,cw.same Ru e,by lia,by lia,PF.f1 row mr,fun d1 H4 s4 N4=>?_⟩;rw[dz] at N4;walk_at "w";refine cu fun t5 H5 s5 g5=>?_
   walk_at "w";refine ⟨_,_,HE,0,0,by decide,N4.same s5,cC.mk (q:=0) g5 rfl,?_⟩;rw[decide_eq_true rfl];walk_at "w";exact ⟨(e.trans s4).trans s5,_,rfl⟩
  ·rintro σ' H' ⟨e,x1,rfl⟩;have e3:=s03.trans e;walk_at "w";refine ⟨r,s,tt,H0,mv,pt,lk,st,rfl,by lia,PQ.same e3,D,Rs.same e3,ls,PF.al,fun al H4 n4 s4 R4=>?_⟩;have lpw:=gH (mv:=mv) ls tt;walk_at "w";refine ⟨g0,al,go,_,rfl,(Rg.same e3).same s4,R4,by rw[lpw,lg],by lia,PF.sg,(PF.al.fit D.mw ls (ao _)).2,fun lq H5 n5 s5 R5=>?_⟩;have R5:cw K H5 lq (fO mv tt st go):=R5;have ll:=sF (T:=tt) ls lg;have e5:=(e3.trans s4).trans s5;walk_at "w";refine ⟨p0,lq,pr,_,rfl,Rp.same e5,R5,by lia,by lia,PF.f2,fun d1 H6 s6 N6=>?_⟩;rw[h1] at N6;walk_at "w";refine cu fun t7 H7 s7 g7=>?_
   walk_at "w";refine ⟨_,_,HE,1,1,by decide,N6.same s7,cC.mk (q:=1) g7 rfl,?_⟩;rw[decide_eq_true rfl];exact k _ ((e5.trans s6).trans s7)
theorem jm:bx ["_law_script","_law_bag_here","_law_parts_here","_law_wide","_law_n","_law_system_here","_law_steps_here","_law_begins","_law_rows","_law_ends","_law_k","_law_lack","_law_goal_here","_law_kind","_law_found"] ["_law_script"] (ax Cg):=by walk_at "d"
theorem O7 (T:Txt K mg Z):cN P w K mg base gK 10 Z.LL Z.LB ["_law_script"] (CZ K):=by
 refine T.Oc.ok jm (fun vs H Q E h=>?_) (fun cdv A outer s H vs Q E hr h=>?_)
 ·obtain ⟨a,ns,rfl,hS,hlen,k⟩:=h;rfl
 ·obtain ⟨a,ns,rfl,hS,hlen,k⟩:=h
  refine ⟨_,(aw (bo (i:=1) jm.nd rfl (Or.inl rfl) (cL (EB T) hr T.zy T.xC.kp T.Bv (aa (pv 0) ai)))
   (aw (ff (cL (AZ T) hr T.vd T.rS.kp T.xa (aa (pv 1) ai)) (uS rfl (cI (aO (i:=2) jm.nd rfl (Or.inr rfl) (Or.inl rfl)) (cI (aO (i:=3) jm.nd) iX))))
   (aw (bo (i:=4) jm.nd rfl (Or.inl rfl) (bJ bu (by rfl) T.len aV (aa (aW b8 (pv 2) ak) ai)))
   (aw (bo (i:=5) jm.nd rfl (Or.inl rfl) (cL (Dq T) hr T.xV T.vH.kp T.zI (aa (pv 2) ai)))
   (aw (bo (i:=6) jm.nd rfl (Or.inl rfl) (cL (BQ T) hr T.wV T.uo.kp T.ym (aa (pv 1) (aa (pv 2) ai))))
   (aw (bo (i:=7) jm.nd rfl (Or.inr rfl) (dJ (aa (cL (j6 T) hr T.gi T.gI.kp T.iF (aa (pv 1) (aa (pv 4) (aa (pv 3) ai)))) (aa (cL (j6 T) hr T.gi T.gI.kp T.iF (aa (pv 1) (aa (pv 4) (aa (pv 3) ai)))) ai))))
   (aw (bo (i:=8) jm.nd rfl (Or.inr rfl) (dJ (aa (cL (sX T) hr T.oi T.nN.kp T.qP (aa (pv 1) (aa (pv 2) (aa (pv 6) (aa (pv 3) ai))))) (aa (cL (sX T) hr T.oi T.nN.kp T.qP (aa (pv 1) (aa (pv 2) (aa (pv 6) (aa (pv 3) ai))))) ai))))
   (aw (p7 9 ["_law_k"] ["_law_parts_here","_law_begins","_law_rows"] [2,7,8] jm.nd rfl rfl (cx rfl T.range (aa ak ai)) (fun _=>(aO (i:=0) (show List.Nodup (α:=PySem.Str) ["_law_k","_law_parts_here","_law_begins","_law_rows"] by decide +kernel))) (fun _=>cJ) (fun _=>(cL (uY T) hr T.qh T.pT.kp T.tT (aa (pv 1) (aa (aW (iD K (by rfl)) (pv 2) (pv 0)) (aa (aW (iD K (by rfl)) (pv 3) (pv 0)) ai))))))
   (aw (d7 PassesOwn.never rfl (cx rfl T.range (aa ak ai)) (aO (i:=10) jm.nd)
    (aw (dc (jH (jo (cL (nV T) hr T.jA T.iI.kp T.kK (aa (pv 5) (aa (pv 2) (aa (aW (iD K (by rfl)) (pv 7) (pv 10)) (aa (aW bL (pv 9) (pv 10)) (aa (pv 6) ai)))))))) (aB (aX sA)) bZ)
   (aw (bo (i:=11) jm.nd rfl (Or.inl rfl) (cL (rF T) hr T.mh T.kT.kp T.oG (aa (aW bL (pv 9) (pv 10)) (aa (cL (rG T) hr T.mi T.kU.kp T.oH (aa (pv 2) (aa (aW (iD K (by rfl)) (pv 7) (pv 10)) (aa (pv 6) ai)))) ai))))
   (aB (dc (jH (jo (cL (nV T) hr T.jA T.iI.kp T.kK (aa (pv 5) (aa (pv 2) (aa (cG ["_law_one"] [] [] (cQ (pv 11)) (fun _=>(aO (i:=0) (show List.Nodup (α:=PySem.Str) ["_law_one"] by decide +kernel))) (fun _=>cJ) (fun _=>(cZ (aa ak (aa ak ai))))) (aa (pv 11) (aa (pv 6) ai)))))))) (aB (aX sA)) bZ)))))
   (aw (dc (jH (jo (cL (nV T) hr T.jA T.iI.kp T.kK (aa (pv 5) (aa (pv 2) (aa (cL (oa T) hr T.kF T.kf.kp T.nH (aa (aW bL (pv 7) ak) (aa (aW bL (pv 7) ak) ai))) (aa (cL (oa T) hr T.kF T.kf.kp T.nH (aa (aW bL (pv 9) ak) (aa (aW bL (pv 9) ak) ai))) (aa (pv 6) ai)))))))) (aB (aX sA)) bZ)
   (aw (bo (i:=12) jm.nd rfl (Or.inl rfl) (cL (Dt T) hr T.xX T.vJ.kp T.zK (aa (pv 1) (aa (pv 2) (aa (aW bL (pv 7) ak) (aa (pv 6) (aa (pv 3) ai)))))))
   (aw (ff (cL (Ho T) hr T.Dv T.D4.kp T.Gk (aa (pv 5) (aa (aW bL (pv 7) ak) (aa (pv 12) (aa (pv 6) ai))))) (uS rfl (cI (aO (i:=13) jm.nd) (cI (aO (i:=14) jm.nd) iX))))
   (aw (dc (bH eP (pv 13) rC (bM _)) (aB (aX (cL (wO T) hr T.rL T.oX.kp T.tS (aa (pv 2) (aa (aW bL (pv 7) ak) (aa (pv 12) (aa (pv 6) (aa (pv 14) ai)))))))) bZ)
   (aw (bo (i:=11) jm.nd rfl (Or.inl rfl) (cL (rF T) hr T.mh T.kT.kp T.oG (aa (aW bL (pv 9) ak) (aa (cL (rG T) hr T.mi T.kU.kp T.oH (aa (pv 2) (aa (aW bL (pv 7) ak) (aa (pv 6) ai)))) ai))))
   (aB (aX (AS (cL (A0 T) hr T.ve T.rT.kp T.xc (aa (pv 2) (aa (aW bL (pv 7) ak) (aa (pv 12) (aa (pv 6) (aa (pv 14) ai)))))) (AQ (iY (Di (Le hr)) (cL (p9 T) hr T.nF T.lV.kp T.pR (aa (pv 14) (aa (pv 11) ai))) (cZ (aa ak (aa ak ai))) (bM _)))))))))))))))))))),?_⟩
  refine aS (σ:=[some (.ref a),none,none,none,none,none,none,none,none,none,none,none,none,none,none]) rfl ?_;walk_at "w";refine ⟨a,ns,rfl,hS,hlen,fun b H0 hb0 B0 s0=>?_⟩;walk_at "w";refine ⟨b,rfl,B0,fun t r w a' c mv pt lk H1 g1 P1 D F KF RG w1 w2 B1 u1=>?_⟩;have d8:=D.n8;have d4:=D.i4;obtain ⟨m,p,l,gt,mn,pn,ln,Gm,Gp,Gl⟩:=id P1;obtain ⟨um,gm,qm,_⟩:=id Gm;have lum:=qm.length;walk_at "w";refine ⟨_,_,rfl,.inl (bV.of gm),?_⟩;rw[<- lum];clear gm qm lum Gm Gp Gl gt;walk_at "w";refine ⟨r,H0,mv,pt,lk,rfl,P1,D,F.sf,fun x H2 nx s2 S2=>?_⟩;replace S2:nW K H0 H2 Z.a_System x mv pt lk:=S2.weakN fun q h=>u1.none B1 h
  replace P1:=P1.same s2;have B2:=B1.same s2
  have szE:∀xs∈mv++pt,∀x∈xs,rW x:=fun xs hx y hy=>by
   obtain ⟨M,V,h0,h1,h2,f1,f2,_⟩:=F;refine Nd h0 (aj h1 (au (by decide) (by decide))) (aj h2 (au (by decide) (by decide))) ?_;rcases az.mp hx with hx | hx
   ·exact f1 xs hx y hy
   ·exact f2 xs hx y hy
  walk_at "w";refine ⟨b,r,H0,mv,pt,lk,rfl,B2,B0.at,P1,D,szE,fun tt H3 hT B3 u3=>?_⟩;clear szE;replace P1:=P1.upto u3 B2 B0.at;replace S2:=S2.upto u3 B2 B0.at;have T12:=hT.1;obtain ⟨M1,M2,Vx,a1,a2,cc,b1,b2,U⟩:=OF RG D hT;walk_at "w";refine ⟨b,mv.length,w,rfl,B3,by lia,w1,by lia,fun qa sa H4 na Ra la da B4 u4=>?_⟩;walk_at "w";refine ⟨b,mv.length,w,rfl,B4,by lia,w1,by lia,fun qb sb H5 nb Rb lb db B5 u5=>?_⟩;have qab:qa≠b:=fun z=>B3.at (by rw[<- z];exact na)
  have qbb:qb≠b:=fun z=>B4.at (by rw[<- z];exact nb)
  replace Ra:=Ra.upto u5 B4 qab;replace P1:=P1.upto (u4.trans u5) B3 B0.at;replace S2:=S2.upto (u4.trans u5) B3 B0.at;walk_at "w";refine dg fun be H6 s6 n6 g6=>?_
  have bb:be≠b:=fun z=>B5.at (by rw[<- z];exact n6)
  replace Ra:=Ra.same s6;replace Rb:=Rb.same s6;replace P1:=P1.same s6;replace S2:=S2.same s6;have B6:=B5.same s6;walk_at "w";refine ⟨b,r,tt,w,H0,mv,pt,lk,rfl,by lia,w1,w2,B6,B0.at,P1,D,fun pa ua H7 npa Ga la' da' B7 u7=>?_⟩;replace P1:=P1.upto u7 B6 B0.at;walk_at "w";refine ⟨b,r,tt,w,H0,mv,pt,lk,rfl,by lia,w1,w2,B7,B0.at,P1,D,fun pb ub H8 npb Gb lb' db' B8 u8=>?_⟩;have pab:pa≠b:=fun z=>B6.at (by rw[<- z];exact npa)
  have u68:=u7.trans u8;replace P1:=P1.upto u8 B7 B0.at;replace S2:=S2.upto u68 B6 B0.at;replace Ra:=Ra.upto u68 B6 qab;replace Rb:=Rb.upto u68 B6 qbb;replace Ga:=Ga.upto u8 B7 pab B6.at;replace g6:=u68.other bb g6;walk_at "w";refine dg fun ro H9 s9 n9 g9=>?_
  replace P1:=P1.same s9;replace S2:=S2.same s9;replace g6:=s9 _ _ g6;have B9:=B8.same s9
  obtain ⟨af,sf,pf,uf,FF⟩:∃(af:Nat->Addr) (sf:Nat->List Rat) (pf:Nat->Addr) (uf:Nat->List (List Rat)),∀i:Nat,i < 2->[V.ref qa,V.ref qb][i]?=some (V.ref (af i))/\[V.ref pa,V.ref pb][i]?=some (V.ref (pf i))/\af i≠b/\cw K H9 (af i) (sf i)/\(sf i).length=mv.length/\(∀x∈sf i,Dr (max w 6) x)/\(∃Hx,bR K Hx H9 (pf i) (uf i))/\LV pt tt w (uf i):=by
   refine ⟨fun i=>if i=0 then qa else qb,fun i=>if i=0 then sa else sb,fun i=>if i=0 then pa else pb,fun i=>if i=0 then ua else ub,fun i hi=>?_⟩;rcases (show i=0\/i=1 by lia) with rfl | rfl
   ·exact ⟨rfl,rfl,qab,Ra.same s9,la,da,⟨_,Ga.same s9⟩,la',da'⟩
   ·exact ⟨rfl,rfl,qbb,Rb.same s9,lb,db,⟨_,Gb.same s9⟩,lb',db'⟩
  clear Ra Rb Ga Gb;walk_at "w";refine ⟨by decide,by decide,?_⟩;refine fX (n:=2) (fun H' (c:List Rat) v=>∃q,v=V.ref q/\q≠b/\cw K H' q c) (fun i=>kX mv pt (sf i) (uf i) tt) (by decide) (fun ⟨q,e,z,g⟩ s=>⟨q,e,z,g.same s⟩) ?_ ?_
  ·rintro i HY NY NN hi sY k1;obtain ⟨e1,e2,_,Rs,ls,ds,⟨Hx,Gs⟩,dp⟩:=FF i hi;walk_at "w";refine cB (bV.of (sY _ _ g6)) (eC e1) ?_;walk_at "w";refine cB (bV.of (sY _ _ g9)) (eC e2) ?_;walk_at "w";refine ⟨r,af i,pf i,H0,Hx,mv,pt,lk,uf i,sf i,rfl,P1.same sY,D,Rs.same sY,ls,Gs.same sY,by rw[dp.1];lia,fun xs hx=>(dp.2 xs hx).1,(U.ends D ls ds dp).1,fun t' Ha na' sa' Ra'=>?_⟩;rw[dp.1] at Ra';exact k1 _ _ sa' ⟨t',rfl,(fun z=>(B9.same sY).at (by rw[<- z];exact na')),Ra'⟩
  rintro ysC HC en hen sC gC prC nxC
  obtain ⟨q1,q2,rfl,E1,E2⟩:∃q1 q2,ysC=[V.ref q1,V.ref q2]/\(q1≠b/\cw K HC q1 (kX mv pt (sf 0) (uf 0) tt))/\q2≠b/\cw K HC q2 (kX mv pt (sf 1) (uf 1) tt):=by
   cases prC with
   | cons x1 t=>cases t with
    | cons x2 t' =>
     cases t';obtain ⟨q1,rfl,g1⟩:=x1;obtain ⟨q2,rfl,g2⟩:=x2;exact ⟨q1,q2,rfl,g1,g2⟩
  clear prC nxC
  obtain ⟨ef,EE⟩:∃ef:Nat->Addr,∀i:Nat,i < 2->[V.ref q1,V.ref q2][i]?=some (V.ref (ef i))/\ef i≠b/\cw K HC (ef i) (kX mv pt (sf i) (uf i) tt):=by
   refine ⟨fun i=>if i=0 then q1 else q2,fun i hi=>?_⟩;rcases (show i=0\/i=1 by lia) with rfl | rfl
   ·exact ⟨rfl,E1⟩
   ·exact ⟨rfl,E2⟩
  clear E1 E2;replace P1:=P1.same sC;replace S2:=S2.same sC;replace g6:=sC _ _ g6;have BC:=B9.same sC
  have FF:∀i:Nat,i < 2->[V.ref qa,V.ref qb][i]?=some (V.ref (af i))/\af i≠b/\cw K HC (af i) (sf i)/\(sf i).length=mv.length/\(∀x∈sf i,Dr (max w 6) x)/\LV pt tt w (uf i):=fun i hi=>by
   obtain ⟨e1,e2,ab,Rs,ls,ds,_,dp⟩:=FF i hi;exact ⟨e1,ab,Rs.same sC,ls,ds,dp⟩
  have pw:∀i:Nat,i < 2->∀xs∈uf i,xs.length=pt.length:=fun i hi xs hx=>((FF i hi).2.2.2.2.2.2 xs hx).1
  have le:∀i:Nat,i < 2->(kX mv pt (sf i) (uf i) tt).length=mv.length:=fun i hi=>jz (FF i hi).2.2.2.1 (by rw[(FF i hi).2.2.2.2.2.1];exact ao _)
  have sze:∀i:Nat,i < 2->∀x∈kX mv pt (sf i) (uf i) tt,rW x:=fun i hi=>by
   obtain ⟨e1,ab,Rs,ls,ds,dp⟩:=FF i hi;exact (U.ends D ls ds dp).1.szn D ls (pw i hi) (by rw[dp.1];exact ao _)
  walk_at "w";refine ⟨by decide,by decide,?_⟩;refine eG (n:=2) (fun i σ' H'=>aL HC H'/\∃x1 x2,σ'=[some (.ref a),some (.ref b),some (.ref r),some (.int w),some (.int mv.length),some (.ref x),some (.int tt),some (.ref be),some (.ref ro),some (.ref en),x1,x2,none,none,none]) ⟨aL.refl _,_,_,rfl⟩ ?_ ?_
  ·rintro i σ' H' hi ⟨e,x1,x2,rfl⟩;obtain ⟨e1,ab,Rs,ls,ds,dp⟩:=FF i hi;obtain ⟨f1,_,Re⟩:=EE i hi;obtain ⟨EN,AL,⟨d,W0,E0,W1,CT⟩,⟨d',W0',E0',W1',CT'⟩⟩:=U.ends D ls ds dp;walk_at "w";refine cB (bV.of (e _ _ g6)) (eC e1) ?_;walk_at "w";refine cB (bV.of (e _ _ gC)) (eC f1) ?_;walk_at "w";refine ⟨x,r,af i,ef i,tt,a',c,d,W0,E0,W1,H0,H0,mv,pt,lk,uf i,sf i,_,rfl,by lia,S2.same e,P1.same e,D,F,KF,Rs.same e,ls,Re.same e,le i hi,CT,dp.1,pw i hi,rfl,fun Ha sa'=>?_⟩;have ea:=e.trans sa';walk_at "w";refine cB (bV.of (ea _ _ gC)) (eC f1) ?_;walk_at "w";refine cB (bV.of (ea _ _ g6)) (eC e1) ?_;walk_at "w";refine ⟨r,af i,tt,H0,mv,pt,lk,sf i,rfl,by lia,P1.same ea,D,Rs.same ea,ls,AL,fun al Hb nb' sb' Rb'=>?_⟩;have eb:=ea.trans sb';walk_at "w";refine ⟨ef i,al,_,_,rfl,Re.same eb,Rb',by rw[gH ls,le i hi],by rw[le i hi];lia,sze i hi,(AL.fit D.mw ls (ao _)).2,fun lq Hc nc sc Rc=>?_⟩;have Rc:cw K Hc lq (fO mv tt (sf i) (kX mv pt (sf i) (uf i) tt)):=Rc;have ec:=eb.trans sc;have ll:=sF (T:=tt) ls (le i hi);obtain ⟨lz,glz,qlz⟩:=id Rc;walk_at "w";refine ⟨⟨_,bV.of glz⟩,?_⟩;refine fB (K:=K) (F:=fun H' c v=>cC K H' c v) (fun H' (c:Rat) v=>cC K H' c v) (fun _=>(0:Rat)) glz qlz (by lia) (fun a b=>a.same b) (fun a b=>a.same b) ?_ ?_
   ·rintro j c' v Hi NY NN ej si nv k1;walk_at "w";refine cu fun t' Hj sj gj=>?_
    exact k1 _ _ sj (cC.mk (q:=0) gj rfl)
   rintro ys Hd z hz sd gz prz nxz;have Rz:cw K Hd z (List.replicate mv.length 0):=⟨ys,gz,by rw[uI,ll] at prz;exact prz⟩;have ed:=ec.trans sd;walk_at "w";refine ⟨x,r,z,lq,tt,a',c,d',W0',E0',W1',H0,H0,mv,pt,lk,uf i,_,_,rfl,by lia,S2.same ed,P1.same ed,D,F,KF,Rz,aE ..,Rc.same sd,ll,CT',dp.1,pw i hi,Ir D ls dp.1 (pw i hi),fun He se=>?_⟩;walk_at "w";exact ⟨ed.trans se,_,_,rfl⟩
  rintro σ' H' ⟨e,x1,x2,rfl⟩;obtain ⟨e10,ab0,Rs0,ls0,ds0,dp0⟩:=FF 0 (by decide);obtain ⟨e11,ab1,Rs1,ls1,ds1,dp1⟩:=FF 1 (by decide);obtain ⟨f10,efb,Re0⟩:=EE 0 (by decide);obtain ⟨f11,_,Re1⟩:=EE 1 (by decide);have z1:qa=af 0:=by simpa using e10
  have z2:qb=af 1:=by simpa using e11
  have z3:q1=ef 0:=by simpa using f10
  have z4:q2=ef 1:=by simpa using f11
  rw[z1,z2] at g6;rw[z3,z4] at gC;obtain ⟨EN,AL,_,_⟩:=U.ends D ls0 ds0 dp0;have szs:∀x∈sf 0,rW x:=(AL.fit (t:=0) D.mw ls0 (bD _)).2;have szs1:∀x∈sf 1,rW x:=((U.ends D ls1 ds1 dp1).2.1.fit (t:=0) D.mw ls1 (bD _)).2;have g6':=e _ _ g6;have gC':=e _ _ gC;walk_at "w";refine ⟨af 0,af 1,sf 0,sf 1,rfl,Rs0.same e,Rs1.same e,by lia,by lia,szs,szs1,fun pl Ha na' sa' Ra'=>?_⟩;have gCa:=sa' _ _ gC';have ea:=e.trans sa';walk_at "w";refine ⟨ef 0,ef 1,_,_,rfl,Re0.same ea,Re1.same ea,by rw[le 0 (by decide),le 1 (by decide)],by rw[le 0 (by decide)];lia,sze 0 (by decide),sze 1 (by decide),fun pe Hb nb' sb' Rb'=>?_⟩;have eb:=ea.trans sb';obtain ⟨d,W0,E0,W1,CT⟩:=U.sum D ls0 ds0 dp0 ls1 ds1 dp1;have hpq:(uf 0).length=(uf 1).length:=by rw[dp0.1,dp1.1]
  have lrp:(Mq (uf 0) (uf 1)).length=tt:=by rw[OE hpq,dp0.1]
  have wrp:∀xs∈Mq (uf 0) (uf 1),xs.length=pt.length:=fun xs hx=>by
   unfold Mq at hx;obtain ⟨i,hi,rfl⟩:=bS hx;rw[fu,b9,pw 0 (by decide) _ (aJ _),pw 1 (by decide) _ (aJ _)]
   lia
  walk_at "w";refine ⟨x,r,pl,pe,tt,a',c,d,W0,E0,W1,H0,H0,mv,pt,lk,Mq (uf 0) (uf 1),_,_,rfl,by lia,S2.same eb,P1.same eb,D,F,KF,Ra'.same sb',by rw[b9];lia,Rb',by rw[b9,le 0 (by decide),le 1 (by decide)];lia,CT,lrp,wrp,J5 ls0 ls1 hpq (pw 0 (by decide)) (pw 1 (by decide)) (by rw[dp0.1];exact ao _),fun Hc sc=>?_⟩;have ec:=eb.trans sc;have g6c:=ec _ _ g6;walk_at "w";refine ⟨b,r,af 0,tt,w,H0,mv,pt,lk,sf 0,rfl,by lia,w1,w2,BC.same ec,B0.at,P1.same ec,D,Rs0.same ec,ab0,ls0,(fun pus dp=>(U.ends D ls0 ds0 dp).1),fun g go Hg ng Rg lg hg Bg ug=>?_⟩;have enb:en≠b:=fun z=>B9.at (by rw[<- z];exact hen)
  replace P1:=(P1.same ec).upto ug (BC.same ec) B0.at;replace S2:=(S2.same ec).upto ug (BC.same ec) B0.at;replace Rs0:=(Rs0.same ec).upto ug (BC.same ec) ab0;replace Re0:=(Re0.same ec).upto ug (BC.same ec) efb;have g6g:=ug.other bb g6c;have gCg:=ug.other enb (ec _ _ gC);obtain ⟨d,W0,E0,W1,CT,PR⟩:=U.goal D ls0 lg ds0 hg;walk_at "w";refine ⟨x,af 0,g,tt,a',c,d,W0,E0,W1,H0,mv,pt,lk,sf 0,go,rfl,by lia,S2,D,F,KF,Rs0,ls0,Rg,lg,CT.cf,CT.sg,CT.co,⟨fun t4 p4 pus4 q4 Hh g4 n4 s4 G4 l4 w4 st4 q40 q41 tp4=>?_,fun t4 p4 pr q4 Hh g4 n4 s4 R4 l4 w4 d4 q40 q41 tp4=>?_⟩⟩
  ·have g6h:=s4 _ _ g6g;walk_at "w";rw[decide_eq_true rfl];walk_at "w";exact ⟨r,af 0,g,p4,tt,H0,Hg,mv,pt,lk,pus4,sf 0,go,rfl,by lia,P1.same s4,D,Rs0.same s4,ls0,Rg.same s4,G4,l4,w4,CT.en pus4 q4 q40 q41 l4 tp4,st4,fun H5 s5=>k _⟩
  ·obtain ⟨PF,FT⟩:=PR pr q4 q40 q41 tp4;have g6h:=s4 _ _ g6g;have gCh:=s4 _ _ gCg;walk_at "w";rw[decide_eq_false (by decide)];walk_at "w";refine ⟨r,af 0,tt,H0,mv,pt,lk,sf 0,rfl,by lia,P1.same s4,D,Rs0.same s4,ls0,AL,fun al Hi ni si Ri=>?_⟩;have e4:=s4.trans si;walk_at "w";refine ⟨ef 0,al,_,_,rfl,Re0.same e4,Ri,by rw[gH ls0,le 0 (by decide)],by rw[le 0 (by decide)];lia,sze 0 (by decide),(AL.fit D.mw ls0 (ao _)).2,fun lq Hj nj sj Rj=>?_⟩;have Rj:cw K Hj lq (fO mv tt (sf 0) (kX mv pt (sf 0) (uf 0) tt)):=Rj;have e5:=e4.trans sj;have ll:=sF (T:=tt) ls0 (le 0 (by decide));have g6j:=e5 _ _ g6g;walk_at "w";refine ⟨r,af 0,g,p4,tt,H0,mv,pt,lk,sf 0,go,pr,rfl,by lia,P1.same e5,D,Rs0.same e5,ls0,Rg.same e5,lg,(R4.same si).same sj,l4,PF,w4,d4,fun Hk sk=>?_⟩;walk_at "w";refine ⟨p4,lq,pr,_,rfl,((R4.same si).same sj).same sk,Rj.same sk,by lia,by lia,FT _ dp0,fun d1 Hl sl N1=>?_⟩;rw[Cn D ls0 (le 0 (by decide)) dp0.1 (pw 0 (by decide)) rfl l4 w4] at N1;walk_at "w";refine cu fun t7 Hm sm gm=>?_
   walk_at "w";refine ⟨_,_,HE,0,0,by decide,N1.same sm,cC.mk (q:=0) gm rfl,?_⟩;rw[decide_eq_true rfl];exact k _
end
theorem Jp {P:List Value->Prop} (h:∀x0,P [x0]):∀us:List Value,us.length=1->P us
 | [x0],_=>h x0
theorem ln2 {P:List Value->Prop} (h:∀x0 x1,P [x0,x1]):∀us:List Value,us.length=2->P us
 | [x0,x1],_=>h x0 x1
theorem HB {P:List Value->Prop} (h:∀x0 x1 x2,P [x0,x1,x2]):∀us:List Value,us.length=3->P us
 | [x0,x1,x2],_=>h x0 x1 x2
theorem PN {P:List Value->Prop} (h:∀x0 x1 x2 x3,P [x0,x1,x2,x3]):∀us:List Value,us.length=4->P us
 | [x0,x1,x2,x3],_=>h x0 x1 x2 x3
theorem PM {P:List Value->Prop} (h:∀x0 x1 x2 x3 x4,P [x0,x1,x2,x3,x4]):∀us:List Value,us.length=5->P us
 | [x0,x1,x2,x3,x4],_=>h x0 x1 x2 x3 x4
theorem all_mk {l:W.OpenLaw} {w:World} {K:W.Frag} {h:Heap} {mg:Str->Option Value} {fa:Addr}
  {f0 f1 f2 f3 f4 f5 f6 f7 f8 f9 f10 f11 f12 f13 f14 f15 f16 f17 f18 f19 f20 f21 f22 f23 f24 f25 f26 f27 f28 f29 f30 f31 f32 f33 f34 f35 f36 f37 f38 f39 f40 f41 f42 f43 f44 f45 f46 f47 f48 f49 f50 f51 f52 f53 f54 f55 f56 f57 f58 f59 f60 f61 f62 f63 f64 f65 f66 f67 f68 f69 f70:Addr} {od0 od1 od2 od3 od4 od5 od6 od7 od8 od9 od10 od11 od12 od13 od14 od15 od16 od17 od18 od19 od20 od21 od22 od23 od24 od25 od26 od27 od28 od29 od30 od31 od32 od33 od34 od35 od36 od37 od38 od39 od40 od41 od42 od43 od44 od45 od46 od47 od48 od49 od50 od51 od52 od53 od54 od55 od56 od57 od58 od59 od60 od61 od62 od63 od64 od65 od66 od67 od68 od69 od70 an0 an1 an2 an3 an4 an5 an6 an7 an8 an9 an10 an11 an12 an13 an14 an15 an16 an17 an18 an19 an20 an21 an22 an23 an24 an25 an26 an27 an28 an29 an30 an31 an32 an33 an34 an35 an36 an37 an38 an39 an40 an41 an42 an43 an44 an45 an46 an47 an48 an49 an50 an51 an52 an53 an54 an55 an56 an57 an58 an59 an60 an61 an62 an63 an64 an65 an66 an67 an68 an69 an70:Option Addr} {sl0 sl1 sl2 sl3 sl4 sl5 sl6 sl7 sl8 sl9 sl10 sl11 sl12 sl13 sl14 sl15 sl16 sl17 sl18 sl19 sl20 sl21 sl22 sl23 sl24 sl25 sl26 sl27 sl28 sl29 sl30 sl31 sl32 sl33 sl34 sl35 sl36 sl37 sl38 sl39 sl40 sl41 sl42 sl43 sl44 sl45 sl46 sl47 sl48 sl49 sl50 sl51 sl52 sl53 sl54 sl55 sl56 sl57 sl58 sl59 sl60 sl61 sl62 sl63 sl64 sl65 sl66 sl67 sl68 sl69 sl70:Array (Option Value)} {oc0 oc1 oc2 oc3 oc4 oc5 oc6 oc7 oc8 oc9 oc10 oc11 oc12 oc13 oc14 oc15 oc16 oc17 oc18 oc19 oc20 oc21 oc22 oc23 oc24 oc25 oc26 oc27 oc28 oc29 oc30 oc31 oc32 oc33 oc34 oc35 oc36 oc37 oc38 oc39 oc40 oc41 oc42 oc43 oc44 oc45 oc46 oc47 oc48 oc49 oc50 oc51 oc52 oc53 oc54 oc55 oc56 oc57 oc58 oc59 oc60 oc61 oc62 oc63 oc64 oc65 oc66 oc67 oc68 oc69 oc70 kV0 kV1 kV2 kV3 kV4 kV5 kV6 kV7 kV8 kV9 kV10 kV11 kV12 kV13 kV14 kV15 kV16 kV17 kV18 kV19 kV20 kV21 kV22 kV23 kV24 kV25 kV26 kV27 kV28 kV29 kV30 kV31 kV32 kV33 kV34 kV35 kV36 kV37 kV38 kV39 kV40 kV41 kV42 kV43 kV44 kV45 kV46 kV47 kV48 kV49 kV50 kV51 kV52 kV53 kV54 kV55 kV56 kV57 kV58 kV59 kV60 kV61 kV62 kV63 kV64 kV65 kV66 kV67 kV68 kV69 kV70 dc0 dc1 dc2 dc3 dc4 dc5 dc6 dc7 dc8 dc9 dc10 dc11 dc12 dc13 dc14 dc15 dc16 dc17 dc18 dc19 dc20 dc21 dc22 dc23 dc24 dc25 dc26 dc27 dc28 dc29 dc30 dc31 dc32 dc33 dc34 dc35 dc36 dc37 dc38 dc39 dc40 dc41 dc42 dc43 dc44 dc45 dc46 dc47 dc48 dc49 dc50 dc51 dc52 dc53 dc54 dc55 dc56 dc57 dc58 dc59 dc60 dc61 dc62 dc63 dc64 dc65 dc66 dc67 dc68 dc69 dc70 pm0 pm1 pm2 pm3 pm4 pm5 pm6 pm7 pm8 pm9 pm10 pm11 pm12 pm13 pm14 pm15 pm16 pm17 pm18 pm19 pm20 pm21 pm22 pm23 pm24 pm25 pm26 pm27 pm28 pm29 pm30 pm31 pm32 pm33 pm34 pm35 pm36 pm37 pm38 pm39 pm40 pm41 pm42 pm43 pm44 pm45 pm46 pm47 pm48 pm49 pm50 pm51 pm52 pm53 pm54 pm55 pm56 pm57 pm58 pm59 pm60 pm61 pm62 pm63 pm64 pm65 pm66 pm67 pm68 pm69 pm70 cd0 cd1 cd2 cd3 cd4 cd5 cd6 cd7 cd8 cd9 cd10 cd11 cd12 cd13 cd14 cd15 cd16 cd17 cd18 cd19 cd20 cd21 cd22 cd23 cd24 cd25 cd26 cd27 cd28 cd29 cd30 cd31 cd32 cd33 cd34 cd35 cd36 cd37 cd38 cd39 cd40 cd41 cd42 cd43 cd44 cd45 cd46 cd47 cd48 cd49 cd50 cd51 cd52 cd53 cd54 cd55 cd56 cd57 cd58 cd59 cd60 cd61 cd62 cd63 cd64 cd65 cd66 cd67 cd68 cd69 cd70 ct0 ct1 ct2 ct3 ct4 ct5 ct6 ct7 ct8 ct9 ct10 ct11 ct12 ct13 ct14 ct15 ct16 ct17 ct18 ct19 ct20 ct21 ct22 ct23 ct24 ct25 ct26 ct27 ct28 ct29 ct30 ct31 ct32 ct33 ct34 ct35 ct36 ct37 ct38 ct39 ct40 ct41 ct42 ct43 ct44 ct45 ct46 ct47 ct48 ct49 ct50 ct51 ct52 ct53 ct54 ct55 ct56 ct57 ct58 ct59 ct60 ct61 ct62 ct63 ct64 ct65 ct66 ct67 ct68 ct69 ct70:Value}
  (X:K.In h) (G:h.Ns mainGlobals mg) (hfa:mg "law"=some (.ref fa))
  {C:Addr} (aC:W.nsIn K mainGlobals "System"=some (some (.ref C)))
  (a0:W.nsIn K mainGlobals "_law_bag"=some (some (.ref f0))) (l0:K.lookup f0=some ⟨oc0,od0,.func (W.fnOf "_law_bag" "_law_bag" (br lF) (bc lF) (ax lF) .none kV0 dc0 pm0 an0 cd0 ct0),sl0⟩) (c0:W.codeIn K cd0 "_law_bag"=true) (k0:W.keepIn K (.ref f0)=true)
  (a1:W.nsIn K mainGlobals "_law_take"=some (some (.ref f1))) (l1:K.lookup f1=some ⟨oc1,od1,.func (W.fnOf "_law_take" "_law_take" (br jS) (bc jS) (ax jS) .none kV1 dc1 pm1 an1 cd1 ct1),sl1⟩) (c1:W.codeIn K cd1 "_law_take"=true) (k1:W.keepIn K (.ref f1)=true)
  (a2:W.nsIn K mainGlobals "_law_sizes"=some (some (.ref f2))) (l2:K.lookup f2=some ⟨oc2,od2,.func (W.fnOf "_law_sizes" "_law_sizes" (br gF) (bc gF) (ax gF) .none kV2 dc2 pm2 an2 cd2 ct2),sl2⟩) (c2:W.codeIn K cd2 "_law_sizes"=true) (k2:W.keepIn K (.ref f2)=true)
  (a3:W.nsIn K mainGlobals "_law_line"=some (some (.ref f3))) (l3:K.lookup f3=some ⟨oc3,od3,.func (W.fnOf "_law_line" "_law_line" (br jZ) (bc jZ) (ax jZ) .none kV3 dc3 pm3 an3 cd3 ct3),sl3⟩) (c3:W.codeIn K cd3 "_law_line"=true) (k3:W.keepIn K (.ref f3)=true)
  (a4:W.nsIn K mainGlobals "_law_low"=some (some (.ref f4))) (l4:K.lookup f4=some ⟨oc4,od4,.func (W.fnOf "_law_low" "_law_low" (br lC) (bc lC) (ax lC) .none kV4 dc4 pm4 an4 cd4 ct4),sl4⟩) (c4:W.codeIn K cd4 "_law_low"=true) (k4:W.keepIn K (.ref f4)=true)
  (a5:W.nsIn K mainGlobals "_law_sum"=some (some (.ref f5))) (l5:K.lookup f5=some ⟨oc5,od5,.func (W.fnOf "_law_sum" "_law_sum" (br lA) (bc lA) (ax lA) .none kV5 dc5 pm5 an5 cd5 ct5),sl5⟩) (c5:W.codeIn K cd5 "_law_sum"=true) (k5:W.keepIn K (.ref f5)=true)
  (a6:W.nsIn K mainGlobals "_law_plus"=some (some (.ref f6))) (l6:K.lookup f6=some ⟨oc6,od6,.func (W.fnOf "_law_plus" "_law_plus" (br jV) (bc jV) (ax jV) .none kV6 dc6 pm6 an6 cd6 ct6),sl6⟩) (c6:W.codeIn K cd6 "_law_plus"=true) (k6:W.keepIn K (.ref f6)=true)
  (a7:W.nsIn K mainGlobals "_law_prod"=some (some (.ref f7))) (l7:K.lookup f7=some ⟨oc7,od7,.func (W.fnOf "_law_prod" "_law_prod" (br jU) (bc jU) (ax jU) .none kV7 dc7 pm7 an7 cd7 ct7),sl7⟩) (c7:W.codeIn K cd7 "_law_prod"=true) (k7:W.keepIn K (.ref f7)=true)
  (a8:W.nsIn K mainGlobals "_law_by"=some (some (.ref f8))) (l8:K.lookup f8=some ⟨oc8,od8,.func (W.fnOf "_law_by" "_law_by" (br pz) (bc pz) (ax pz) .none kV8 dc8 pm8 an8 cd8 ct8),sl8⟩) (c8:W.codeIn K cd8 "_law_by"=true) (k8:W.keepIn K (.ref f8)=true)
  (a9:W.nsIn K mainGlobals "_law_mixed"=some (some (.ref f9))) (l9:K.lookup f9=some ⟨oc9,od9,.func (W.fnOf "_law_mixed" "_law_mixed" (br iS) (bc iS) (ax iS) .none kV9 dc9 pm9 an9 cd9 ct9),sl9⟩) (c9:W.codeIn K cd9 "_law_mixed"=true) (k9:W.keepIn K (.ref f9)=true)
  (a10:W.nsIn K mainGlobals "_law_two_lines"=some (some (.ref f10))) (l10:K.lookup f10=some ⟨oc10,od10,.func (W.fnOf "_law_two_lines" "_law_two_lines" (br eT) (bc eT) (ax eT) .none kV10 dc10 pm10 an10 cd10 ct10),sl10⟩) (c10:W.codeIn K cd10 "_law_two_lines"=true) (k10:W.keepIn K (.ref f10)=true)
  (a11:W.nsIn K mainGlobals "_law_number"=some (some (.ref f11))) (l11:K.lookup f11=some ⟨oc11,od11,.func (W.fnOf "_law_number" "_law_number" (br gZ) (bc gZ) (ax gZ) .none kV11 dc11 pm11 an11 cd11 ct11),sl11⟩) (c11:W.codeIn K cd11 "_law_number"=true) (k11:W.keepIn K (.ref f11)=true)
  (a12:W.nsIn K mainGlobals "_law_row"=some (some (.ref f12))) (l12:K.lookup f12=some ⟨oc12,od12,.func (W.fnOf "_law_row" "_law_row" (br lB) (bc lB) (ax lB) .none kV12 dc12 pm12 an12 cd12 ct12),sl12⟩) (c12:W.codeIn K cd12 "_law_row"=true) (k12:W.keepIn K (.ref f12)=true)
  (a13:W.nsIn K mainGlobals "_law_move"=some (some (.ref f13))) (l13:K.lookup f13=some ⟨oc13,od13,.func (W.fnOf "_law_move" "_law_move" (br jX) (bc jX) (ax jX) .none kV13 dc13 pm13 an13 cd13 ct13),sl13⟩) (c13:W.codeIn K cd13 "_law_move"=true) (k13:W.keepIn K (.ref f13)=true)
  (a14:W.nsIn K mainGlobals "_law_parts"=some (some (.ref f14))) (l14:K.lookup f14=some ⟨oc14,od14,.func (W.fnOf "_law_parts" "_law_parts" (br iQ) (bc iQ) (ax iQ) .none kV14 dc14 pm14 an14 cd14 ct14),sl14⟩) (c14:W.codeIn K cd14 "_law_parts"=true) (k14:W.keepIn K (.ref f14)=true)
  (a15:W.nsIn K mainGlobals "_law_system"=some (some (.ref f15))) (l15:K.lookup f15=some ⟨oc15,od15,.func (W.fnOf "_law_system" "_law_system" (br gX) (bc gX) (ax gX) .none kV15 dc15 pm15 an15 cd15 ct15),sl15⟩) (c15:W.codeIn K cd15 "_law_system"=true) (k15:W.keepIn K (.ref f15)=true)
  (a16:W.nsIn K mainGlobals "want_list"=some (some (.ref f16))) (l16:K.lookup f16=some ⟨oc16,od16,.func (W.fnOf "want_list" "want_list" (br jN) (bc jN) (ax jN) .none kV16 dc16 pm16 an16 cd16 ct16),sl16⟩) (c16:W.codeIn K cd16 "want_list"=true) (k16:W.keepIn K (.ref f16)=true)
  (a17:W.nsIn K mainGlobals "is_whole"=some (some (.ref f17))) (l17:K.lookup f17=some ⟨oc17,od17,.func (W.fnOf "is_whole" "is_whole" (br lh) (bc lh) (ax lh) .none kV17 dc17 pm17 an17 cd17 ct17),sl17⟩) (c17:W.codeIn K cd17 "is_whole"=true) (k17:W.keepIn K (.ref f17)=true)
  (a18:W.nsIn K mainGlobals "common_divisor"=some (some (.ref f18))) (l18:K.lookup f18=some ⟨oc18,od18,.func (W.fnOf "common_divisor" "common_divisor" (br eQ) (bc eQ) (ax eQ) .none kV18 dc18 pm18 an18 cd18 ct18),sl18⟩) (c18:W.codeIn K cd18 "common_divisor"=true) (k18:W.keepIn K (.ref f18)=true)
  (a19:W.nsIn K mainGlobals "is_number"=some (some (.ref f19))) (l19:K.lookup f19=some ⟨oc19,od19,.func (W.fnOf "is_number" "is_number" (br jQ) (bc jQ) (ax jQ) .none kV19 dc19 pm19 an19 cd19 ct19),sl19⟩) (c19:W.codeIn K cd19 "is_number"=true) (k19:W.keepIn K (.ref f19)=true)
  (a20:W.nsIn K mainGlobals "is_row"=some (some (.ref f20))) (l20:K.lookup f20=some ⟨oc20,od20,.func (W.fnOf "is_row" "is_row" (br so) (bc so) (ax so) .none kV20 dc20 pm20 an20 cd20 ct20),sl20⟩) (c20:W.codeIn K cd20 "is_row"=true) (k20:W.keepIn K (.ref f20)=true)
  (a21:W.nsIn K mainGlobals "copied_rows"=some (some (.ref f21))) (l21:K.lookup f21=some ⟨oc21,od21,.func (W.fnOf "copied_rows" "copied_rows" (br gW) (bc gW) (ax gW) .none kV21 dc21 pm21 an21 cd21 ct21),sl21⟩) (c21:W.codeIn K cd21 "copied_rows"=true) (k21:W.keepIn K (.ref f21)=true)
  (a22:W.findIn K (.ref C) "__init__"=some (some (.ref f22))) (i22:W.isFn K (.ref f22)=true) (l22:K.lookup f22=some ⟨oc22,od22,.func (W.fnOf "__init__" "System.__init__" (br eo) (bc eo) (ax eo) .none kV22 dc22 pm22 an22 cd22 ct22),sl22⟩) (c22:W.codeIn K cd22 "System.__init__"=true) (k22:W.keepIn K (.ref f22)=true)
  (a23:W.nsIn K mainGlobals "_law_copied"=some (some (.ref f23))) (l23:K.lookup f23=some ⟨oc23,od23,.func (W.fnOf "_law_copied" "_law_copied" (br hZ) (bc hZ) (ax hZ) .none kV23 dc23 pm23 an23 cd23 ct23),sl23⟩) (c23:W.codeIn K cd23 "_law_copied"=true) (k23:W.keepIn K (.ref f23)=true)
  (a24:W.nsIn K mainGlobals "_law_made"=some (some (.ref f24))) (l24:K.lookup f24=some ⟨oc24,od24,.func (W.fnOf "_law_made" "_law_made" (br jY) (bc jY) (ax jY) .none kV24 dc24 pm24 an24 cd24 ct24),sl24⟩) (c24:W.codeIn K cd24 "_law_made"=true) (k24:W.keepIn K (.ref f24)=true)
  (a25:W.nsIn K mainGlobals "_law_steps"=some (some (.ref f25))) (l25:K.lookup f25=some ⟨oc25,od25,.func (W.fnOf "_law_steps" "_law_steps" (br iP) (bc iP) (ax iP) .none kV25 dc25 pm25 an25 cd25 ct25),sl25⟩) (c25:W.codeIn K cd25 "_law_steps"=true) (k25:W.keepIn K (.ref f25)=true)
  (a26:W.nsIn K mainGlobals "_law_puts"=some (some (.ref f26))) (l26:K.lookup f26=some ⟨oc26,od26,.func (W.fnOf "_law_puts" "_law_puts" (br jT) (bc jT) (ax jT) .none kV26 dc26 pm26 an26 cd26 ct26),sl26⟩) (c26:W.codeIn K cd26 "_law_puts"=true) (k26:W.keepIn K (.ref f26)=true)
  (a27:W.nsIn K mainGlobals "_law_dot"=some (some (.ref f27))) (l27:K.lookup f27=some ⟨oc27,od27,.func (W.fnOf "_law_dot" "_law_dot" (br lE) (bc lE) (ax lE) .none kV27 dc27 pm27 an27 cd27 ct27),sl27⟩) (c27:W.codeIn K cd27 "_law_dot"=true) (k27:W.keepIn K (.ref f27)=true)
  (a28:W.nsIn K mainGlobals "_law_on"=some (some (.ref f28))) (l28:K.lookup f28=some ⟨oc28,od28,.func (W.fnOf "_law_on" "_law_on" (br pk) (bc pk) (ax pk) .none kV28 dc28 pm28 an28 cd28 ct28),sl28⟩) (c28:W.codeIn K cd28 "_law_on"=true) (k28:W.keepIn K (.ref f28)=true)
  (a29:W.nsIn K mainGlobals "_law_next"=some (some (.ref f29))) (l29:K.lookup f29=some ⟨oc29,od29,.func (W.fnOf "_law_next" "_law_next" (br jW) (bc jW) (ax jW) .none kV29 dc29 pm29 an29 cd29 ct29),sl29⟩) (c29:W.codeIn K cd29 "_law_next"=true) (k29:W.keepIn K (.ref f29)=true)
  (a30:W.nsIn K mainGlobals "_law_end"=some (some (.ref f30))) (l30:K.lookup f30=some ⟨oc30,od30,.func (W.fnOf "_law_end" "_law_end" (br lD) (bc lD) (ax lD) .none kV30 dc30 pm30 an30 cd30 ct30),sl30⟩) (c30:W.codeIn K cd30 "_law_end"=true) (k30:W.keepIn K (.ref f30)=true)
  (a31:W.nsIn K mainGlobals "tops_over"=some (some (.ref f31))) (l31:K.lookup f31=some ⟨oc31,od31,.func (W.fnOf "tops_over" "tops_over" (br jO) (bc jO) (ax jO) .none kV31 dc31 pm31 an31 cd31 ct31),sl31⟩) (c31:W.codeIn K cd31 "tops_over"=true) (k31:W.keepIn K (.ref f31)=true)
  (a32:W.nsIn K mainGlobals "common_multiple"=some (some (.ref f32))) (l32:K.lookup f32=some ⟨oc32,od32,.func (W.fnOf "common_multiple" "common_multiple" (br eh) (bc eh) (ax eh) .none kV32 dc32 pm32 an32 cd32 ct32),sl32⟩) (c32:W.codeIn K cd32 "common_multiple"=true) (k32:W.keepIn K (.ref f32)=true)
  (a33:W.nsIn K mainGlobals "common_bottom"=some (some (.ref f33))) (l33:K.lookup f33=some ⟨oc33,od33,.func (W.fnOf "common_bottom" "common_bottom" (br fA) (bc fA) (ax fA) .none kV33 dc33 pm33 an33 cd33 ct33),sl33⟩) (c33:W.codeIn K cd33 "common_bottom"=true) (k33:W.keepIn K (.ref f33)=true)
  (a34:W.nsIn K mainGlobals "first_with"=some (some (.ref f34))) (l34:K.lookup f34=some ⟨oc34,od34,.func (W.fnOf "first_with" "first_with" (br iN) (bc iN) (ax iN) .none kV34 dc34 pm34 an34 cd34 ct34),sl34⟩) (c34:W.codeIn K cd34 "first_with"=true) (k34:W.keepIn K (.ref f34)=true)
  (a35:W.nsIn K mainGlobals "cleared"=some (some (.ref f35))) (l35:K.lookup f35=some ⟨oc35,od35,.func (W.fnOf "cleared" "cleared" (br ph) (bc ph) (ax ph) .none kV35 dc35 pm35 an35 cd35 ct35),sl35⟩) (c35:W.codeIn K cd35 "cleared"=true) (k35:W.keepIn K (.ref f35)=true)
  (a36:W.nsIn K mainGlobals "brought_up"=some (some (.ref f36))) (l36:K.lookup f36=some ⟨oc36,od36,.func (W.fnOf "brought_up" "brought_up" (br iO) (bc iO) (ax iO) .none kV36 dc36 pm36 an36 cd36 ct36),sl36⟩) (c36:W.codeIn K cd36 "brought_up"=true) (k36:W.keepIn K (.ref f36)=true)
  (a37:W.nsIn K mainGlobals "swept"=some (some (.ref f37))) (l37:K.lookup f37=some ⟨oc37,od37,.func (W.fnOf "swept" "swept" (br vL) (bc vL) (ax vL) .none kV37 dc37 pm37 an37 cd37 ct37),sl37⟩) (c37:W.codeIn K cd37 "swept"=true) (k37:W.keepIn K (.ref f37)=true)
  (a38:W.nsIn K mainGlobals "lowest"=some (some (.ref f38))) (l38:K.lookup f38=some ⟨oc38,od38,.func (W.fnOf "lowest" "lowest" (br rZ) (bc rZ) (ax rZ) .none kV38 dc38 pm38 an38 cd38 ct38),sl38⟩) (c38:W.codeIn K cd38 "lowest"=true) (k38:W.keepIn K (.ref f38)=true)
  (a39:W.nsIn K mainGlobals "reduced"=some (some (.ref f39))) (l39:K.lookup f39=some ⟨oc39,od39,.func (W.fnOf "reduced" "reduced" (br o7) (bc o7) (ax o7) .none kV39 dc39 pm39 an39 cd39 ct39),sl39⟩) (c39:W.codeIn K cd39 "reduced"=true) (k39:W.keepIn K (.ref f39)=true)
  (a40:W.nsIn K mainGlobals "row_dot"=some (some (.ref f40))) (l40:K.lookup f40=some ⟨oc40,od40,.func (W.fnOf "row_dot" "row_dot" (br o6) (bc o6) (ax o6) .none kV40 dc40 pm40 an40 cd40 ct40),sl40⟩) (c40:W.codeIn K cd40 "row_dot"=true) (k40:W.keepIn K (.ref f40)=true)
  (a41:W.nsIn K mainGlobals "grid_on"=some (some (.ref f41))) (l41:K.lookup f41=some ⟨oc41,od41,.func (W.fnOf "grid_on" "grid_on" (br o9) (bc o9) (ax o9) .none kV41 dc41 pm41 an41 cd41 ct41),sl41⟩) (c41:W.codeIn K cd41 "grid_on"=true) (k41:W.keepIn K (.ref f41)=true)
  (a42:W.nsIn K mainGlobals "moved_rows"=some (some (.ref f42))) (l42:K.lookup f42=some ⟨oc42,od42,.func (W.fnOf "moved_rows" "moved_rows" (br iM) (bc iM) (ax iM) .none kV42 dc42 pm42 an42 cd42 ct42),sl42⟩) (c42:W.codeIn K cd42 "moved_rows"=true) (k42:W.keepIn K (.ref f42)=true)
  (a43:W.nsIn K mainGlobals "reach_grown"=some (some (.ref f43))) (l43:K.lookup f43=some ⟨oc43,od43,.func (W.fnOf "reach_grown" "reach_grown" (br gQ) (bc gQ) (ax gQ) .none kV43 dc43 pm43 an43 cd43 ct43),sl43⟩) (c43:W.codeIn K cd43 "reach_grown"=true) (k43:W.keepIn K (.ref f43)=true)
  (a44:W.nsIn K mainGlobals "flat"=some (some (.ref f44))) (l44:K.lookup f44=some ⟨oc44,od44,.func (W.fnOf "flat" "flat" (br yL) (bc yL) (ax yL) .none kV44 dc44 pm44 an44 cd44 ct44),sl44⟩) (c44:W.codeIn K cd44 "flat"=true) (k44:W.keepIn K (.ref f44)=true)
  (a45:W.nsIn K mainGlobals "additions"=some (some (.ref f45))) (l45:K.lookup f45=some ⟨oc45,od45,.func (W.fnOf "additions" "additions" (br jR) (bc jR) (ax jR) .none kV45 dc45 pm45 an45 cd45 ct45),sl45⟩) (c45:W.codeIn K cd45 "additions"=true) (k45:W.keepIn K (.ref f45)=true)
  (a46:W.nsIn K mainGlobals "nought_row"=some (some (.ref f46))) (l46:K.lookup f46=some ⟨oc46,od46,.func (W.fnOf "nought_row" "nought_row" (br iL) (bc iL) (ax iL) .none kV46 dc46 pm46 an46 cd46 ct46),sl46⟩) (c46:W.codeIn K cd46 "nought_row"=true) (k46:W.keepIn K (.ref f46)=true)
  (a47:W.nsIn K mainGlobals "solved"=some (some (.ref f47))) (l47:K.lookup f47=some ⟨oc47,od47,.func (W.fnOf "solved" "solved" (br rY) (bc rY) (ax rY) .none kV47 dc47 pm47 an47 cd47 ct47),sl47⟩) (c47:W.codeIn K cd47 "solved"=true) (k47:W.keepIn K (.ref f47)=true)
  (a48:W.nsIn K mainGlobals "grid_turned"=some (some (.ref f48))) (l48:K.lookup f48=some ⟨oc48,od48,.func (W.fnOf "grid_turned" "grid_turned" (br gU) (bc gU) (ax gU) .none kV48 dc48 pm48 an48 cd48 ct48),sl48⟩) (c48:W.codeIn K cd48 "grid_turned"=true) (k48:W.keepIn K (.ref f48)=true)
  (a49:W.nsIn K mainGlobals "solve"=some (some (.ref f49))) (l49:K.lookup f49=some ⟨oc49,od49,.func (W.fnOf "solve" "solve" (br vM) (bc vM) (ax vM) .none kV49 dc49 pm49 an49 cd49 ct49),sl49⟩) (c49:W.codeIn K cd49 "solve"=true) (k49:W.keepIn K (.ref f49)=true)
  (a50:W.nsIn K mainGlobals "weights_for"=some (some (.ref f50))) (l50:K.lookup f50=some ⟨oc50,od50,.func (W.fnOf "weights_for" "weights_for" (br gP) (bc gP) (ax gP) .none kV50 dc50 pm50 an50 cd50 ct50),sl50⟩) (c50:W.codeIn K cd50 "weights_for"=true) (k50:W.keepIn K (.ref f50)=true)
  (a51:W.nsIn K mainGlobals "minus"=some (some (.ref f51))) (l51:K.lookup f51=some ⟨oc51,od51,.func (W.fnOf "minus" "minus" (br vN) (bc vN) (ax vN) .none kV51 dc51 pm51 an51 cd51 ct51),sl51⟩) (c51:W.codeIn K cd51 "minus"=true) (k51:W.keepIn K (.ref f51)=true)
  (a52:W.nsIn K mainGlobals "row_minus"=some (some (.ref f52))) (l52:K.lookup f52=some ⟨oc52,od52,.func (W.fnOf "row_minus" "row_minus" (br jP) (bc jP) (ax jP) .none kV52 dc52 pm52 an52 cd52 ct52),sl52⟩) (c52:W.codeIn K cd52 "row_minus"=true) (k52:W.keepIn K (.ref f52)=true)
  (a53:W.findIn K (.ref C) "moved"=some (some (.ref f53))) (i53:W.isFn K (.ref f53)=true) (l53:K.lookup f53=some ⟨oc53,od53,.func (W.fnOf "moved" "System.moved" (br fW) (bc fW) (ax fW) .none kV53 dc53 pm53 an53 cd53 ct53),sl53⟩) (c53:W.codeIn K cd53 "System.moved"=true) (k53:W.keepIn K (.ref f53)=true)
  (a54:W.nsIn K mainGlobals "course"=some (some (.ref f54))) (l54:K.lookup f54=some ⟨oc54,od54,.func (W.fnOf "course" "course" (br sv) (bc sv) (ax sv) .none kV54 dc54 pm54 an54 cd54 ct54),sl54⟩) (c54:W.codeIn K cd54 "course"=true) (k54:W.keepIn K (.ref f54)=true)
  (a55:W.nsIn K mainGlobals "nothing_for"=some (some (.ref f55))) (l55:K.lookup f55=some ⟨oc55,od55,.func (W.fnOf "nothing_for" "nothing_for" (br gR) (bc gR) (ax gR) .none kV55 dc55 pm55 an55 cd55 ct55),sl55⟩) (c55:W.codeIn K cd55 "nothing_for"=true) (k55:W.keepIn K (.ref f55)=true)
  (a56:W.nsIn K mainGlobals "lacking"=some (some (.ref f56))) (l56:K.lookup f56=some ⟨oc56,od56,.func (W.fnOf "lacking" "lacking" (br o8) (bc o8) (ax o8) .none kV56 dc56 pm56 an56 cd56 ct56),sl56⟩) (c56:W.codeIn K cd56 "lacking"=true) (k56:W.keepIn K (.ref f56)=true)
  (a57:W.nsIn K mainGlobals "cut"=some (some (.ref f57))) (l57:K.lookup f57=some ⟨oc57,od57,.func (W.fnOf "cut" "cut" (br Ci) (bc Ci) (ax Ci) .none kV57 dc57 pm57 an57 cd57 ct57),sl57⟩) (c57:W.codeIn K cd57 "cut"=true) (k57:W.keepIn K (.ref f57)=true)
  (a58:W.nsIn K mainGlobals "come"=some (some (.ref f58))) (l58:K.lookup f58=some ⟨oc58,od58,.func (W.fnOf "come" "come" (br yM) (bc yM) (ax yM) .none kV58 dc58 pm58 an58 cd58 ct58),sl58⟩) (c58:W.codeIn K cd58 "come"=true) (k58:W.keepIn K (.ref f58)=true)
  (a59:W.nsIn K mainGlobals "_law_is_number"=some (some (.ref f59))) (l59:K.lookup f59=some ⟨oc59,od59,.func (W.fnOf "_law_is_number" "_law_is_number" (br eU) (bc eU) (ax eU) .none kV59 dc59 pm59 an59 cd59 ct59),sl59⟩) (c59:W.codeIn K cd59 "_law_is_number"=true) (k59:W.keepIn K (.ref f59)=true)
  (a60:W.nsIn K mainGlobals "_law_is_row"=some (some (.ref f60))) (l60:K.lookup f60=some ⟨oc60,od60,.func (W.fnOf "_law_is_row" "_law_is_row" (br hJ) (bc hJ) (ax hJ) .none kV60 dc60 pm60 an60 cd60 ct60),sl60⟩) (c60:W.codeIn K cd60 "_law_is_row"=true) (k60:W.keepIn K (.ref f60)=true)
  (a61:W.nsIn K mainGlobals "_law_is_grid"=some (some (.ref f61))) (l61:K.lookup f61=some ⟨oc61,od61,.func (W.fnOf "_law_is_grid" "_law_is_grid" (br fU) (bc fU) (ax fU) .none kV61 dc61 pm61 an61 cd61 ct61),sl61⟩) (c61:W.codeIn K cd61 "_law_is_grid"=true) (k61:W.keepIn K (.ref f61)=true)
  (a62:W.nsIn K mainGlobals "_law_leads"=some (some (.ref f62))) (l62:K.lookup f62=some ⟨oc62,od62,.func (W.fnOf "_law_leads" "_law_leads" (br iU) (bc iU) (ax iU) .none kV62 dc62 pm62 an62 cd62 ct62),sl62⟩) (c62:W.codeIn K cd62 "_law_leads"=true) (k62:W.keepIn K (.ref f62)=true)
  (a63:W.nsIn K mainGlobals "_law_come_to"=some (some (.ref f63))) (l63:K.lookup f63=some ⟨oc63,od63,.func (W.fnOf "_law_come_to" "_law_come_to" (br fV) (bc fV) (ax fV) .none kV63 dc63 pm63 an63 cd63 ct63),sl63⟩) (c63:W.codeIn K cd63 "_law_come_to"=true) (k63:W.keepIn K (.ref f63)=true)
  (a64:W.nsIn K mainGlobals "_law_less"=some (some (.ref f64))) (l64:K.lookup f64=some ⟨oc64,od64,.func (W.fnOf "_law_less" "_law_less" (br j3) (bc j3) (ax j3) .none kV64 dc64 pm64 an64 cd64 ct64),sl64⟩) (c64:W.codeIn K cd64 "_law_less"=true) (k64:W.keepIn K (.ref f64)=true)
  (a65:W.nsIn K mainGlobals "_law_minus"=some (some (.ref f65))) (l65:K.lookup f65=some ⟨oc65,od65,.func (W.fnOf "_law_minus" "_law_minus" (br iT) (bc iT) (ax iT) .none kV65 dc65 pm65 an65 cd65 ct65),sl65⟩) (c65:W.codeIn K cd65 "_law_minus"=true) (k65:W.keepIn K (.ref f65)=true)
  (a66:W.nsIn K mainGlobals "_law_alone"=some (some (.ref f66))) (l66:K.lookup f66=some ⟨oc66,od66,.func (W.fnOf "_law_alone" "_law_alone" (br iV) (bc iV) (ax iV) .none kV66 dc66 pm66 an66 cd66 ct66),sl66⟩) (c66:W.codeIn K cd66 "_law_alone"=true) (k66:W.keepIn K (.ref f66)=true)
  (a67:W.nsIn K mainGlobals "_law_goal"=some (some (.ref f67))) (l67:K.lookup f67=some ⟨oc67,od67,.func (W.fnOf "_law_goal" "_law_goal" (br j4) (bc j4) (ax j4) .none kV67 dc67 pm67 an67 cd67 ct67),sl67⟩) (c67:W.codeIn K cd67 "_law_goal"=true) (k67:W.keepIn K (.ref f67)=true)
  (a68:W.nsIn K mainGlobals "_law_added"=some (some (.ref f68))) (l68:K.lookup f68=some ⟨oc68,od68,.func (W.fnOf "_law_added" "_law_added" (br iW) (bc iW) (ax iW) .none kV68 dc68 pm68 an68 cd68 ct68),sl68⟩) (c68:W.codeIn K cd68 "_law_added"=true) (k68:W.keepIn K (.ref f68)=true)
  (a69:W.nsIn K mainGlobals "_law_priced"=some (some (.ref f69))) (l69:K.lookup f69=some ⟨oc69,od69,.func (W.fnOf "_law_priced" "_law_priced" (br gY) (bc gY) (ax gY) .none kV69 dc69 pm69 an69 cd69 ct69),sl69⟩) (c69:W.codeIn K cd69 "_law_priced"=true) (k69:W.keepIn K (.ref f69)=true)
  (a70:W.nsIn K mainGlobals "law"=some (some (.ref f70))) (l70:K.lookup f70=some ⟨oc70,od70,.func (W.fnOf "law" "law" (br Cg) (bc Cg) (ax Cg) .none kV70 dc70 pm70 an70 cd70 ct70),sl70⟩) (c70:W.codeIn K cd70 "law"=true) (k70:W.keepIn K (.ref f70)=true)
  {m0:Addr} {mo0:Option Addr} {mn0:Nat} {ms0:Array (Option Value)} {mt0_0 mt0_1:Tok} (ca0:W.nsIn K mainGlobals "NOUGHT"=some (some (.ref m0))) (cl0:K.lookup m0=some ⟨.type "tuple",mo0,.seq #[.int 0 mt0_0,.int 1 mt0_1] mn0,ms0⟩)
  {m1:Addr} {mo1:Option Addr} {mn1:Nat} {ms1:Array (Option Value)} {mt1_0 mt1_1:Tok} (ca1:W.nsIn K mainGlobals "ONE"=some (some (.ref m1))) (cl1:K.lookup m1=some ⟨.type "tuple",mo1,.seq #[.int 1 mt1_0,.int 1 mt1_1] mn1,ms1⟩)
  {it0:Tok} (ci0:W.nsIn K mainGlobals "MOST_STATES"=some (some (.int 8 it0)))
  {it1:Tok} (ci1:W.nsIn K mainGlobals "MOST_PUTS"=some (some (.int 4 it1)))
  {it2:Tok} (ci2:W.nsIn K mainGlobals "MOST_LOOKS"=some (some (.int 4 it2)))
  (pg:W.plainGet K C Str.empty=true) (hd:W.hasDictIn K C=true) (po:W.plainOver K C=true) (sa:W.findIn K (.ref C) "__setattr__"=some (some (.builtin "object.__setattr__"))) (mk:W.makesIn K C=true) (kc:W.keepIn K (.ref C)=true)
  (n_move:W.findIn K (.ref C) "move"=some none)
  (n_states:W.findIn K (.ref C) "states"=some none)
  (n_put:W.findIn K (.ref C) "put"=some none)
  (n_ins:W.findIn K (.ref C) "ins"=some none)
  (n_look:W.findIn K (.ref C) "look"=some none)
  (n_outs:W.findIn K (.ref C) "outs"=some none)
  (z_abs:W.nsIn K mainGlobals "abs"=some none)
  (z_len:W.nsIn K mainGlobals "len"=some none)
  (z_min:W.nsIn K mainGlobals "min"=some none)
  (z_int:W.nsIn K mainGlobals "int"=some none)
  (z_range:W.nsIn K mainGlobals "range"=some none)
  (z_isinstance:W.nsIn K mainGlobals "isinstance"=some none)
  (z_list:W.nsIn K mainGlobals "list"=some none)
  (z_bool:W.nsIn K mainGlobals "bool"=some none)
  (z_tuple:W.nsIn K mainGlobals "tuple"=some none)
  (z_all:W.nsIn K mainGlobals "all"=some none)
  (z_enumerate:W.nsIn K mainGlobals "enumerate"=some none)
  (z_max:W.nsIn K mainGlobals "max"=some none)
  (z_zip:W.nsIn K mainGlobals "zip"=some none)
  (z_sum:W.nsIn K mainGlobals "sum"=some none)
  (z_reversed:W.nsIn K mainGlobals "reversed"=some none)
  : ∃fd:FuncData,(∀(s:Shared) (v:Value),BindsTo s fd ⟨[v],[]⟩ [("_law_script",v)])/\∀base:Heap,K.In base->base.Ns mainGlobals mg->cN l.prog w K mg base gK 10 fa fd ["_law_script"] (CZ K):=by
 have e:=hfa.symm.trans (W.mg_of X G a70);cases e;have F0:=bQ (st:=lF) l0 c0 k0;have F1:=bQ (st:=jS) l1 c1 k1;have F2:=bQ (st:=gF) l2 c2 k2;have F3:=bQ (st:=jZ) l3 c3 k3;have F4:=bQ (st:=lC) l4 c4 k4;have F5:=bQ (st:=lA) l5 c5 k5;have F6:=bQ (st:=jV) l6 c6 k6;have F7:=bQ (st:=jU) l7 c7 k7;have F8:=bQ (st:=pz) l8 c8 k8;have F9:=bQ (st:=iS) l9 c9 k9;have F10:=bQ (st:=eT) l10 c10 k10;have F11:=bQ (st:=gZ) l11 c11 k11;have F12:=bQ (st:=lB) l12 c12 k12;have F13:=bQ (st:=jX) l13 c13 k13;have F14:=bQ (st:=iQ) l14 c14 k14;have F15:=bQ (st:=gX) l15 c15 k15;have F16:=bQ (st:=jN) l16 c16 k16;have F17:=bQ (st:=lh) l17 c17 k17;have F18:=bQ (st:=eQ) l18 c18 k18;have F19:=bQ (st:=jQ) l19 c19 k19;have F20:=bQ (st:=so) l20 c20 k20;have F21:=bQ (st:=gW) l21 c21 k21;have F22:=bQ (st:=eo) l22 c22 k22;have F23:=bQ (st:=hZ) l23 c23 k23;have F24:=bQ (st:=jY) l24 c24 k24;have F25:=bQ (st:=iP) l25 c25 k25;have F26:=bQ (st:=jT) l26 c26 k26;have F27:=bQ (st:=lE) l27 c27 k27;have F28:=bQ (st:=pk) l28 c28 k28;have F29:=bQ (st:=jW) l29 c29 k29;have F30:=bQ (st:=lD) l30 c30 k30;have F31:=bQ (st:=jO) l31 c31 k31;have F32:=bQ (st:=eh) l32 c32 k32;have F33:=bQ (st:=fA) l33 c33 k33;have F34:=bQ (st:=iN) l34 c34 k34;have F35:=bQ (st:=ph) l35 c35 k35;have F36:=bQ (st:=iO) l36 c36 k36;have F37:=bQ (st:=vL) l37 c37 k37;have F38:=bQ (st:=rZ) l38 c38 k38;have F39:=bQ (st:=o7) l39 c39 k39;have F40:=bQ (st:=o6) l40 c40 k40;have F41:=bQ (st:=o9) l41 c41 k41;have F42:=bQ (st:=iM) l42 c42 k42;have F43:=bQ (st:=gQ) l43 c43 k43;have F44:=bQ (st:=yL) l44 c44 k44;have F45:=bQ (st:=jR) l45 c45 k45;have F46:=bQ (st:=iL) l46 c46 k46;have F47:=bQ (st:=rY) l47 c47 k47;have F48:=bQ (st:=gU) l48 c48 k48;have F49:=bQ (st:=vM) l49 c49 k49;have F50:=bQ (st:=gP) l50 c50 k50;have F51:=bQ (st:=vN) l51 c51 k51;have F52:=bQ (st:=jP) l52 c52 k52;have F53:=bQ (st:=fW) l53 c53 k53;have F54:=bQ (st:=sv) l54 c54 k54;have F55:=bQ (st:=gR) l55 c55 k55;have F56:=bQ (st:=o8) l56 c56 k56;have F57:=bQ (st:=Ci) l57 c57 k57;have F58:=bQ (st:=yM) l58 c58 k58;have F59:=bQ (st:=eU) l59 c59 k59;have F60:=bQ (st:=hJ) l60 c60 k60;have F61:=bQ (st:=fU) l61 c61 k61;have F62:=bQ (st:=iU) l62 c62 k62;have F63:=bQ (st:=fV) l63 c63 k63;have F64:=bQ (st:=j3) l64 c64 k64;have F65:=bQ (st:=iT) l65 c65 k65;have F66:=bQ (st:=iV) l66 c66 k66;have F67:=bQ (st:=j4) l67 c67 k67;have F68:=bQ (st:=iW) l68 c68 k68;have F69:=bQ (st:=gY) l69 c69 k69;have F70:=bQ (st:=Cg) l70 c70 k70
 have T:Txt K mg { t9:=f0,tK:=_,qX:=f1,qB:=_,oO:=f2,ox:=_,rk:=f3,qI:=_,tY:=f4,tH:=_,tV:=f5,tF:=_,rf:=f6,qE:=_,qZ:=f7,qD:=_,wA:=f8,vY:=_,oQ:=f9,oz:=_,je:=f10,i8:=_,mT:=f11,mF:=_,tW:=f12,tG:=_,rh:=f13,qG:=_,oP:=f14,oy:=_,mR:=f15,mD:=_,qS:=f16,qi:=_,tU:=f17,tE:=_,jd:=f18,i5:=_,qV:=f19,qr:=_,yv:=f20,yh:=_,mQ:=f21,mC:=_,ij:=f22,ie:=_,mV:=f23,mH:=_,rj:=f24,qH:=_,oN:=f25,ow:=_,qY:=f26,qC:=_,t8:=f27,tJ:=_,wq:=f28,vX:=_,rg:=f29,qF:=_,tZ:=f30,tI:=_,qT:=f31,qo:=_,ig:=f32,ic:=_,jD:=f33,jB:=_,oK:=f34,ot:=_,wo:=f35,vW:=_,oM:=f36,ou:=_,Ai:=f37,Af:=_,yu:=f38,yg:=_,wd:=f39,vT:=_,v9:=f40,vS:=_,wg:=f41,vV:=_,oJ:=f42,oq:=_,mN:=f43,mo:=_,DU:=f44,DJ:=_,qW:=f45,qA:=_,oI:=f46,oo:=_,yt:=f47,yf:=_,mP:=f48,mB:=_,Aj:=f49,Ag:=_,mM:=f50,mj:=_,Ak:=f51,Ah:=_,qU:=f52,qq:=_,kN:=f53,kJ:=_,yw:=f54,yi:=_,mO:=f55,my:=_,we:=f56,vU:=_,Ib:=f57,HS:=_,DV:=f58,DK:=_,jf:=f59,ja:=_,mU:=f60,mG:=_,kL:=f61,kH:=_,oS:=f62,oB:=_,kM:=f63,kI:=_,rn:=f64,qJ:=_,oR:=f65,oA:=_,oT:=f66,oC:=_,rz:=f67,qK:=_,oU:=f68,oE:=_,mS:=f69,mE:=_,LL:=fa,LB:=_,a_NOUGHT:=m0,a_ONE:=m1,t_MOST_STATES:=it0,t_MOST_PUTS:=it1,t_MOST_LOOKS:=it2,a_System:=C }:={
  zy:=W.mg_of X G a0
  Bv:=F0.binds (ps:=["_law_script"]) fun _ _ _ _ _ _=>by refine Jp ?_;intros;rfl
  xC:=F0
  aU:=W.mg_of X G a1
  bw:=F1.binds (ps:=["_law_bag_here","_law_many"]) fun _ _ _ _ _ _=>by refine ln2 ?_;intros;rfl
  bg:=F1
  wW:=W.mg_of X G a2
  yn:=F2.binds (ps:=["_law_bag_here"]) fun _ _ _ _ _ _=>by refine Jp ?_;intros;rfl
  uq:=F2
  oj:=W.mg_of X G a3
  qQ:=F3.binds (ps:=["_law_bag_here","_law_n"]) fun _ _ _ _ _ _=>by refine ln2 ?_;intros;rfl
  nO:=F3
  iC:=W.mg_of X G a4
  jK:=F4.binds (ps:=["_law_top","_law_bottom"]) fun _ _ _ _ _ _=>by refine ln2 ?_;intros;rfl
  iH:=F4
  j9:=W.mg_of X G a5
  lO:=F5.binds (ps:=["_law_one","_law_other"]) fun _ _ _ _ _ _=>by refine ln2 ?_;intros;rfl
  jL:=F5
  kF:=W.mg_of X G a6
  nH:=F6.binds (ps:=["_law_one","_law_other"]) fun _ _ _ _ _ _=>by refine ln2 ?_;intros;rfl
  kf:=F6
  kE:=W.mg_of X G a7
  nG:=F7.binds (ps:=["_law_one","_law_other"]) fun _ _ _ _ _ _=>by refine ln2 ?_;intros;rfl
  ke:=F7
  xx:=W.mg_of X G a8
  y8:=F8.binds (ps:=["_law_by_here","_law_row_here"]) fun _ _ _ _ _ _=>by refine ln2 ?_;intros;rfl
  wC:=F8
  rK:=W.mg_of X G a9
  tR:=F9.binds (ps:=["_law_bag_here","_law_move_here","_law_put","_law_look"]) fun _ _ _ _ _ _=>by refine PN ?_;intros;rfl
  oW:=F9
  qe:=W.mg_of X G a10
  sI:=F10.binds (ps:=["_law_bag_here"]) fun _ _ _ _ _ _=>by refine Jp ?_;intros;rfl
  lS:=F10
  vf:=W.mg_of X G a11
  xf:=F11.binds (ps:=["_law_bag_here","_law_wide"]) fun _ _ _ _ _ _=>by refine ln2 ?_;intros;rfl
  rV:=F11
  gi:=W.mg_of X G a12
  iF:=F12.binds (ps:=["_law_bag_here","_law_many","_law_wide"]) fun _ _ _ _ _ _=>by refine HB ?_;intros;rfl
  gI:=F12
  xU:=W.mg_of X G a13
  zH:=F13.binds (ps:=["_law_bag_here","_law_n","_law_way","_law_first","_law_wide"]) fun _ _ _ _ _ _=>by refine PM ?_;intros;rfl
  vG:=F13
  wX:=W.mg_of X G a14
  yo:=F14.binds (ps:=["_law_bag_here","_law_n","_law_ins","_law_outs","_law_wide"]) fun _ _ _ _ _ _=>by refine PM ?_;intros;rfl
  ur:=F14
  vd:=W.mg_of X G a15
  xa:=F15.binds (ps:=["_law_bag_here"]) fun _ _ _ _ _ _=>by refine Jp ?_;intros;rfl
  rS:=F15
  og:=W.mg_of X G a16
  qM:=F16.binds (ps:=["thing","at","most"]) fun _ _ _ _ _ _=>by refine HB ?_;intros;rfl
  nK:=F16
  vb:=W.mg_of X G a17
  xB:=F17.binds (ps:=["thing"]) fun _ _ _ _ _ _=>by refine Jp ?_;intros;rfl
  uh:=F17
  ib:=W.mg_of X G a18
  jc:=F18.binds (ps:=["one","other"]) fun _ _ _ _ _ _=>by refine ln2 ?_;intros;rfl
  fZ:=F18
  xR:=W.mg_of X G a19
  zE:=F19.binds (ps:=["thing"]) fun _ _ _ _ _ _=>by refine Jp ?_;intros;rfl
  vD:=F19
  Cp:=W.mg_of X G a20
  E3:=F20.binds (ps:=["thing","many"]) fun _ _ _ _ _ _=>by refine ln2 ?_;intros;rfl
  BB:=F20
  kD:=W.mg_of X G a21
  mK:=F21.binds (ps:=["things","wide"]) fun _ _ _ _ _ _=>by refine ln2 ?_;intros;rfl
  jx:=F21
  qR:=F22.binds (ps:=["self","move","put","look"]) fun _ _ _ _ _ _=>by refine PN ?_;intros;rfl
  rA:=F22
  kG:=W.mg_of X G a23
  mL:=F23.binds (ps:=["_law_grid"]) fun _ _ _ _ _ _=>by refine Jp ?_;intros;rfl
  jy:=F23
  xV:=W.mg_of X G a24
  zI:=F24.binds (ps:=["_law_parts_here"]) fun _ _ _ _ _ _=>by refine Jp ?_;intros;rfl
  vH:=F24
  wV:=W.mg_of X G a25
  ym:=F25.binds (ps:=["_law_bag_here","_law_parts_here"]) fun _ _ _ _ _ _=>by refine ln2 ?_;intros;rfl
  uo:=F25
  oi:=W.mg_of X G a26
  qP:=F26.binds (ps:=["_law_bag_here","_law_parts_here","_law_steps_here","_law_wide"]) fun _ _ _ _ _ _=>by refine PN ?_;intros;rfl
  nN:=F26
  nF:=W.mg_of X G a27
  pR:=F27.binds (ps:=["_law_one","_law_other"]) fun _ _ _ _ _ _=>by refine ln2 ?_;intros;rfl
  lV:=F27
  tq:=W.mg_of X G a28
  v7:=F28.binds (ps:=["_law_grid","_law_row_here"]) fun _ _ _ _ _ _=>by refine ln2 ?_;intros;rfl
  sO:=F28
  xT:=W.mg_of X G a29
  zG:=F29.binds (ps:=["_law_parts_here","_law_state","_law_puts_here"]) fun _ _ _ _ _ _=>by refine HB ?_;intros;rfl
  vF:=F29
  qh:=W.mg_of X G a30
  tT:=F30.binds (ps:=["_law_parts_here","_law_start","_law_rows"]) fun _ _ _ _ _ _=>by refine HB ?_;intros;rfl
  pT:=F30
  oh:=W.mg_of X G a31
  qN:=F31.binds (ps:=["row","bottom"]) fun _ _ _ _ _ _=>by refine ln2 ?_;intros;rfl
  nM:=F31
  pP:=W.mg_of X G a32
  qO:=F32.binds (ps:=["wholes"]) fun _ _ _ _ _ _=>by refine Jp ?_;intros;rfl
  kS:=F32
  iZ:=W.mg_of X G a33
  jC:=F33.binds (ps:=["row"]) fun _ _ _ _ _ _=>by refine Jp ?_;intros;rfl
  gN:=F33
  wQ:=W.mg_of X G a34
  yk:=F34.binds (ps:=["lines","begin","place"]) fun _ _ _ _ _ _=>by refine HB ?_;intros;rfl
  ui:=F34
  A8:=W.mg_of X G a35
  CK:=F35.binds (ps:=["lines","at","place","before"]) fun _ _ _ _ _ _=>by refine PN ?_;intros;rfl
  zj:=F35
  wU:=W.mg_of X G a36
  yl:=F36.binds (ps:=["lines","at","to"]) fun _ _ _ _ _ _=>by refine HB ?_;intros;rfl
  uj:=F36
  A4:=W.mg_of X G a37
  DO:=F37.binds (ps:=["rows","wide"]) fun _ _ _ _ _ _=>by refine ln2 ?_;intros;rfl
  An:=F37
  sE:=W.mg_of X G a38
  vv:=F38.binds (ps:=["top","bottom"]) fun _ _ _ _ _ _=>by refine ln2 ?_;intros;rfl
  sN:=F38
  A5:=W.mg_of X G a39
  CH:=F39.binds (ps:=["rows","wide"]) fun _ _ _ _ _ _=>by refine ln2 ?_;intros;rfl
  zg:=F39
  xv:=W.mg_of X G a40
  y7:=F40.binds (ps:=["one","other"]) fun _ _ _ _ _ _=>by refine ln2 ?_;intros;rfl
  wB:=F40
  A7:=W.mg_of X G a41
  CJ:=F41.binds (ps:=["grid","row"]) fun _ _ _ _ _ _=>by refine ln2 ?_;intros;rfl
  zi:=F41
  rJ:=W.mg_of X G a42
  tQ:=F42.binds (ps:=["system","rows"]) fun _ _ _ _ _ _=>by refine ln2 ?_;intros;rfl
  oV:=F42
  va:=W.mg_of X G a43
  w5:=F43.binds (ps:=["system","steps"]) fun _ _ _ _ _ _=>by refine ln2 ?_;intros;rfl
  rR:=F43
  Ht:=W.mg_of X G a44
  LJ:=F44.binds (ps:=["lists"]) fun _ _ _ _ _ _=>by refine Jp ?_;intros;rfl
  GA:=F44
  xS:=W.mg_of X G a45
  zF:=F45.binds (ps:=["system","steps"]) fun _ _ _ _ _ _=>by refine ln2 ?_;intros;rfl
  vE:=F45
  me:=W.mg_of X G a46
  oF:=F46.binds (ps:=["many"]) fun _ _ _ _ _ _=>by refine Jp ?_;intros;rfl
  kR:=F46
  yR:=W.mg_of X G a47
  Bu:=F47.binds (ps:=["rows","wide","due"]) fun _ _ _ _ _ _=>by refine HB ?_;intros;rfl
  yy:=F47
  kC:=W.mg_of X G a48
  mJ:=F48.binds (ps:=["grid","wide"]) fun _ _ _ _ _ _=>by refine ln2 ?_;intros;rfl
  jw:=F48
  EH:=W.mg_of X G a49
  HX:=F49.binds (ps:=["rows","wide","due"]) fun _ _ _ _ _ _=>by refine HB ?_;intros;rfl
  DZ:=F49
  uZ:=W.mg_of X G a50
  wZ:=F50.binds (ps:=["rows","wide","row"]) fun _ _ _ _ _ _=>by refine HB ?_;intros;rfl
  rQ:=F50
  EI:=W.mg_of X G a51
  HZ:=F51.binds (ps:=["one","other"]) fun _ _ _ _ _ _=>by refine ln2 ?_;intros;rfl
  D3:=F51
  xQ:=W.mg_of X G a52
  zD:=F52.binds (ps:=["one","other"]) fun _ _ _ _ _ _=>by refine ln2 ?_;intros;rfl
  vC:=F52
  uA:=⟨a53,i53,k53⟩
  vz:=F53.binds (ps:=["self","state","puts"]) fun _ _ _ _ _ _=>by refine HB ?_;intros;rfl
  vK:=F53
  Cq:=W.mg_of X G a54
  E4:=F54.binds (ps:=["system","start","puts"]) fun _ _ _ _ _ _=>by refine HB ?_;intros;rfl
  BD:=F54
  pO:=W.mg_of X G a55
  rN:=F55.binds (ps:=["system","steps"]) fun _ _ _ _ _ _=>by refine ln2 ?_;intros;rfl
  mW:=F55
  A6:=W.mg_of X G a56
  CI:=F56.binds (ps:=["system","start","goal","steps"]) fun _ _ _ _ _ _=>by refine PN ?_;intros;rfl
  zh:=F56
  K2:=W.mg_of X G a57
  N9:=F57.binds (ps:=["row","many","wide"]) fun _ _ _ _ _ _=>by refine HB ?_;intros;rfl
  LN:=F57
  Dv:=W.mg_of X G a58
  Gk:=F58.binds (ps:=["system","start","goal","steps"]) fun _ _ _ _ _ _=>by refine PN ?_;intros;rfl
  D4:=F58
  qg:=W.mg_of X G a59
  sJ:=F59.binds (ps:=["_law_thing"]) fun _ _ _ _ _ _=>by refine Jp ?_;intros;rfl
  lU:=F59
  pQ:=W.mg_of X G a60
  rO:=F60.binds (ps:=["_law_thing","_law_many"]) fun _ _ _ _ _ _=>by refine ln2 ?_;intros;rfl
  mX:=F60
  uy:=W.mg_of X G a61
  vw:=F61.binds (ps:=["_law_thing","_law_many","_law_wide"]) fun _ _ _ _ _ _=>by refine HB ?_;intros;rfl
  pS:=F61
  rL:=W.mg_of X G a62
  tS:=F62.binds (ps:=["_law_parts_here","_law_start","_law_goal_here","_law_steps_here","_law_puts_here"]) fun _ _ _ _ _ _=>by refine PM ?_;intros;rfl
  oX:=F62
  jA:=W.mg_of X G a63
  kK:=F63.binds (ps:=["_law_system_here","_law_parts_here","_law_start","_law_goal_here","_law_steps_here"]) fun _ _ _ _ _ _=>by refine PM ?_;intros;rfl
  iI:=F63
  xW:=W.mg_of X G a64
  zJ:=F64.binds (ps:=["_law_one","_law_other"]) fun _ _ _ _ _ _=>by refine ln2 ?_;intros;rfl
  vI:=F64
  mh:=W.mg_of X G a65
  oG:=F65.binds (ps:=["_law_one","_law_other"]) fun _ _ _ _ _ _=>by refine ln2 ?_;intros;rfl
  kT:=F65
  mi:=W.mg_of X G a66
  oH:=F66.binds (ps:=["_law_parts_here","_law_start","_law_steps_here"]) fun _ _ _ _ _ _=>by refine HB ?_;intros;rfl
  kU:=F66
  xX:=W.mg_of X G a67
  zK:=F67.binds (ps:=["_law_bag_here","_law_parts_here","_law_start","_law_steps_here","_law_wide"]) fun _ _ _ _ _ _=>by refine PM ?_;intros;rfl
  vJ:=F67
  wY:=W.mg_of X G a68
  yp:=F68.binds (ps:=["_law_parts_here","_law_steps_here"]) fun _ _ _ _ _ _=>by refine ln2 ?_;intros;rfl
  uu:=F68
  ve:=W.mg_of X G a69
  xc:=F69.binds (ps:=["_law_parts_here","_law_start","_law_goal_here","_law_steps_here","_law_price"]) fun _ _ _ _ _ _=>by refine PM ?_;intros;rfl
  rT:=F69
  Oc:=F70
  abs:=W.mg_none_of X G z_abs
  len:=W.mg_none_of X G z_len
  min:=W.mg_none_of X G z_min
  int:=W.mg_none_of X G z_int
  range:=W.mg_none_of X G z_range
  isinstance:=W.mg_none_of X G z_isinstance
  list:=W.mg_none_of X G z_list
  bool:=W.mg_none_of X G z_bool
  tuple:=W.mg_none_of X G z_tuple
  all:=W.mg_none_of X G z_all
  enumerate:=W.mg_none_of X G z_enumerate
  max:=W.mg_none_of X G z_max
  zip:=W.mg_none_of X G z_zip
  sum:=W.mg_none_of X G z_sum
  reversed:=W.mg_none_of X G z_reversed
  mg_NOUGHT:=W.mg_of X G ca0
  sq_NOUGHT:=fun H=>.inr ⟨_,_,_,cl0,rfl,rfl,kh rfl,.cons ⟨_,rfl⟩ (.cons ⟨_,rfl⟩ (.nil))⟩
  mg_ONE:=W.mg_of X G ca1
  sq_ONE:=fun H=>.inr ⟨_,_,_,cl1,rfl,rfl,kh rfl,.cons ⟨_,rfl⟩ (.cons ⟨_,rfl⟩ (.nil))⟩
  mg_MOST_STATES:=W.mg_of X G ci0
  mg_MOST_PUTS:=W.mg_of X G ci1
  mg_MOST_LOOKS:=W.mg_of X G ci2
  mg_System:=W.mg_of X G aC
  cl_System:=⟨pg,hd,po,sa⟩
  na_move:=n_move
  na_states:=n_states
  na_put:=n_put
  na_ins:=n_ins
  na_look:=n_look
  na_outs:=n_outs
  mk_System:=⟨mk,a22,i22,kc⟩ }
 exact ⟨_,fun s v=>.of_eq rfl,fun base _ _=>O7 T⟩
theorem walk {l:W.OpenLaw} {q:Program} {loose:List Str} {XP:(Str->Option Value)->Heap->Prop} {YP:World->Heap->Prop} {d:DefRec} {K:Params->W.Frag} (hn:l.most=some 63) (hdf:d.params.defaults=[])
  (hY:∀(w:World) (h:Heap),YP w h->(K w.params).In h)
  (F:∀(w:World) (mg:Str->Option Value) (fa:Addr) (h:Heap),(K w.params).In h->h.Ns mainGlobals mg->mg d.name=some (.ref fa) →
   ∃fd:FuncData,(∀(s:Shared) (u:Value),BindsTo s fd ⟨[u],[]⟩ [("_law_script",u)])/\∀base:Heap,(K w.params).In base->base.Ns mainGlobals mg->cN l.prog w (K w.params) mg base gK 10 fa fd ["_law_script"] (CZ (K w.params))) :
  W.WalkO q loose XP YP l.row.toRowW d [] (fun f vs=>PySem.call f vs) :=
 L2.L4 (n:=63) (k:=10) (x:="_law_script") (CX:=fun _=>gK) (sp:=fun w=>CZ (K w.params)) hn (by decide) hdf ⟨rfl,by decide,by decide⟩ hY F (fun _ _ a ns hl _ hS=>⟨a,ns,rfl,hS,hl,fun _=>rfl⟩) fun _ _ _ _ _ z=>z
end Lw
namespace PySem.W.Fast
def tw6747079691627432693:=()
def tw3842268776871393020:=()
def tw15698862479815074610:=()
def tw4061888024568904976:=()
def tw18370513225614690908:=()
def tw14637314174964772942:=()
def tw8051851655092746014:=()
def tw14421146815234804489:=()
def tw9197249590848606560:=()
def tw9321738709208596151:=()
def tw5181710738498678106:=()
def tw14490470880837844445:=()
def tw202403756657159555:=()
def tw18304175922579612221:=()
def tw16070443130582321606:=()
def tw4136872847124421531:=()
def tw10819575158753101693:=()
def tw11126369901604768987:=()
def tw9333211666752275350:=()
def tw12897952818896387252:=()
def tw15157635694534414836:=()
def tw10933606810619272167:=()
def tw38976109214920857:=()
def tw9820491687115965798:=()
def tw8125001727547769679:=()
def tw4273329337243267250:=()
def tw17567985955007425884:=()
def tw8110421420799067950:=()
def tw6572943771959229817:=()
def tw12309875477425508034:=()
def tw17368838006968097532:=()
def tw7089404846927397281:=()
def tw7098626957275915752:=()
def tw17242878950013890573:=()
def tw1871798316129284810:=()
def tw17392190078889049507:=()
def tw17146710366685326203:=()
def tw13944287692527443217:=()
def tw6837493167433860980:=()
def tw7806200074134225734:=()
def tw15529325628920753897:=()
def tw5284105952848106219:=()
def tw14683644222800044706:=()
def tw2454721686779849990:=()
def tw16209380939883343064:=()
def tw13074237940702460718:=()
def tw17639371317903062262:=()
def tw4004883170221928160:=()
def tw17726873613266300975:=()
def tw12951895360074195946:=()
def tw13522205828458322164:=()
def tw17260243925103992073:=()
def tw2415508019505190443:=()
def tw3052798584179984581:=()
def tw9736701881712564160:=()
def tw7001457211193277790:=()
def tw2367028826776858545:=()
def tw11406887441145044945:=()
def tw4753771630265381459:=()
def tw13865367539428608295:=()
def tw10762226958262580861:=()
def tw6932118365094641721:=()
def tw7587299806763949963:=()
def tw1381976251973723369:=()
def tw14161539972122309011:=()
def tw17667442565510889853:=()
def tw12282883269541141795:=()
def tw5428390067425109299:=()
def tw11290675151567693257:=()
def tw15790606226420054919:=()
def tw7776846684170214181:=()
def tw9707376483535767613:=()
def tw9261157624776383577:=()
def tw11795257068019928380:=()
def tw14219977080514063093:=()
def tw11478884470840986220:=()
def tw5594690519317681000:=()
def tw8544287138074948502:=()
def tw5159949578764686176:=()
def tw16014510739631641844:=()
def tw1658695978596643112:=()
def tw11676012855482989500:=()
def tw13275036890559234919:=()
def tw5848854130987243844:=()
def tw5112599964249792968:=()
def tw7423859076904603971:=()
def tw2878342836938144735:=()
def tw2560371978844873091:=()
def tw10866999121893080765:=()
def tw4131627402057899577:=()
def tw9324812587329777637:=()
def tw14117676728467157072:=()
def tw15804919080189579817:=()
def tw9838257036585517660:=()
def tw12885360116971315692:=()
def tw9549287011875726079:=()
def tw2319802534757972385:=()
def tw5187523811751070580:=()
def tw18167761334489591928:=()
def tw2472157583641140484:=()
def tw16604122214096426652:=()
def tw17818117059895391829:=()
def tw3013327130015686375:=()
def tw6648935107576803040:=()
def tw1068251124406059636:=()
def tw8084923598225044436:=()
def tw12323875949060932257:=()
def tw14134555674160788629:=()
def tw9718974929804942411:=()
def tw11552217785467020459:=()
def tw5376342681946508981:=()
def tw10777864823815791137:=()
def tw15867436977390212969:=()
def tw3979980932046344698:=()
def tw11696033499938176238:=()
def tw1310283495790963503:=()
def tw373493086989951072:=()
def tw14225249846830664214:=()
def tw15748118402316023315:=()
def tw8750774734655502003:=()
def tw6550722655400848670:=()
def tw2949673667608497945:=()
def tw11743176275712270720:=()
def tw13941461014533452036:=()
def tw13017340638627974405:=()
def tw7375484490372762834:=()
def tw13924696199640811948:=()
def tw6257003109132529211:=()
def tw2424261221214674397:=()
def tw11529741683257732327:=()
def tw9140718936895220427:=()
def tw11537975166380166312:=()
def tw9095780908190087278:=()
def tw15434920429967894825:=()
def tw16251281346009148632:=()
def tw13683621930324384293:=()
def tw12862695675137688759:=()
def tw16199668315259804366:=()
def tw6163960707292382740:=()
def tw15987012240648146058:=()
def tw15840069736472972982:=()
def tw9584333239480929440:=()
def tw13290333586645259350:=()
def tw11875179691341265912:=()
def tw10996015393901381913:=()
def tw5858605507560493890:=()
def tw15703305435212110467:=()
def tw14633012709504310156:=()
def tw17767545714928792642:=()
def tw9138769779754793056:=()
def tw2065374666013283885:=()
def tw3903422039330084230:=()
def tw8435332954621935444:=()
def tw17483955117434857553:=()
def tw12683094262447655127:=()
def tw7406499764333837526:=()
def tw5912932771322003821:=()
def tw12228206933450417344:=()
def tw16618658372954299264:=()
def tw2176478252877050033:=()
def tw10686562628437204780:=()
def tw16145701858447858453:=()
def tw14843406269202978291:=()
def tw13794374399129925468:=()
def tw13273628982507060755:=()
def tw6227595530199367134:=()
def tw5050736535680985893:=()
def tw18092352858658712932:=()
def tw14344656061865350136:=()
def tw1762470418762310528:=()
def tw9450855140201807465:=()
def tw4334915896552908884:=()
def tw12612491925934502149:=()
def tw9942078097390379671:=()
def tw4959147148509660087:=()
def tw4130127959762148282:=()
def tw14006010030625665411:=()
def tw13354990420139118527:=()
def tw12168586611385446952:=()
def tw14883004140450672119:=()
def tw3124911963168923584:=()
def tw16432850569885846192:=()
def tw10704258738733977006:=()
def tw8888735014989798939:=()
def tw2892189266301534769:=()
def tw5811728523289617924:=()
def tw11392042376798653711:=()
def tw14185743801102379650:=()
def tw14496037586213064161:=()
def tw13055205468783670138:=()
def tw8578898182508839506:=()
def tw10965061544773318426:=()
def tw10857449737568179000:=()
def tw17979121501944640851:=()
def tw6059634123437099678:=()
def tw3922201646648741762:=()
def tw8003910146481733455:=()
def tw5336033857501113627:=()
def tw14304692277976205943:=()
def tw3101218826686996788:=()
def tw2925574876454877620:=()
def tw6510021015542870520:=()
def tw6239371453201386675:=()
def tw831259675236368417:=()
def tw1486301451034984236:=()
def tw3416599999599664818:=()
def tw16662493962768069380:=()
def tw9100183205318416960:=()
def tw17686607187851780628:=()
def tw14752098566804658978:=()
def tw17664709535157033728:=()
def tw5687333596794635840:=()
def tw7133576472796566409:=()
def tw16775030963247761319:=()
def tw2848338666470783465:=()
def tw1963686856908060353:=()
def tw14361648492750085525:=()
def tw15295083063843116099:=()
def tw4646163509140445110:=()
def tw4763627337568829035:=()
def tw14360464665554893072:=()
def tw1723158664694858617:=()
def tw14304188420589013105:=()
def tw13620946462080727812:=()
def tw10800050672606431929:=()
def tw6459577141529864766:=()
def tw9864228680299749955:=()
def tw17968252496063293985:=()
def tw16872993325734233557:=()
def tw5786548641194915910:=()
def tw13598749387690251399:=()
def tw4900348148179072608:=()
def tw13469002801003609507:=()
def tw13549283376463775681:=()
def tw2203472788502282022:=()
def tw8772366073361102626:=()
def tw10145623993656379264:=()
def tw6898768220580384591:=()
def tw14424684747660741117:=()
def tw15739628665519216714:=()
def tw6556235388130303253:=()
def tw866353761661311504:=()
def tw4559794060887729102:=()
def tw16542235248245417231:=()
def tw7677644233840607675:=()
def tw6522800878207596679:=()
def tw1370602256492438988:=()
def tw11363691331548286883:=()
def tw13231110451541728628:=()
def tw15594905689535180042:=()
def tw12820784363619564629:=()
def tw4675600758781254175:=()
def tw3290144234899164798:=()
def tw9363953084428777215:=()
def tw14628754884433102950:=()
def tw272027880333919755:=()
def tw11950636490092263889:=()
def tw3122774227773496166:=()
def tw10657975656111158796:=()
def tw11327312595970298085:=()
def tw9848575104730080975:=()
def tw14203057995335943214:=()
def tw13960494892965040024:=()
def tw16806616886829201543:=()
def tw16842337702286354382:=()
def tw7408187003731053738:=()
def tw2252120027385490416:=()
def tw1911630561966584181:=()
def tw9638356371859854168:=()
def tw5111809068601226803:=()
def tw11304188307196153442:=()
def tw2768156277753194967:=()
def tw12966841847319447866:=()
def tw11871878456263527582:=()
def tw12880819538573299874:=()
def tw5681283697074072041:=()
def tw13102418875926158984:=()
def tw4387346668767232198:=()
def tw5423451813273595932:=()
def tw15165952981522153715:=()
def tw4499644021298568905:=()
def tw17823132701352657327:=()
def tw11148052903605859191:=()
def tw7361898352421529404:=()
def tw3734914251511551445:=()
def tw14649548829099207744:=()
def tw5478766488512905311:=()
def tw493730649633281627:=()
def tw13179255694048588919:=()
def tw8858737375799395610:=()
def tw10628926191061176318:=()
def tw15020432728253518299:=()
def tw15595367474470944113:=()
def tw1913162572097529938:=()
def tw15144464031596951903:=()
def tw14381242527092219234:=()
def tw14742774062413161774:=()
def tw7269278602318040795:=()
def tw9928640936805076590:=()
def tw4042164610020310747:=()
def tw9157828956103346693:=()
def tw14359210131056731202:=()
def tw4313645600953437422:=()
def tw9046036667503510227:=()
def tw2753322132432115309:=()
def tw14955789136652234554:=()
def tw9035195205584901402:=()
def tw17586003117240739508:=()
def tw9679627133896839825:=()
def tw12462402710675402419:=()
def tw4764508255972563298:=()
def tw13857279759616565512:=()
def tw4310400638355193075:=()
def tw1167516409405738078:=()
def tw6473241665512365311:=()
def tw2450862229096127075:=()
def tw437821195057177949:=()
def tw1333284220238235496:=()
def tw17295864762792979616:=()
def tw5256285339776671904:=()
def tw14406963950473923905:=()
def tw9926324002840660810:=()
def tw2822964142611470451:=()
def tw4045593504513893371:=()
def tw870287745923753838:=()
def tw4596022002908352305:=()
def tw6571636265949053137:=()
def tw13462259061980629245:=()
def tw16691897449463345046:=()
def tw6256528850962958045:=()
def tw15424730030993256688:=()
def tw11106655176767714742:=()
def tw9000609230442225608:=()
def tw2529037811893802072:=()
def tw17540906533842160739:=()
def tw17703934312864862875:=()
def tw7551999043998725806:=()
def tw7049385697870052597:=()
def tw1036823076061619518:=()
def tw10117058869771088602:=()
def tw8200518735793810121:=()
def tw6069410273364565317:=()
def tw18183952976079424800:=()
def tw12006311037533452033:=()
def tw11642896859438339017:=()
def tw15518337296624855064:=()
def tw7227444665629564398:=()
def tw7005251506109324104:=()
def tw8040279219094259956:=()
def tw15239580340792050280:=()
def tw14535339236588307219:=()
def tw16197080494485051329:=()
def tw11364166492727429648:=()
def tw11539983961164432000:=()
def tw11460903079791753721:=()
def tw9753250148611141493:=()
def tw4832959135962996727:=()
def tw4316528197560453939:=()
def tw6000911900630469681:=()
def tw2617819952208294955:=()
def tw17312225468341896461:=()
def tw14096271839269702821:=()
def tw12056564912126755657:=()
def tw10926370277499839964:=()
def tw6572511130867606136:=()
def tw6589438540902081373:=()
def tw2540656509158162277:=()
def tw18095146582711540445:=()
def tw4047449715582290284:=()
def tw10895944140093088099:=()
def tw11627049665230457324:=()
def tw4020742271382202933:=()
def tw4478353549939311212:=()
def tw16690107285356867100:=()
def tw383117654279655968:=()
def tw17091742644977298374:=()
def tw13299881966242224815:=()
def tw148552415310208099:=()
def tw9995497330282517970:=()
def tw9644123787284303287:=()
def tw8915853054555198370:=()
def tw15937426169579429158:=()
def tw1325248018321387339:=()
def tw17381862546604863210:=()
def tw7700912083634374690:=()
def tw2283280817007080683:=()
def tw1546194556614144041:=()
def tw8188625875995863848:=()
def tw4650887856681198635:=()
def tw15589445918999120990:=()
def tw5546374161315371374:=()
def tw609269022021770434:=()
def tw10264249884115948877:=()
def tw11507370961902110839:=()
def tw10394051095408799862:=()
def tw9440161480009127240:=()
def tw3624919733772843476:=()
def tw14845397671612463221:=()
def tw4852782411962756139:=()
def tw3169087031255943933:=()
def tw17590258782647302416:=()
def tw923999329092321192:=()
def tw13364286291733071607:=()
def tw7690459102211426197:=()
def tw90489093092151681:=()
def tw15370700187472084901:=()
def tw5783292932914437002:=()
def tw14786025790245257005:=()
def tw4920147842289374405:=()
def tw4894160628344836222:=()
def tw15339312746781098093:=()
def tw8763380081548697959:=()
def tw11874534194274826339:=()
def tw6245721962582001817:=()
def tw9361162382378019275:=()
def tw12413842710358819196:=()
def tw8996486802639038510:=()
def tw12457324472621323565:=()
def tw9439863493615499574:=()
def tw1587815853403895677:=()
def tw8447241817662181104:=()
def tw1069561701346682080:=()
def tw292635097130989016:=()
def tw842400960710347864:=()
def tw1495256441649087471:=()
def tw5713981316142913301:=()
def tw10618043111456084962:=()
def tw5795045788005485493:=()
def tw16360845650434920169:=()
def tw6317772842734560973:=()
def tw8533603514916070052:=()
def tw9644409603552953199:=()
def tw3405689781775132449:=()
def tw16286336051900273939:=()
def tw16165008525045767435:=()
def tw10099238012628168601:=()
def tw14939353465409961744:=()
def tw16883775653597616314:=()
def tw9385675539820786393:=()
def tw15714425869470548313:=()
def tw15371232696019047541:=()
def tw15978207553832025460:=()
def tw9914826517515113522:=()
def tw6204985226733063864:=()
def tw14874093230120031338:=()
def tw4915362675570531233:=()
def tw12490112512701159078:=()
def tw6835722883427284378:=()
def tw13948282708824786977:=()
def tw4860134529034498043:=()
def tw10527817550553830415:=()
def tw6209543706523811767:=()
def tw14340099247538120278:=()
def tw17276068379274253641:=()
def tw2769142879616483918:=()
def tw17806431615533043141:=()
def tw8184694913933371306:=()
def tw13869800524157549457:=()
def tw11096458175771247343:=()
def tw4895480823081366527:=()
theorem te6747079691627432693:True:=trivial
end PySem.W.Fast
open PySem PySem.W PyProof.Rows
set_option maxRecDepth 100000 in
set_option maxHeartbeats 0 in
theorem PySem.Challenge.cw_helmsum_k44_whole_where_puts_lead_holds : PySem.Challenge.rw_helmsum_k44_whole_where_puts_lead.Holds := by
 w_on;o_law;k_head;(case hw=>w_witness2)
 k_fill
 refine Lw.walk (l:=PySem.Challenge.rw_helmsum_k44_whole_where_puts_lead) rfl rfl (fun w h Y=>PySem.W.kIn_of Y) ?F
 case F =>
  intro w mg fa h KX G hmg;refine' Lw.all_mk KX G hmg ?aC ?a0 ?l0 ?c0 ?k0 ?a1 ?l1 ?c1 ?k1 ?a2 ?l2 ?c2 ?k2 ?a3 ?l3 ?c3 ?k3 ?a4 ?l4 ?c4 ?k4 ?a5 ?l5 ?c5 ?k5 ?a6 ?l6 ?c6 ?k6 ?a7 ?l7 ?c7 ?k7 ?a8 ?l8 ?c8 ?k8 ?a9 ?l9 ?c9 ?k9 ?a10 ?l10 ?c10 ?k10 ?a11 ?l11 ?c11 ?k11 ?a12 ?l12 ?c12 ?k12 ?a13 ?l13 ?c13 ?k13 ?a14 ?l14 ?c14 ?k14 ?a15 ?l15 ?c15 ?k15 ?a16 ?l16 ?c16 ?k16 ?a17 ?l17 ?c17 ?k17 ?a18 ?l18 ?c18 ?k18 ?a19 ?l19 ?c19 ?k19 ?a20 ?l20 ?c20 ?k20 ?a21 ?l21 ?c21 ?k21 ?a22 ?i22 ?l22 ?c22 ?k22 ?a23 ?l23 ?c23 ?k23 ?a24 ?l24 ?c24 ?k24 ?a25 ?l25 ?c25 ?k25 ?a26 ?l26 ?c26 ?k26 ?a27 ?l27 ?c27 ?k27 ?a28 ?l28 ?c28 ?k28 ?a29 ?l29 ?c29 ?k29 ?a30 ?l30 ?c30 ?k30 ?a31 ?l31 ?c31 ?k31 ?a32 ?l32 ?c32 ?k32 ?a33 ?l33 ?c33 ?k33 ?a34 ?l34 ?c34 ?k34 ?a35 ?l35 ?c35 ?k35 ?a36 ?l36 ?c36 ?k36 ?a37 ?l37 ?c37 ?k37 ?a38 ?l38 ?c38 ?k38 ?a39 ?l39 ?c39 ?k39 ?a40 ?l40 ?c40 ?k40 ?a41 ?l41 ?c41 ?k41 ?a42 ?l42 ?c42 ?k42 ?a43 ?l43 ?c43 ?k43 ?a44 ?l44 ?c44 ?k44 ?a45 ?l45 ?c45 ?k45 ?a46 ?l46 ?c46 ?k46 ?a47 ?l47 ?c47 ?k47 ?a48 ?l48 ?c48 ?k48 ?a49 ?l49 ?c49 ?k49 ?a50 ?l50 ?c50 ?k50 ?a51 ?l51 ?c51 ?k51 ?a52 ?l52 ?c52 ?k52 ?a53 ?i53 ?l53 ?c53 ?k53 ?a54 ?l54 ?c54 ?k54 ?a55 ?l55 ?c55 ?k55 ?a56 ?l56 ?c56 ?k56 ?a57 ?l57 ?c57 ?k57 ?a58 ?l58 ?c58 ?k58 ?a59 ?l59 ?c59 ?k59 ?a60 ?l60 ?c60 ?k60 ?a61 ?l61 ?c61 ?k61 ?a62 ?l62 ?c62 ?k62 ?a63 ?l63 ?c63 ?k63 ?a64 ?l64 ?c64 ?k64 ?a65 ?l65 ?c65 ?k65 ?a66 ?l66 ?c66 ?k66 ?a67 ?l67 ?c67 ?k67 ?a68 ?l68 ?c68 ?k68 ?a69 ?l69 ?c69 ?k69 ?a70 ?l70 ?c70 ?k70 ?ca0 ?cl0 ?ca1 ?cl1 ?ci0 ?ci1 ?ci2 ?pg ?hd ?po ?sa ?mk ?kc ?n_move ?n_states ?n_put ?n_ins ?n_look ?n_outs ?z_abs ?z_len ?z_min ?z_int ?z_range ?z_isinstance ?z_list ?z_bool ?z_tuple ?z_all ?z_enumerate ?z_max ?z_zip ?z_sum ?z_reversed
  all_goals try k_is