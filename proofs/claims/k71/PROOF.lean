import PyProof.Rows.All
import Wide.All
import OpenK.AllK
import Wide.FinOn
import Lean
import PyProof.EqAt
import PyProof.EqKinds
import PyProof.TupleCall
import PyProof.NeKinds
import PySem.Challenge.RW_helmsum_k71_in_basis
set_option Elab.async false
set_option linter.all false
set_option maxRecDepth 100000
abbrev ND9:=@List.Nodup PySem.Str
abbrev aa:=@List.getD_eq_getElem?_getD
abbrev af:=@List.getElem?_eq_getElem
abbrev ag:=@List.length_map
abbrev ao:=@List.mem_of_getElem?
abbrev ar:=@Nat.le_trans
abbrev av:=@Nat.le_refl
abbrev aw:=@Nat.pow_le_pow_right
abbrev ax:=@List.mem_append
abbrev az:=@List.length_append
abbrev aA:=@List.mem_map
abbrev aB:=@List.getElem?_map
abbrev aD:=@List.mem_cons
abbrev aF:=@List.getElem?_eq_some_iff
abbrev aJ:=@List.take_of_length_le
abbrev aL:=@List.size_toArray
abbrev aN:=@Nat.mul_le_mul_right
abbrev aO:=@List.not_mem_nil
abbrev aQ:=@PySem.boot_len
abbrev aR:=@Nat.le_of_lt
abbrev aS:=@List.getElem_mem
abbrev aU:=@Rat.intCast_mul
abbrev ba:=@Nat.lt_of_lt_of_le
abbrev bc:=@Nat.lt_of_le_of_lt
abbrev bf:=@Nat.mul_le_mul
abbrev bo:=@List.length_range
abbrev bp:=@List.getElem?_eq_none
abbrev br:=@Bool.false_ne_true
abbrev bu:=@Int.eq_ofNat_of_zero_le
abbrev bw:=@List.length_cons
abbrev bx:=@Rat.intCast_natCast
abbrev bE:=@List.mem_or_eq_of_mem_set
abbrev bG:=@List.length_zipWith
abbrev bH:=@Nat.zero_le
abbrev bI:=@List.mem_append_right
abbrev bM:=@List.mem_cons_of_mem
abbrev bO:=@List.getElem?_zipWith
abbrev bQ:=@Nat.mul_pos
abbrev bR:=@Option.some.inj
abbrev bS:=@Nat.pow_add
abbrev bX:=@List.append_assoc
abbrev bY:=@List.length_take
abbrev bZ:=@List.getElem_of_mem
abbrev b7:=@Int.fdiv_eq_ediv_of_nonneg
abbrev b9:=@Nat.ne_of_lt
abbrev cf:=@List.mem_of_mem_take
abbrev ck:=@List.mem_singleton
abbrev cA:=@List.length_singleton
abbrev cB:=@Nat.mul_comm
abbrev cD:=@List.map_append
abbrev cE:=@Nat.mul_assoc
abbrev cI:=@Int.natAbs_natCast
abbrev cK:=@PySem.W.kia_one
abbrev cL:=@List.nil_append
abbrev cO:=@List.getElem?_range
abbrev cP:=@Bool.beq_eq_decide_eq
abbrev cQ:=@Rat.mul_comm
abbrev cT:=@List.mem_cons_self
abbrev cU:=@List.getElem?_append_right
abbrev cY:=@Nat.succ_le_succ
abbrev c6:=@List.nodup_append
abbrev c7:=@List.getElem?_take_of_lt
abbrev c8:=@Int.mul_assoc
abbrev de:=@Rat.intCast_inj
abbrev dw:=@List.nodup_cons
abbrev dA:=@List.length_set
abbrev dG:=@List.getElem?_append_left
abbrev dH:=@List.drop_eq_getElem_cons
abbrev dM:=@List.length_replicate
abbrev dN:=@Int.natAbs_dvd_natAbs
abbrev dP:=@Nat.one_le_two_pow
abbrev dQ:=@List.cons_append
abbrev dR:=@Int.gcd_dvd_left
abbrev dS:=@Bool.and_eq_true
abbrev dZ:=@Nat.lt_irrefl
abbrev d4:=@Nat.pow_lt_pow_right
abbrev d5:=@Int.natAbs_mul
abbrev eF:=@PySem.F.plainAttrs_list
abbrev eG:=@Int.gcd_dvd_right
abbrev eH:=@Rat.intCast_neg
abbrev eL:=@Nat.mul_le_mul_left
abbrev eO:=@Int.mul_comm
abbrev eX:=@Nat.dvd_mul_left
abbrev fF:=@Nat.pow_succ
abbrev fG:=@List.mem_append_left
abbrev fK:=@PySem.F.type_list_append
abbrev fL:=@PySem.F.slot_list_append
abbrev fM:=@Nat.le_of_dvd
abbrev gC:=@Nat.lt_succ_self
abbrev gD:=@Nat.le_mul_of_pos_right
abbrev gE:=@List.ext_getElem
abbrev gO:=@Nat.lt_or_ge
abbrev gP:=@Int.emod_lt_of_pos
abbrev gQ:=@Bool.false_eq_true
abbrev iS:=@List.ext_getElem?
abbrev iW:=@List.getElem_zipWith
abbrev iX:=@Int.mul_pos
abbrev jz:=@PySem.IsL.update
abbrev jA:=@List.lookup_cons
abbrev jB:=@Int.gcd_comm
abbrev jJ:=@PySem.F.plain_extend_loop
abbrev jK:=@PySem.mem_of_lookup
abbrev jL:=@List.replicate_succ
abbrev jQ:=@Nat.dvd_trans
abbrev jR:=@List.map_cons
abbrev jY:=@List.append_nil
abbrev jZ:=@Int.emod_nonneg
abbrev kv:=@Int.natCast_dvd_natCast
abbrev kx:=@Int.dvd_mul_of_dvd_left
abbrev kU:=@Nat.lt_trichotomy
abbrev kW:=@List.nodup_nil
abbrev kX:=@List.flatten_cons
abbrev mK:=@PySem.F.slot_zip_next
abbrev oB:=@Nat.le_succ
abbrev oC:=@List.mem_filter
abbrev oE:=@Bool.eq_iff_iff
abbrev pS:=@List.filterMap_cons
abbrev qW:=@PySem.W.callWith_K
abbrev qX:=@Nat.eq_zero_or_pos
abbrev qY:=@Int.eq_of_mul_eq_mul_right
abbrev rW:=@Int.mul_neg_of_pos_of_neg
abbrev tR:=@Nat.pow_pos
abbrev tS:=@Nat.one_mul
abbrev tU:=@Option.isSome_iff_exists
abbrev vL:=@Rat.intCast_eq_zero_iff
abbrev vM:=@PySem.W.Looks.at
abbrev vN:=@Nat.le_add_right
abbrev vO:=@List.getElem_map
abbrev vP:=@List.getElem?_replicate
abbrev vQ:=@List.all_eq_true
abbrev wD:=@PySem.W.cellsFrom_some
abbrev wG:=@Nat.succ_mul
abbrev wH:=@Nat.le_mul_of_pos_left
abbrev wI:=@Int.zero_add
abbrev yx:=@Rat.natCast_mul
abbrev yy:=@Rat.intCast_sub
abbrev yz:=@List.length_zip
abbrev zY:=@List.replicate_succ'
abbrev zZ:=@List.mem_range
abbrev z5:=@List.forIn_nil
abbrev z6:=@Int.natAbs_neg
abbrev Bl:=@PySem.W.plainGet_of
abbrev Bn:=@PySem.W.hideAll_get
abbrev Bq:=@List.map_congr_left
abbrev CU:=@PySem.W.of_hideAll
abbrev CV:=@List.mem_filterMap
abbrev CW:=@List.append_of_mem
abbrev EI:=@Nat.ne_of_gt
abbrev EJ:=@Nat.lt_succ_of_lt
abbrev EK:=@Nat.dvd_refl
abbrev EL:=@List.map_map
abbrev EM:=@Int.dvd_refl
abbrev Ip:=@Nat.mul_add
abbrev Iq:=@Nat.add_mul
abbrev Ir:=@List.map_id
abbrev Iu:=@Int.dvd_gcd
abbrev Iy:=@Rat.intCast_add
abbrev Iz:=@List.range_succ
abbrev IA:=@List.of_mem_zip
abbrev IB:=@List.forIn_cons
abbrev IC:=@Int.gcd_pos_of_ne_zero_right
abbrev KA:=@PySem.F.excBase_ValueError
abbrev KC:=@List.length_eraseIdx_of_lt
abbrev L9:=@PySem.F.entry_extend_loop
abbrev Ma:=@List.getElem?_zip_eq_some
abbrev Mb:=@Int.natAbs_ediv_of_nonneg
abbrev Mg:=@List.mem_of_mem_eraseIdx
abbrev Mh:=@Int.natAbs_eq
abbrev Mi:=@Bool.eq_false_or_eq_true
abbrev Nw:=@PySem.F.args_zip_next_1
abbrev LR9:=List (List Rat)
abbrev FG9:=PySem.W.Frag
namespace L2
open PySem PySem.Spec PyProof.Rows
abbrev Key:=Sum Int Str
def Ki:Key->Value->Bool
 | .inl k,v=>Value.isInt k v
 | .inr x,v=>Value.isStrOf x v
def NM (w:World):Key->Int
 | .inl k=>hashInt k
 | .inr x=>hashStr w x
theorem eE:∀{k:Key} {v:Value},Ki k v=true->(∃i t,k=Sum.inl i/\v=Value.int i t)\/(∃x t,k=Sum.inr x/\v=Value.str x t)
 | .inl i,v,h=>by
  obtain ⟨t,e⟩:=Value.isInt_shape (k:=i) (v:=v) h;exact .inl ⟨i,t,rfl,e⟩
 | .inr x,v,h=>by
  obtain ⟨t,e⟩:=Value.isStrOf_shape (x:=x) (v:=v) h;exact .inr ⟨x,t,rfl,e⟩
theorem LD (a b:Int):decide ((Sum.inl a:Key)=Sum.inl b)=(a == b):=by
 by_cases e:a=b
 ·subst e;simp
 ·have h:¬(Sum.inl a:Key)=Sum.inl b:=λq=>e (Sum.inl.inj q)
  rw[decide_eq_false h];exact (beq_eq_false_iff_ne.mpr e).symm
theorem LA (a b:Str):decide ((Sum.inr a:Key)=Sum.inr b)=decide (a=b):=by
 by_cases e:a=b
 ·subst e;simp
 ·have h:¬(Sum.inr a:Key)=Sum.inr b:=λq=>e (Sum.inr.inj q)
  rw[decide_eq_false h,decide_eq_false e]
theorem LC (a:Int) (b:Str):decide ((Sum.inl a:Key)=Sum.inr b)=false:=decide_eq_false (λq=>nomatch q)
theorem LB (a:Str) (b:Int):decide ((Sum.inr a:Key)=Sum.inl b)=false:=decide_eq_false (λq=>nomatch q)
def Eh (prog:Program) (w:World):PySem.KeyKind prog w Key where
 is:=Ki
 hash:=NM w
 inj:=λv a b ha hb=>by
  rcases eE ha with ⟨i,t,rfl,rfl⟩ | ⟨x,t,rfl,rfl⟩
  ·rcases eE hb with ⟨j,u,rfl,e⟩ | ⟨y,u,rfl,e⟩
   ·injection e with e1 _;rw[e1]
   ·exact nomatch e
  ·rcases eE hb with ⟨j,u,rfl,e⟩ | ⟨y,u,rfl,e⟩
   ·exact nomatch e
   ·injection e with e1 _;rw[e1]
 byValue:=λk v h=>by
  rcases eE h with ⟨i,t,rfl,rfl⟩ | ⟨x,t,rfl,rfl⟩ <;> rfl
 pyHash:=λhv h=>by
  rcases eE hv with ⟨i,t,rfl,rfl⟩ | ⟨x,t,rfl,rfl⟩
  ·exact wpAny_pyHash_int h
  ·exact wpAny_pyHash_str h
 eqBool:=λhu hv h=>by
  rcases eE hu with ⟨i,t,rfl,rfl⟩ | ⟨x,t,rfl,rfl⟩
  ·rcases eE hv with ⟨j,u,rfl,rfl⟩ | ⟨y,u,rfl,rfl⟩
   ·rw[LD] at h;exact wpAny_eqBool_int h
   ·rw[LC] at h;exact SeqAt.EqAt.int_str i t y u _ _ _ _ h
  ·rcases eE hv with ⟨j,u,rfl,rfl⟩ | ⟨y,u,rfl,rfl⟩
   ·rw[LB] at h;exact SeqAt.EqAt.str_int x t j u _ _ _ _ h
   ·rw[LA] at h;exact wpAny_eqBool_str h
 «strs»:=λk x t v h=>by
  rcases eE h with ⟨i,u,rfl,e⟩ | ⟨y,u,rfl,e⟩
  ·exact nomatch e
  ·injection e with e1 _
   subst e1;cases v <;> rfl
inductive V where
  | non | bl (b : Bool) | int (i : Int) | str (x : Str) | byt (b : Array UInt8) | flt (b : UInt64) | ref (a : Addr) | ty (n : String)
  deriving DecidableEq

def RelV:V->Value->Prop
 | .non,u=>u=Value.none
 | .bl b,u=>u=Value.bool b
 | .int i,u=>∃t,u=Value.int i t
 | .str x,u=>∃t,u=Value.str x t
 | .byt b,u=>∃t,u=Value.bytes b t
 | .flt b,u=>∃t,u=Value.float b t
 | .ref a,u=>u=Value.ref a
 | .ty n,u=>u=Value.type n
abbrev cp:List V->List Value->Prop:=Paired RelV
theorem cp.length (r:cp xs us):xs.length=us.length:=Paired.length r
theorem cp.get:∀{xs:List V} {us:List Value} {i:Nat} {x:V},cp xs us->xs[i]?=some x->∃u,us[i]?=some u/\RelV x u
 | _,_,_,_,.nil,e=>by simp at e
 | _,_,0,_,.cons r _,e=>by simp at e;subst e;exact ⟨_,rfl,r⟩
 | _,_,i+1,x,.cons _ t,e=>by
  obtain ⟨u,h1,h2⟩:=cp.get (i:=i) (x:=x) t (by simpa using e);exact ⟨u,by simpa using h1,h2⟩
theorem cp.set {x:V} {u:Value} (r:RelV x u):∀{xs:List V} {us:List Value} (i:Nat),cp xs us->cp (xs.set i x) (us.set i u)
 | _,_,_,.nil=>.nil
 | _,_,0,.cons _ t=>.cons r t
 | _,_,i+1,.cons q t=>.cons q (cp.set r i t)
theorem cp.append:∀{xs ys:List V} {us ws:List Value},cp xs us->cp ys ws->cp (xs++ys) (us++ws)
 | _,_,_,_,.nil,s=>s
 | _,_,_,_,.cons r t,s=>.cons r (cp.append t s)
theorem cp.take:∀{xs:List V} {us:List Value} (n:Nat),cp xs us->cp (xs.take n) (us.take n)
 | _,_,0,_=>.nil
 | _,_,_+1,.nil=>.nil
 | _,_,n+1,.cons r t=>.cons r (cp.take n t)
theorem cp.drop:∀{xs:List V} {us:List Value} (n:Nat),cp xs us->cp (xs.drop n) (us.drop n)
 | _,_,0,r=>r
 | _,_,_+1,.nil=>.nil
 | _,_,n+1,.cons _ t=>cp.drop n t
def yO:Option V->Option Value->Prop
 | some v,some u=>RelV v u
 | none,none=>True
 | _,_=>False
def KV {κ:Type}:List (κ×V)->List (κ×Value)->Prop:=Paired λ(p:κ×V) (q:κ×Value)=>p.1=q.1/\RelV p.2 q.2
def kV:Key->V
 | .inl i=>.int i
 | .inr x=>.str x
inductive HO where
 | lst (xs:List V)
 | tup (xs:List V)
 | dK (kvs:List (Key×V)) | dT (kvs:List (List Key×V))
 | set (S:Int->Bool) (n:Nat)
 | ins (C dx:Addr) (fs:List (Str×V))
 | own (x:Addr)
 | xd (fs:List (Str×V))
 | met (f x:Addr)
 | rng (lo hi:Int)
 | frz (o:Obj) (u:HO)
 | tbl (ps:Array Value)
 | ext (φ:Heap->Prop)
abbrev Hp:=Addr->Option HO
def upd (H:Hp) (a:Addr) (o:HO):Hp:=λb=>if b=a then some o else H b
theorem aG:upd H a o a=some o:=by unfold upd;rw[if_pos rfl]
theorem a9 (h:b≠a):upd H a o b=H b:=by unfold upd;rw[if_neg h]
theorem dW {H:Hp} (h:H a=some o) (h':H b=none):a≠b:=by
 intro e;subst e;rw[h] at h';cases h'
section
variable (P:Program) (w:World)
def fy (H:Hp) (h:Heap) (a:Addr):HO->Prop
 | .lst xs=>xs.length<=sizeLine/\∃(its:List Value) (n:Nat),cp xs its/\h.get? a=some { cls:=.type "list",data:=.seq its.toArray n }
 | .tup xs=>xs.length<=sizeLine/\∃its:List Value,cp xs its/\IsTup h a its.toArray
 | .dK kvs=>kvs.length<=sizeLine/\(a == sysModules)=false/\∃vs,KV kvs vs/\h.DictOf (Eh P w) a vs
 | .dT kvs=>kvs.length<=sizeLine/\(a == sysModules)=false/\∃xs:List (List Key×Addr×Value),
   Paired (λ(p:List Key×V) (q:List Key×Addr×Value)=>p.1=q.1/\H q.2.1=some (.tup (p.1.map kV))/\RelV p.2 q.2.2) kvs xs /\
   ∃o es ep,h.get? a=some o/\o.ExactDict/\o.data=.dict es ep/\es.toList=xs.map (entryOfKey (tupleKind (Eh P w)))/\(xs.map (·.1)).Nodup
 | .set S n=>h.SetOf (intKind P w) a S n
 | .ins C dx fs=>H dx=some (.own a)/\fs.length<=1000/\dx≠a/\h.get? a=some (PySem.W.instObj C dx) /\
   ∃mA,h.Ns1 dx mA/\(∀f,yO (fs.lookup f) (mA f))/\PySem.Within mA (fs.map (·.1))
 | .own _=>∃o,h.get? a=some o
 | .xd fs=>∃mA,h.Ns1 a mA/\∀f,yO (fs.lookup f) (mA f)
 | .rng lo hi=>∃t u v,h.get? a=some { cls:=.type "range",data:=.fields #[.int lo t,.int hi u,.int 1 v] }
 | .frz o u=>h.get? a=some o/\fy H h a u
 | .tbl ps=>h.get? a=some { cls:=.none,data:=.fields ps }
 | .met f x=>h.get? a=some (PySem.W.methodObj (.ref f) (.ref x))
 | .ext φ=>φ h/\(∃o,h.get? a=some o)/\∀h1 h2:Heap,φ h1->(∀o,h1.get? a=some o->h2.get? a=some o)->φ h2
def uJ (H:Hp) (h:Heap):Prop:=∀a o,H a=some o->fy P w H h a o
end
section
variable {P:Program} {w:World} {H H':Hp} {h h':Heap} {a:Addr} {o:HO}
theorem fy.lt (x:fy P w H h a o):a < h.objs.size:=by
 cases o with
 | lst xs=>obtain ⟨_,_,_,_,e⟩:=x;exact Heap.lt_size e
 | tup xs=>obtain ⟨_,_,_,p⟩:=x;exact p.lt
 | dK kvs=>obtain ⟨_,_,_,_,o,_,_,e,_⟩:=x;exact Heap.lt_size e
 | dT kvs=>obtain ⟨_,_,_,_,o,_,_,e,_⟩:=x;exact Heap.lt_size e
 | set S n=>obtain ⟨o,_,_,_,e,_⟩:=x;exact Heap.lt_size e
 | ins C dx fs=>obtain ⟨_,_,_,e,_⟩:=x;exact Heap.lt_size e
 | own y=>obtain ⟨_,e⟩:=x;exact Heap.lt_size e
 | xd fs=>obtain ⟨_,⟨_,_,_,e,_⟩,_⟩:=x;exact Heap.lt_size e
 | rng lo hi=>obtain ⟨_,_,_,e⟩:=x;exact Heap.lt_size e
 | frz ob u=>obtain ⟨e,_⟩:=x;exact Heap.lt_size e
 | tbl ps=>exact Heap.lt_size (show h.get? a=some _ from x)
 | met f y=>exact Heap.lt_size (show h.get? a=some _ from x)
 | ext φ=>obtain ⟨_,⟨_,e⟩,_⟩:=x;exact Heap.lt_size e
theorem Paired.mapP {α β:Type} {F G:α->β->Prop}:∀{l₁:List α} {l₂:List β},Paired F l₁ l₂->(∀a b,F a b->G a b)->Paired G l₁ l₂
 | _,_,.nil,_=>.nil
 | _,_,.cons r t,f=>.cons (f _ _ r) (Paired.mapP t f)
theorem Paired.imp' {F G:α->β->Prop} (f:∀a b,F a b->G a b) {l₁:List α} {l₂:List β} (r:Paired F l₁ l₂):Paired G l₁ l₂:=Paired.mapP r f
theorem fy.stay (x:fy P w H h a o) (k:∀b u,(b=a\/H b=some (.own a))->h.get? b=some u->h'.get? b=some u)
  (ho:∀b,H b=some (.own a)->H' b=some (.own a)) (ht:∀b xs,H b=some (.tup xs)->H' b=some (.tup xs)):fy P w H' h' a o:=by
 induction o with
 | lst xs=>obtain ⟨z,its,n,r,e⟩:=x;exact ⟨z,its,n,r,k _ _ (.inl rfl) e⟩
 | tup xs=>obtain ⟨z,its,r,ob,e,c⟩:=x;exact ⟨z,its,r,ob,k _ _ (.inl rfl) e,c⟩
 | dK kvs=>obtain ⟨z,y,vs,r,ob,es,ep,e,c⟩:=x;exact ⟨z,y,vs,r,ob,es,ep,k _ _ (.inl rfl) e,c⟩
 | dT kvs =>
  obtain ⟨z,y,xs,r,ob,es,ep,e,c⟩:=x;exact ⟨z,y,xs,Paired.mapP r λp q z=>⟨z.1,ht _ _ z.2.1,z.2.2⟩,ob,es,ep,k _ _ (.inl rfl) e,c⟩
 | set S n=>obtain ⟨ob,es,ep,t,e,c⟩:=x;exact ⟨ob,es,ep,t,k _ _ (.inl rfl) e,c⟩
 | ins C dx fs =>
  obtain ⟨d,z,ne,e,mA,⟨od,es,ep,e2,c⟩,r⟩:=x;exact ⟨ho _ d,z,ne,k _ _ (.inl rfl) e,mA,⟨od,es,ep,k _ _ (.inr d) e2,c⟩,r⟩
 | own y=>obtain ⟨ob,e⟩:=x;exact ⟨ob,k _ _ (.inl rfl) e⟩
 | xd fs=>obtain ⟨mA,⟨od,es,ep,e,c⟩,r⟩:=x;exact ⟨mA,⟨od,es,ep,k _ _ (.inl rfl) e,c⟩,r⟩
 | rng lo hi=>obtain ⟨t,u,v,e⟩:=x;exact ⟨t,u,v,k _ _ (.inl rfl) e⟩
 | frz ob u ih=>obtain ⟨e,q⟩:=x;exact ⟨k _ _ (.inl rfl) e,ih q⟩
 | tbl ps =>
  have e:h.get? a=some { cls:=.none,data:=.fields ps }:=x;show h'.get? a=some { cls:=.none,data:=.fields ps }
  exact k a _ (.inl rfl) e
 | met f y =>
  have e:h.get? a=some (PySem.W.methodObj (.ref f) (.ref y)):=x;show h'.get? a=some (PySem.W.methodObj (.ref f) (.ref y))
  exact k a _ (.inl rfl) e
 | ext φ=>obtain ⟨p,⟨o,e⟩,st⟩:=x;exact ⟨st _ _ p λo q=>k _ _ (.inl rfl) q,⟨o,k _ _ (.inl rfl) e⟩,st⟩
theorem uJ.lt (x:uJ P w H h) (e:H a=some o):a < h.objs.size:=(x a o e).lt
theorem uJ.fresh (x:uJ P w H h) (e:h.objs.size<=a):H a=none:=by
 cases q:H a with
 | none=>rfl
 | some u=>exact absurd (ba (x.lt q) e) (dZ _)
theorem uJ.kept (x:uJ P w H h) (k:∀b u,h.get? b=some u->h'.get? b=some u):uJ P w H h':=λa o e =>
 (x a o e).stay (λb u _ q=>k b u q) (λ_ q=>q) λ_ _ q=>q
theorem uJ.laid (x:uJ P w H h) (k:∀b u,h.get? b=some u->h'.get? b=some u) (hp:h.objs.size<=a) (new:fy P w (upd H a o) h' a o):uJ P w (upd H a o) h':=λb u e=>by
 have hn:=x.fresh hp;by_cases hb:b=a
 ·subst hb;rw[aG] at e;cases e;exact new
 ·rw[a9 hb] at e;exact (x b u e).stay (λc v _ q=>k c v q) (λc q=>by rw[a9 (dW q hn)];exact q) λc xs q=>by rw[a9 (dW q hn)];exact q
end
def Rd (H:Hp) (a:Addr) (u:HO):Prop:=H a=some u\/∃o,H a=some (.frz o u)
theorem Rd.ok (r:Rd H a u) (x:uJ P w H h):fy P w H h a u:=by
 rcases r with r | ⟨o,r⟩
 ·exact x a u r
 ·obtain ⟨_,q⟩:=x a _ r;exact q
def NB:Option HO->Prop
 | some (.lst _)=>True
 | some (.dK _)=>True
 | some (.dT _)=>True
 | some (.set _ _)=>True
 | some (.ins _ _ _)=>True
 | some (.ext _)=>True
 | _=>False
section
variable {P:Program} {w:World} {H:Hp} {h h':Heap} {x e:Addr} {o':HO}
theorem uJ.write (ok:uJ P w H h) (mu:NB (H x)) (he:e=x\/H e=some (.own x)) (k:∀b u,b≠e->h.get? b=some u->h'.get? b=some u) (heo:∃u,h'.get? e=some u)
  (new:fy P w (upd H x o') h' x o'):uJ P w (upd H x o') h':=λb u q=>by
 have nown:∀c y,H c=some (.own y)->c≠x:=λc y r z=>by subst z;rw[r] at mu;exact mu
 have ntup:∀c xs,H c=some (.tup xs)->c≠x:=λc xs r z=>by subst z;rw[r] at mu;exact mu
 by_cases hb:b=x
 ·subst hb;rw[aG] at q;cases q;exact new
 ·rw[a9 hb] at q;by_cases hbe:b=e
  ·have q':H b=some (.own x):=by
    rcases he with z | z
    ·exact absurd (hbe.trans z) hb
    ·rw[hbe];exact z
   rw[q] at q';cases q';obtain ⟨v,hv⟩:=heo;exact ⟨v,by rw[hbe];exact hv⟩
  ·refine (ok b u q).stay (λc v hc r=>k c v ?_ r) (λc r=>by rw[a9 (nown c b r)];exact r) λc xs r=>by rw[a9 (ntup c xs r)];exact r
   rcases hc with rfl | hc
   ·exact hbe
   ·rintro rfl;rcases he with z | z
    ·exact nown c b hc z
    ·rw[hc] at z;cases z;exact hb rfl
end
structure Un (fs ex:List Addr) (H H':Hp) (h h':Heap):Prop where
 keep:∀b o,h.get? b=some o->H b=none->b∉fs->b∉ex->h'.get? b=some o
 slot:∀b o,h.get? b=some o->H b=none->b∈fs->b∉ex->∃sl,h'.get? b=some { o with slots:=sl }
 free:∀b o,h.get? b=some o->H b=none->b∉ex->H' b=none
 there:∀b o,h.get? b=some o->b∉ex->∃o',h'.get? b=some o'
 tups:∀b xs,H b=some (.tup xs)->H' b=some (.tup xs)
 frzs:∀b o u,H b=some (.frz o u)->H' b=some (.frz o u)
 tbls:∀b ps,H b=some (.tbl ps)->∃more,H' b=some (.tbl (ps++more))
section
variable {fs fs' ex ex':List Addr} {H H1 H2:Hp} {h h1 h2 h':Heap} {a x e:Addr} {o:HO}
theorem Un.any (u:Un fs ex H H1 h h1) (q:h.get? b=some ob) (n:H b=none) (hx:b∉ex):∃sl,h1.get? b=some { ob with slots:=sl }:=by
 by_cases hb:b∈fs
 ·exact u.slot b ob q n hb hx
 ·exact ⟨ob.slots,u.keep b ob q n hb hx⟩
theorem Un.kept (k:∀b u,h.get? b=some u->h'.get? b=some u):Un fs ex H H h h' :=
 ⟨λb ob q _ _ _=>k b ob q,λb ob q _ _ _=>⟨ob.slots,k b ob q⟩,λ_ _ _ n _=>n,λb ob q _=>⟨ob,k b ob q⟩,λ_ _ q=>q,λ_ _ _ q=>q,λ_ ps q=>⟨#[],by rw[q];simp⟩⟩
theorem Un.refl:Un fs ex H H h h:=Un.kept λ_ _ q=>q
theorem Un.laid (k:∀b u,h.get? b=some u->h'.get? b=some u) (hp:h.objs.size<=a) (hn:H a=none):Un fs ex H (upd H a o) h h' where
 keep:=λb u q _ _ _=>k b u q
 slot:=λb u q _ _ _=>⟨u.slots,k b u q⟩
 free:=λb u q n _=>by rw[a9 (b9 (ba (Heap.lt_size q) hp))];exact n
 there:=λb u q _=>⟨u,k b u q⟩
 tups:=λb xs q=>by rw[a9 (dW q hn)];exact q
 frzs:=λb u xs q=>by rw[a9 (dW q hn)];exact q
 tbls:=λb ps q=>⟨#[],by rw[a9 (dW q hn),q];simp⟩
theorem Un.write (mu:NB (H x)) (he:e=x\/H e=some (.own x)) (k:∀b u,b≠e->h.get? b=some u->h'.get? b=some u) (heo:∃u,h'.get? e=some u):Un fs ex H (upd H x o) h h':=by
 have hx:∀b,H b=none->b≠x:=λb n z=>by subst z;rw[n] at mu;exact mu
 have hb:∀b,H b=none->b≠e:=λb n z=>by
  subst z;rcases he with r | r
  ·exact hx b n r
  ·rw[n] at r;cases r
 have hm:∀b u,H b=some u->¬NB (some u)->b≠x:=λb u q nm z=>by subst z;rw[q] at mu;exact nm mu
 refine ⟨λb u q n _ _=>k b u (hb b n) q,λb u q n _ _=>⟨u.slots,k b u (hb b n) q⟩,λb u q n _=>by rw[a9 (hx b n)];exact n,λb u q _=>?_,
  λb xs q=>by rw[a9 (hm b _ q λz=>z)];exact q,λb u xs q=>by rw[a9 (hm b _ q λz=>z)];exact q,λb ps q=>⟨#[],by rw[a9 (hm b _ q λz=>z),q];simp⟩⟩
 by_cases hbe:b=e
 ·subst hbe;exact heo
 ·exact ⟨u,k b u hbe q⟩
end
def Nx (h:Heap) (H:Hp):List Addr:=(List.range h.objs.size).filter λa=>(H a).isSome
def AV (h:Heap) (H:Hp):Heap:=PySem.W.hideAll h (Nx h H)
theorem Fq (h:Heap) (H:Hp):(AV h H).objs.size=h.objs.size:=PySem.W.hideAll_size _ _
theorem HF (e:h.get? b=some o) (n:H b=none):(AV h H).get? b=some o :=
 Bn _ e λhm=>by
  have q:(H b).isSome=true:=(oC.mp hm).2;rw[n] at q;simp at q
theorem Jw (e:(AV h H).get? b=some o):h.get? b=some o/\H b=none:=by
 have e':h.get? b=some o:=CU (Nx h H) e;refine ⟨e',?_⟩;cases q:H b with
 | none=>rfl
 | some x =>
  have hm:b∈Nx h H:=oC.mpr ⟨zZ.mpr (Heap.lt_size e'),by simp [q]⟩;have z:(AV h H).get? b=none:=PySem.W.hideAll_none (Nx h H) hm;rw[z] at e;cases e
structure Mod (K:FG9) (mg:Str->Option Value) (base:Heap):Prop where
 kin:K.In base
 glob:base.Ns mainGlobals mg
 blt:∃mb,base.Ns builtinsNs mb/\∀x:Str,x≠"__name__"->mb x=bootBuiltins x
 nolimit:base.NoLimit
structure Cx where
 prog:Program
 w:World
 K:FG9
 mg:Str->Option Value
 base:Heap
 A:Around
 N:List Str
 s₀:Shared
 H₀:Hp
 env:Env
 outer:List Env
 stack:List Env
 ex:List Addr
 fn:Str->Bool
 calm:Bool
 pn:List (Addr×Obj)
 xe:Value->Shared->Prop
def wm (l:List Env):List Addr:=l.filterMap (·.frame)
abbrev Cx.fs (X:Cx):List Addr:=wm X.outer
def NS (sc:Scope) (x:Str):Prop:=sc.names.lookup x=some .local\/sc.names.lookup x=some .cell\/sc.names.lookup x=some .free
def Loc (sc:Scope) (x:Str):Prop:=sc.names.lookup x=some .local\/sc.names.lookup x=some .cell
def Look (env:Env) (h:Heap) (m:Str->Option Value) (x:Str) (u:Value):Prop :=
 (env.kindOf x=some .local/\m x=some u)\/((env.kindOf x=some .cell\/env.kindOf x=some .free)/\∃c,env.cells.lookup x=some c/\h.IsCell c (some u))
structure Cx.Ok (X:Cx):Prop where
 mod:Mod X.K X.mg X.base
 kind:X.env.scope.kind=.function
 glob:X.env.globals=mainGlobals
 blt:X.env.builtins=builtinsNs
 above:X.s₀.heap.objs.size<=X.env.locals
 inj:∀x y c,X.env.cells.lookup x=some c->X.env.cells.lookup y=some c->x=y
 has:∀x,(X.env.kindOf x=some .cell\/X.env.kindOf x=some .free)->∃c,X.env.cells.lookup x=some c
 cab:∀x c,X.fn x=true->X.env.cells.lookup x=some c->X.s₀.heap.objs.size<=c
 hd:X.calm=true->X.A.handled=none
 frames:X.A.frames=some X.stack
 stk:X.stack=X.outer\/(X.stack=X.env :: X.outer/\X.env.frame=some X.env.locals)
 exf:∀b∈X.ex,b≠X.env.locals/\∀x c,X.env.cells.lookup x=some c->c≠b
 bs:∀b o,X.base.get? b=some o->X.s₀.heap.get? b=some o/\X.H₀ b=none
 bsz:X.base.objs.size<=X.s₀.heap.objs.size
 noex:∀b o,X.base.get? b=some o->b∉X.ex
 exfs:∀b∈X.ex,b∉X.fs
 funs:X.s₀.heap.FunFrames X.base X.outer
 frf:∀b∈X.fs,X.H₀ b=none
structure Inv (X:Cx) (pins:List (Addr×Obj)) (σ:List (Option V)) (H:Hp) (s:Shared):Prop where
 ok:X.Ok
 os:s.os=X.s₀.os
 bare:AllBare s.gens
 base:Un X.fs X.ex X.H₀ H X.s₀.heap s.heap
 loc:∃m,s.heap.Ns X.env.locals m/\∀(i:Nat) (x:Str) (v:V),X.N[i]?=some x->σ[i]?=some (some v)->NS X.env.scope x->∃u,RelV v u/\Look X.env s.heap m x u
 cell:∀x c,X.env.cells.lookup x=some c->∃v,s.heap.IsCell c v
 free:H X.env.locals=none
 freeC:∀x c,X.env.cells.lookup x=some c->H c=none
 pin:∀p∈X.pn++pins,s.heap.get? p.1=some p.2/\H p.1=none/\p.1≠X.env.locals/\p.1∉X.fs/\∀v,p.2.data≠.cell v
 hok:uJ X.prog X.w H s.heap
 len:σ.length=X.N.length
section
variable {X:Cx} {pins:List (Addr×Obj)} {σ:List (Option V)} {H H':Hp} {s:Shared} {h':Heap}
theorem Cx.Ok.nofr (ok:X.Ok) (e:X.base.get? b=some o):b∉X.fs:=λhb=>by
 have:=(ok.funs.mem hb).1;rw[e] at this;cases this
theorem Inv.bs (I:Inv X pins σ H s):∀b o,X.base.get? b=some o->s.heap.get? b=some o/\H b=none:=λb o e =>
 ⟨I.base.keep b o (I.ok.bs b o e).1 (I.ok.bs b o e).2 (I.ok.nofr e) (I.ok.noex b o e),I.base.free b o (I.ok.bs b o e).1 (I.ok.bs b o e).2 (I.ok.noex b o e)⟩
theorem Inv.bk (I:Inv X pins σ H s):∀b o,X.base.get? b=some o->s.heap.get? b=some o:=λb o e=>(I.bs b o e).1
theorem Inv.mod (I:Inv X pins σ H s):Mod X.K X.mg X.base:=I.ok.mod
theorem Inv.kIn (I:Inv X pins σ H s):X.K.In s.heap:=I.ok.mod.kin.keeps I.bk
theorem Inv.lt (I:Inv X pins σ H s):X.env.locals < s.heap.objs.size:=let ⟨_,hn,_⟩:=I.loc;hn.lt
theorem Inv.sz (I:Inv X pins σ H s):X.s₀.heap.objs.size<=s.heap.objs.size:=ar I.ok.above (aR I.lt)
theorem Inv.nofs (I:Inv X pins σ H s) {a:Addr} (h:s.heap.objs.size<=a):a∉X.fs:=λhb=>by
 obtain ⟨_,o,ho,_⟩:=I.ok.funs.mem hb;exact absurd (ba (Heap.lt_size ho) (ar I.sz h)) (dZ _)
theorem Inv.cne (I:Inv X pins σ H s):∀x c,X.env.cells.lookup x=some c->c≠X.env.locals:=λx c e z=>by
 obtain ⟨v,o,ho,hd⟩:=I.cell x c e;obtain ⟨m,⟨o',es,ep,ho',hd',_⟩,_⟩:=I.loc;rw[z,ho'] at ho;cases ho;rw[hd'] at hd;cases hd
theorem Inv.funs (I:Inv X pins σ H s):s.heap.FunFrames X.base X.outer:=by
 have all:∀(l:List Env),(∀b∈wm l,b∈X.fs)->X.s₀.heap.FunFrames X.base l->s.heap.FunFrames X.base l:=by
  intro l
  induction l with
  | nil=>intro _ _;trivial
  | cons env r ih =>
   intro hs hl;obtain ⟨hk,⟨L,o,hf,hn,ho,hd⟩,hr⟩:=hl;have hL:L∈X.fs:=hs L (by unfold wm;rw[pS,hf];exact cT);obtain ⟨sl,e⟩:=I.base.slot L o ho (I.ok.frf L hL) hL λz=>I.ok.exfs L z hL
   exact ⟨hk,⟨L,_,hf,hn,e,hd⟩,ih (λb hb=>hs b (by unfold wm;rw[pS,hf];exact bM _ hb)) hr⟩
 exact all X.outer (λ_ hb=>hb) I.ok.funs
theorem Inv.stack (I:Inv X pins σ H s):s.heap.FunFrames X.base X.stack:=by
 rcases I.ok.stk with e | ⟨e,hf⟩
 ·rw[e];exact I.funs
 ·rw[e];obtain ⟨m,hn,_⟩:=I.loc;refine .cons (by rw[I.ok.kind];decide) hf hn ?_ I.funs;exact Heap.get?_none_of_le (ar I.ok.bsz I.ok.above)
theorem Inv.stkSub (I:Inv X pins σ H s):∀b∈wm X.stack,b∈X.env.locals :: X.fs:=λb hb=>by
 rcases I.ok.stk with e | ⟨e,hf⟩
 ·rw[e] at hb;exact bM _ hb
 ·rw[e] at hb;unfold wm at hb;rw[pS,hf] at hb;exact hb
theorem Inv.stkFree (I:Inv X pins σ H s):∀b∈wm X.stack,H b=none:=λb hb=>by
 rcases aD.mp (I.stkSub b hb) with e | hb
 ·rw[e];exact I.free
 ·obtain ⟨_,o,ho,_⟩:=I.ok.funs.mem hb;exact I.base.free b o ho (I.ok.frf b hb) λz=>I.ok.exfs b z hb
theorem Inv.step {ch:List Addr} (I:Inv X pins σ H s)
  (hch:∀b∈ch,(b∈X.ex\/X.s₀.heap.objs.size<=b)/\b≠X.env.locals/\(∀x c,X.env.cells.lookup x=some c->c≠b)/\∀p∈X.pn++pins,p.1≠b)
  (keep:∀b o,b≠X.env.locals->b∉X.fs->b∉ch->s.heap.get? b=some o->H b=none->h'.get? b=some o)
  (slot:∀b o,b≠X.env.locals->b∈X.fs->b∉ch->s.heap.get? b=some o->H b=none->∃sl,h'.get? b=some { o with slots:=sl }) (free:∀b o,b∉ch->s.heap.get? b=some o->H b=none->H' b=none)
  (there:∀b o,b∉ch->s.heap.get? b=some o->∃o',h'.get? b=some o')
  (tups:∀b xs,H b=some (.tup xs)->H' b=some (.tup xs)) (frzs:∀b o u,H b=some (.frz o u)->H' b=some (.frz o u)) (tbls:∀b ps,H b=some (.tbl ps)->∃more,H' b=some (.tbl (ps++more)))
  (ns:∀m,s.heap.Ns X.env.locals m->h'.Ns X.env.locals m) (hok:uJ X.prog X.w H' h') (hg:AllBare g') :
  Inv X pins σ H' { s with heap:=h',gens:=g',drawn:=d',toks:=t' }:=by
 have neL:∀b o,X.s₀.heap.get? b=some o->b≠X.env.locals:=λb o e=>b9 (ba (Heap.lt_size e) I.ok.above)
 have neC:∀b o,X.s₀.heap.get? b=some o->b∉X.ex->b∉ch:=λb o e hx hb=>by
  rcases (hch b hb).1 with z | z
  ·exact hx z
  ·exact absurd (ba (Heap.lt_size e) z) (dZ _)
 have cellK:∀x c,X.env.cells.lookup x=some c->∀v,s.heap.IsCell c v->h'.IsCell c v:=λx c e v ⟨o,ho,hd⟩=>by
  have nch:c∉ch:=λz=>(hch c z).2.2.1 x c e rfl
  by_cases hc:c∈X.fs
  ·obtain ⟨sl,q⟩:=slot c o (I.cne x c e) hc nch ho (I.freeC x c e);exact ⟨_,q,hd⟩
  ·exact ⟨o,keep c o (I.cne x c e) hc nch ho (I.freeC x c e),hd⟩
 refine ⟨I.ok,I.os,hg,⟨λb o e n hb hx=>?_,λb o e n hb hx=>?_,λb o e n hx=>?_,λb o e hx=>?_,λb xs e=>tups b xs (I.base.tups b xs e),λb o xs e=>frzs b o xs (I.base.frzs b o xs e),λb ps e=>?_⟩,?_,λx c e=>?_,?_,λx c e=>?_,λp hp=>?_,hok,I.len⟩
 ·exact keep b o (neL b o e) hb (neC b o e hx) (I.base.keep b o e n hb hx) (I.base.free b o e n hx)
 ·obtain ⟨sl,e1⟩:=I.base.slot b o e n hb hx;obtain ⟨sl',e2⟩:=slot b _ (neL b o e) hb (neC b o e hx) e1 (I.base.free b o e n hx);exact ⟨sl',e2⟩
 ·obtain ⟨o',e1⟩:=I.base.there b o e hx;exact free b o' (neC b o e hx) e1 (I.base.free b o e n hx)
 ·obtain ⟨o',e1⟩:=I.base.there b o e hx;exact there b o' (neC b o e hx) e1
 ·obtain ⟨m1,e1⟩:=I.base.tbls b ps e;obtain ⟨m2,e2⟩:=tbls b _ e1;exact ⟨m1++m2,by rw[e2,Array.append_assoc]⟩
 ·obtain ⟨m,hn,hl⟩:=I.loc;refine ⟨m,ns m hn,λi x v e1 e2 e3=>?_⟩;obtain ⟨u,r,l⟩:=hl i x v e1 e2 e3;refine ⟨u,r,?_⟩;rcases l with l | ⟨k,c,e,z⟩
  ·exact .inl l
  ·exact .inr ⟨k,c,e,cellK x c e _ z⟩
 ·obtain ⟨v,z⟩:=I.cell x c e;exact ⟨v,cellK x c e v z⟩
 ·obtain ⟨m,⟨o,_,_,ho,_⟩,_⟩:=I.loc;exact free _ o (λz=>(hch _ z).2.1 rfl) ho I.free
 ·obtain ⟨v,o,ho,hd⟩:=I.cell x c e;exact free c o (λz=>(hch c z).2.2.1 x c e rfl) ho (I.freeC x c e)
 ·obtain ⟨e,n,ne,nf,d⟩:=I.pin p hp;have nch:p.1∉ch:=λz=>(hch p.1 z).2.2.2 p hp rfl
  exact ⟨keep p.1 p.2 ne nf nch e n,free p.1 p.2 nch e n,ne,nf,d⟩
theorem Inv.un (I:Inv X pins σ H s) (u:Un X.fs [] H H' s.heap h') (hok:uJ X.prog X.w H' h'):Inv X pins σ H' { s with heap:=h',toks:=t' }:=by
 obtain ⟨m,⟨o,es,ep,ho,r⟩,_⟩:=id I.loc;obtain ⟨sl,hL⟩:=u.any ho I.free (by simp)
 exact I.step (g':=s.gens) (d':=s.drawn) (ch:=[]) (λ_ z=>nomatch z) (λb o _ hb _ e n=>u.keep b o e n hb (by simp)) (λb o _ hb _ e n=>u.slot b o e n hb (by simp)) (λb o _ e n=>u.free b o e n (by simp)) (λb o _ e=>u.there b o e (by simp)) u.tups u.frzs u.tbls (λm' hm=>by
  obtain ⟨o',es',ep',ho',r'⟩:=hm;rw[ho] at ho';cases ho';exact ⟨_,es',ep',hL,r'⟩) hok I.bare
theorem Inv.call (I:Inv X pins σ H s) (u:Un (wm X.stack) ch H H' s.heap h') (hok:uJ X.prog X.w H' h') (hg:AllBare g')
  (hch:∀b∈ch,(b∈X.ex\/X.s₀.heap.objs.size<=b)/\b≠X.env.locals/\(∀x c,X.env.cells.lookup x=some c->c≠b)/\∀p∈X.pn++pins,p.1≠b) :
  Inv X pins σ H' { s with heap:=h',gens:=g',drawn:=d',toks:=t' }:=by
 obtain ⟨m,⟨o,es,ep,ho,r⟩,_⟩:=id I.loc;obtain ⟨sl,hL⟩:=u.any ho I.free λz=>(hch _ z).2.1 rfl
 exact I.step (ch:=ch) hch (λb o hL hb hc e n=>u.keep b o e n (λz=>(aD.mp (I.stkSub b z)).elim hL hb) hc) (λb o _ _ hc e n=>u.any e n hc) (λb o hc e n=>u.free b o e n hc) (λb o hc e=>u.there b o e hc) u.tups u.frzs u.tbls (λm' hm=>by
  obtain ⟨o',es',ep',ho',r'⟩:=hm;rw[ho] at ho';cases ho';exact ⟨_,es',ep',hL,r'⟩) hok hg
theorem Inv.turned (I:Inv X pins σ H s) (k:∀b o,b≠it->s.heap.get? b=some o->h'.get? b=some o) (hn:H it=none) (hL:it≠X.env.locals)
  (h1:it∈X.ex\/X.s₀.heap.objs.size<=it) (h2:∀x c,X.env.cells.lookup x=some c->c≠it) (h3:∀p∈X.pn++pins,p.1≠it):Inv X pins σ H { s with heap:=h',toks:=t' }:=by
 have nit:∀b u,H b=some u->b≠it:=λb u e z=>by rw[z,hn] at e;cases e
 refine I.step (g':=s.gens) (d':=s.drawn) (ch:=[it]) (λb hb=>?_) (λb o _ _ hc e _=>k b o (λz=>hc (by simp [z])) e) (λb o _ _ hc e _=>⟨o.slots,k b o (λz=>hc (by simp [z])) e⟩) (λ_ _ _ _ n=>n)
  (λb o hc e=>⟨o,k b o (λz=>hc (by simp [z])) e⟩) (λ_ _ e=>e) (λ_ _ _ e=>e) (λb ps e=>⟨#[],by rw[e];simp⟩) (λm hm=>?_) (λb u e=>?_) I.bare
 ·have e:b=it:=by simpa using hb
  subst e;exact ⟨h1,hL,h2,h3⟩
 ·obtain ⟨o,es,ep,ho,r⟩:=hm;exact ⟨o,es,ep,k _ o (Ne.symm hL) ho,r⟩
 ·refine (I.hok b u e).stay (λc v hc q=>k c v ?_ q) (λ_ q=>q) λ_ _ q=>q
  rcases hc with z | z
  ·rw[z];exact nit b u e
  ·exact nit c _ z
theorem Inv.tok (I:Inv X pins σ H s) (t:Nat):Inv X pins σ H { s with toks:=t }:=I.un (h':=s.heap) (t':=t) Un.refl I.hok
theorem Inv.kept (I:Inv X pins σ H s) (k:∀b u,s.heap.get? b=some u->h'.get? b=some u):Inv X pins σ H { s with heap:=h',toks:=t' }:=I.un (Un.kept k) (I.hok.kept k)
theorem Inv.laid {a:Addr} (I:Inv X pins σ H s) (k:∀b u,s.heap.get? b=some u->h'.get? b=some u) (hp:s.heap.objs.size<=a) (new:fy X.prog X.w (upd H a o) h' a o) :
  Inv X pins σ (upd H a o) { s with heap:=h',toks:=t' }:=I.un (Un.laid k hp (I.hok.fresh hp)) (I.hok.laid k hp new)
theorem Inv.write (I:Inv X pins σ H s) (mu:NB (H x)) (he:e=x\/H e=some (.own x)) (k:∀b u,b≠e->s.heap.get? b=some u->h'.get? b=some u) (heo:∃u,h'.get? e=some u)
  (new:fy X.prog X.w (upd H x o) h' x o):Inv X pins σ (upd H x o) { s with heap:=h',toks:=t' }:=I.un (Un.write mu he k heo) (I.hok.write mu he k heo new)
theorem Inv.pins_of (I:Inv X pins σ H s) (h:∀p∈pins',s.heap.get? p.1=some p.2/\H p.1=none/\p.1≠X.env.locals/\p.1∉X.fs/\∀v,p.2.data≠.cell v):Inv X pins' σ H s :=
 ⟨I.ok,I.os,I.bare,I.base,I.loc,I.cell,I.free,I.freeC,λp hp=>(ax.mp hp).elim (λz=>I.pin p (fG _ z)) (h p),I.hok,I.len⟩
theorem Cq {N:List Str} (hN:N.Nodup) {i j:Nat} (a:N[i]?=some x) (b:N[j]?=some x):i=j:=by
 obtain ⟨h1,e1⟩:=aF.mp a;obtain ⟨h2,e2⟩:=aF.mp b;exact (List.getElem_inj hN).mp (e1.trans e2.symm)
theorem yT {M:Model} {A:Around} {E:Value->Shared->Prop} {i:Nat} {x:Str} {v:V} {u:Value} {Q:Unit->Shared->Prop} (I:Inv X pins σ H s) (hN:X.N.Nodup) (hi:X.N[i]?=some x) (hx:Loc X.env.scope x) (r:RelV v u)
  (h:∀s',Inv X pins (σ.set i (some v)) H s'->(∃a,Heap.SameBut a s.heap s'.heap/\(a=X.env.locals\/X.env.cells.lookup x=some a))->Q () s') (hf:X.fn x=true\/X.env.scope.names.lookup x=some .local:=by first | exact .inl rfl | exact .inr rfl | assumption):wpAny M A (storeName X.env x u) Q E s:=by
 obtain ⟨m,hn,hl⟩:=id I.loc;have hcls:(X.env.scope.kind == .class || (X.env.scope.kind == .module && X.env.locals != X.env.globals))=false:=by rw[I.ok.kind];rfl
 have hiσ:i < σ.length:=by rw[I.len];exact (aF.mp hi).1
 have cne:=I.cne
 have tracked:∀{a:Addr} {h':Heap},(∃o,s.heap.get? a=some o/\H a=none)->Heap.SameBut a s.heap h'->uJ X.prog X.w H h':=λ{a h'} ha hs b ob e=>by
  obtain ⟨_,_,hfree⟩:=ha;refine (I.hok b ob e).stay (λc w' hc q=>(hs.2 c ?_).trans q) (λ_ q=>q) λ_ _ q=>q
  rintro rfl;rcases hc with rfl | hc
  ·rw[hfree] at e;cases e
  ·rw[hfree] at hc;cases hc
 rcases hx with hk | hk
 ·refine wpAny_storeName_local hk hn (λh' hn' hs=>?_) hcls;obtain ⟨oL,_,_,hoL,_⟩:=id hn;refine h _ ⟨I.ok,I.os,I.bare,⟨λb o e n hb hx=>?_,λb o e n hb hx=>?_,I.base.free,λb o e hx=>?_,I.base.tups,I.base.frzs,I.base.tbls⟩,⟨_,hn',λj y v' e1 e2 e3=>?_⟩,λy c e=>?_,I.free,I.freeC,λp hp=>?_,tracked ⟨oL,hoL,I.free⟩ hs,by simpa using I.len⟩ ⟨_,hs,.inl rfl⟩
  ·exact (hs.2 b (b9 (ba (Heap.lt_size e) I.ok.above))).trans (I.base.keep b o e n hb hx)
  ·obtain ⟨sl,e1⟩:=I.base.slot b o e n hb hx;exact ⟨sl,(hs.2 b (b9 (ba (Heap.lt_size e) I.ok.above))).trans e1⟩
  ·obtain ⟨o',e1⟩:=I.base.there b o e hx;exact ⟨o',(hs.2 b (b9 (ba (Heap.lt_size e) I.ok.above))).trans e1⟩
  ·by_cases hj:j=i
   ·subst hj;rw[hi] at e1;cases e1;rw[List.getElem?_set_self hiσ] at e2;cases e2;exact ⟨u,r,.inl ⟨hk,by simp⟩⟩
   ·rw[List.getElem?_set_ne (Ne.symm hj)] at e2;obtain ⟨u',r',q⟩:=hl j y v' e1 e2 e3;refine ⟨u',r',?_⟩;rcases q with ⟨k,e⟩ | ⟨k,c,e,z⟩
    ·refine .inl ⟨k,?_⟩;have:y≠x:=λe=>hj (Cq hN e1 (e ▸ hi))
     simp [this,e]
    ·exact .inr ⟨k,c,e,z.sameBut hs (cne y c e)⟩
  ·obtain ⟨w',z⟩:=I.cell y c e;exact ⟨w',z.sameBut hs (cne y c e)⟩
  ·obtain ⟨e,n,ne,nf,d⟩:=I.pin p hp;exact ⟨(hs.2 p.1 ne).trans e,n,ne,nf,d⟩
 ·have hfn:X.fn x=true:=by
   rcases hf with z | z
   ·exact z
   ·rw[z] at hk;cases hk
  obtain ⟨c,hc⟩:=I.ok.has x (.inl hk);obtain ⟨w',z⟩:=I.cell x c hc;refine wpAny_storeName_cell I.ok.kind hk hc z (λh' hc' hs=>?_);obtain ⟨oc,hoc,hocd⟩:=id z;refine h { s with heap:=h' } ⟨I.ok,I.os,I.bare,⟨λb o e n hb hx=>?_,λb o e n hb hx=>?_,I.base.free,λb o e hx=>?_,I.base.tups,I.base.frzs,I.base.tbls⟩,⟨m,hn.sameBut hs (Ne.symm (cne x c hc)),λj y v' e1 e2 e3=>?_⟩,λy c' e=>?_,I.free,I.freeC,λp hp=>?_,tracked ⟨oc,hoc,I.freeC x c hc⟩ hs,by simpa using I.len⟩ ⟨c,hs,.inr hc⟩
  ·exact (hs.2 b (b9 (ba (Heap.lt_size e) (I.ok.cab x c hfn hc)))).trans (I.base.keep b o e n hb hx)
  ·obtain ⟨sl,e1⟩:=I.base.slot b o e n hb hx;exact ⟨sl,(hs.2 b (b9 (ba (Heap.lt_size e) (I.ok.cab x c hfn hc)))).trans e1⟩
  ·obtain ⟨o',e1⟩:=I.base.there b o e hx;exact ⟨o',(hs.2 b (b9 (ba (Heap.lt_size e) (I.ok.cab x c hfn hc)))).trans e1⟩
  ·by_cases hj:j=i
   ·subst hj;rw[hi] at e1;cases e1;rw[List.getElem?_set_self hiσ] at e2;cases e2;exact ⟨u,r,.inr ⟨.inl hk,c,hc,hc'⟩⟩
   ·rw[List.getElem?_set_ne (Ne.symm hj)] at e2;obtain ⟨u',r',q⟩:=hl j y v' e1 e2 e3;refine ⟨u',r',?_⟩;rcases q with q | ⟨k,c',e,z'⟩
    ·exact .inl q
    ·refine .inr ⟨k,c',e,z'.sameBut hs ?_⟩;rintro rfl;exact hj (Cq hN e1 (I.ok.inj _ _ _ e hc ▸ hi))
  ·by_cases hcc:c'=c
   ·subst hcc;exact ⟨_,hc'⟩
   ·obtain ⟨w2,z2⟩:=I.cell y c' e;exact ⟨w2,z2.sameBut hs hcc⟩
  ·obtain ⟨e,n,ne,nf,d⟩:=I.pin p hp;refine ⟨(hs.2 p.1 ?_).trans e,n,ne,nf,d⟩;intro q;rw[q,hoc] at e;have q':oc=p.2:=bR e;exact d w' (by rw[<- q'];exact hocd)
theorem oK {M:Model} {A:Around} {E:Value->Shared->Prop} {i:Nat} {x:Str} {v:V} {u:Value} {Q:Unit->Shared->Prop} (I:Inv X pins σ H s) (hN:X.N.Nodup) (hi:X.N[i]?=some x) (hx:Loc X.env.scope x) (r:RelV v u)
  (h:∀s',Inv X pins (σ.set i (some v)) H s'->Q () s') (hf:X.fn x=true\/X.env.scope.names.lookup x=some .local:=by first | exact .inl rfl | exact .inr rfl | assumption):wpAny M A (storeName X.env x u) Q E s :=
 yT I hN hi hx r (λs' I' _=>h s' I') hf
theorem Inv.call' (I:Inv X pins σ H s) (ho:s'.os=s.os) (u:Un (wm X.stack) ch H H' s.heap s'.heap) (hok:uJ X.prog X.w H' s'.heap) (hg:AllBare s'.gens)
  (hch:∀b∈ch,(b∈X.ex\/X.s₀.heap.objs.size<=b)/\b≠X.env.locals/\(∀x c,X.env.cells.lookup x=some c->c≠b)/\∀p∈X.pn++pins,p.1≠b):Inv X pins σ H' s':=by
 obtain ⟨h',g',d',t',o'⟩:=s';have e:o'=s.os:=ho;subst e;exact I.call (g':=g') (t':=t') (d':=d') u hok hg hch
end
abbrev XK:=Value->Option Addr->Hp->Prop
abbrev St:=List (Option V)
abbrev VK:=V->Hp->Prop
abbrev TE:=St->Hp->VK->Prop
abbrev TT:=St->Hp->(Bool->Hp->Prop)->Prop
abbrev TA:=St->Hp->(List V->Hp->Prop)->Prop
structure Ends where
 nx:St->Hp->Prop
 rt:VK
 bk:St->Hp->Prop:=λ_ _=>False
 ct:St->Hp->Prop:=λ_ _=>False
abbrev TS:=Ends->St->Hp->Prop
def EP (X:Cx) (pins:List (Addr×Obj)) (σ:St) (Q:VK) (u:Value) (s':Shared):Prop:=∃v H',Inv X pins σ H' s'/\RelV v u/\Q v H'
def TP (X:Cx) (pins:List (Addr×Obj)) (σ:St) (Q:Bool->Hp->Prop) (b:Bool) (s':Shared):Prop:=∃H',Inv X pins σ H' s'/\Q b H'
def AP (X:Cx) (pins:List (Addr×Obj)) (σ:St) (Q:List V->Hp->Prop) (us:List Value) (s':Shared):Prop:=∃vs H',Inv X pins σ H' s'/\cp vs us/\Q vs H'
def SP (X:Cx) (pins:List (Addr×Obj)) (D:Ends) (f:Flow) (s':Shared):Prop :=
 match f with
 | .next=>∃σ' H',Inv X pins σ' H' s'/\D.nx σ' H'
 | .brk=>∃σ' H',Inv X pins σ' H' s'/\D.bk σ' H'
 | .cont=>∃σ' H',Inv X pins σ' H' s'/\D.ct σ' H'
 | .ret u=>∃v σ' H',Inv X pins σ' H' s'/\RelV v u/\D.rt v H'
def PE (X:Cx) (e:Expr) (t:TE):Prop :=
 ∀(pins:List (Addr×Obj)) (s:Shared) (σ:St) (H:Hp) (Q:VK),Inv X pins σ H s->t σ H Q->wpAny (model X.prog X.w) X.A (eval e X.env) (EP X pins σ Q) X.xe s
def PT (X:Cx) (e:Expr) (t:TT):Prop :=
 ∀(pins:List (Addr×Obj)) (s:Shared) (σ:St) (H:Hp) (Q:Bool->Hp->Prop),Inv X pins σ H s->t σ H Q->wpAny (model X.prog X.w) X.A (isTrue e X.env (eval e X.env)) (TP X pins σ Q) X.xe s
def PW (X:Cx) (e:Expr) (t:TT):Prop :=
 ∀(whole:Sem Value) (pins:List (Addr×Obj)) (s:Shared) (σ:St) (H:Hp) (Q:Bool->Hp->Prop),Inv X pins σ H s->t σ H Q->wpAny (model X.prog X.w) X.A (isTrue e X.env whole) (TP X pins σ Q) X.xe s
theorem PW.pt (h:PW X e t):PT X e t:=h _
def PA (X:Cx) (es:List Expr) (t:TA):Prop :=
 ∀(pos:Pos) (pins:List (Addr×Obj)) (s:Shared) (σ:St) (H:Hp) (Q:List V->Hp->Prop),Inv X pins σ H s->t σ H Q->wpAny (model X.prog X.w) X.A (spliced (backTo pos (starEach es X.env))) (AP X pins σ Q) X.xe s
def PS (X:Cx) (st:Stmt) (t:TS):Prop :=
 ∀(pins:List (Addr×Obj)) (s:Shared) (σ:St) (H:Hp) (D:Ends),Inv X pins σ H s->t D σ H->wpAny (model X.prog X.w) X.A (exec st X.env) (SP X pins D) X.xe s
def Bj (X:Cx) (st:List Stmt) (t:TS):Prop :=
 ∀(pins:List (Addr×Obj)) (s:Shared) (σ:St) (H:Hp) (D:Ends),Inv X pins σ H s->t D σ H->wpAny (model X.prog X.w) X.A (execs st X.env) (SP X pins D) X.xe s
theorem eY {t:Sem α} {Q Q':α->Shared->Prop} (h:wpAny M A t Q E s) (hQ:∀a s,Q a s->Q' a s):wpAny M A t Q' E s:=wpAny_mono h hQ λ_ _ x=>x
section
variable {X:Cx}
def KL (i:Nat):TE:=λσ H Q=>∃v,σ[i]?=some (some v)/\Q v H
def tC (v:V):TE:=λ_ H Q=>Q v H
theorem Ln {i:Nat} {x:Str} {pos:Pos} (hN:X.N[i]?=some x) (hv:NS X.env.scope x) (hd:(x == ("__debug__":Str))=false:=by decide) (hcd:(x == ("__classdict__":Str))=false:=by decide):PE X (.Name x pos) (KL i):=by
 intro pins s σ H Q I h;obtain ⟨v,e,h⟩:=h;obtain ⟨m,hn,hl⟩:=I.loc;obtain ⟨u,r,l⟩:=hl i x v hN e hv;have fin:EP X pins σ Q u s:=⟨v,H,I,r,h⟩;rcases l with ⟨hk,hm⟩ | ⟨hk,c,hc,hcell⟩
 ·exact wpAny_Name (wpAny_loadName_local I.ok.kind hk hn hm fin) hd
 ·rcases hk with hk | hk
  ·exact wpAny_Name (wpAny_loadName_cell I.ok.kind hk hc hcell fin) hd
  ·exact wpAny_Name (wpAny_loadName_free I.ok.kind hk hc hcell fin hcd) hd
theorem aj:PE X (.Constant (.int i) j pos) (tC (.int i)):=λ_ _ _ H _ I h=>wpAny_Constant_int ⟨.int i,H,I.tok _,⟨_,rfl⟩,h⟩
theorem jE:PE X (.Constant (.bool b) j pos) (tC (.bl b)):=λ_ _ _ H _ I h=>Constant_bool ⟨.bl b,H,I,rfl,h⟩
theorem Az:PE X (.Constant .none j pos) (tC .non):=λ_ _ _ H _ I h=>Constant_none ⟨.non,H,I,rfl,h⟩
theorem Ax:PE X (.Constant (.str x) j pos) (tC (.str x)):=λ_ _ _ H _ I h=>Calls.Constant_str ⟨.str x,H,I.tok _,⟨_,rfl⟩,h⟩
def Gl (X:Cx) (x:Str):Prop:=X.env.kindOf x=some .globalImplicit
theorem p5 {E:Value->Shared->Prop} {pins:List (Addr×Obj)} {s:Shared} {σ:St} {H:Hp} {x:Str} {u:Value} {pos:Pos} {Q:Value->Shared->Prop} (I:Inv X pins σ H s) (hg:Gl X x) (hm:X.mg x=some u) (h:Q u s)
  (hd:(x == ("__debug__":Str))=false:=by decide):wpAny (model X.prog X.w) X.A (eval (.Name x pos) X.env) Q E s :=
 Calls.Name_function_global I.ok.kind hg (Calls.loadGlobal_global (by rw[I.ok.glob];exact I.mod.glob.keeps I.bk) hm h) hd
theorem gW {E:Value->Shared->Prop} {pins:List (Addr×Obj)} {s:Shared} {σ:St} {H:Hp} {x:Str} {u:Value} {pos:Pos} {Q:Value->Shared->Prop} (I:Inv X pins σ H s) (hg:Gl X x) (hm:X.mg x=none) (hv:bootBuiltins x=some u) (h:Q u s)
  (hn:x≠"__name__":=by decide) (hd:(x == ("__debug__":Str))=false:=by decide):wpAny (model X.prog X.w) X.A (eval (.Name x pos) X.env) Q E s:=by
 obtain ⟨mb,h1,h2⟩:=I.mod.blt;exact Calls.Name_function_global I.ok.kind hg (Calls.loadGlobal_builtin (by rw[I.ok.glob];exact I.mod.glob.keeps I.bk) hm (by rw[I.ok.blt];exact h1.keeps I.bk) ((h2 x hn).trans hv) h) hd
theorem kG {x:Str} {v:V} {u:Value} {pos:Pos} (hg:Gl X x) (hm:X.mg x=some u) (r:RelV v u) (hd:(x == ("__debug__":Str))=false:=by decide):PE X (.Name x pos) (tC v) :=
 λ_ _ _ H _ I h=>p5 I hg hm ⟨v,H,I,r,h⟩ hd
theorem Ed {x:Str} {v:V} {u:Value} {pos:Pos} (hg:Gl X x) (hm:X.mg x=none) (hv:bootBuiltins x=some u) (r:RelV v u) (hn:x≠"__name__":=by decide) (hd:(x == ("__debug__":Str))=false:=by decide):PE X (.Name x pos) (tC v) :=
 λ_ _ _ H _ I h=>gW I hg hm hv ⟨v,H,I,r,h⟩ hn hd
variable {a b:Expr} {ta tb:TE} {pos:Pos}
def tB (t:TE):TT:=λσ H Q=>t σ H λx H1=>∃c,x=.bl c/\Q c H1
theorem iu {e:Expr} {t:TE} (h:PE X e t) (he:∀whole,isTrue e X.env whole=(do let v <- whole;standAt e.pos;holding [v] (truthy v)):=by intro _;rfl):PT X e (tB t):=by
 intro pins s σ H Q I hw;refine isTrue_plain (eY (h pins s σ H _ I hw) λv s1 ⟨x,H1,I1,r1,q1⟩=>?_) (he _);obtain ⟨d,rfl,q⟩:=q1;cases r1;exact wpAny_truthy_bool ⟨H1,I1,q⟩
variable {tA tB':TT} {rest:List Expr}
def Mz (t u:TT):TT:=λσ H Q=>t σ H λc H1=>if c=true then u σ H1 Q else Q false H1
def tOr (t u:TT):TT:=λσ H Q=>t σ H λc H1=>if c=true then Q true H1 else u σ H1 Q
def Mu (t:TT):TT:=λσ H Q=>t σ H λc H1=>Q (!c) H1
theorem jt (ha:PT X a tA):PW X (.BoolOp .And [a] pos) tA:=by
 intro wh pins s σ H Q I h;refine isTrue_and (eY (ha pins s σ H Q I h) λc s1 e=>?_);cases c with
 | true=>exact isTrue_and_nil e
 | false=>exact e
theorem ja (ha:PT X a tA):PW X (.BoolOp .Or [a] pos) tA:=by
 intro wh pins s σ H Q I h;refine isTrue_or (eY (ha pins s σ H Q I h) λc s1 e=>?_);cases c with
 | false=>exact isTrue_or_nil e
 | true=>exact e
theorem ir (ha:PT X a tA) (hb:PW X (.BoolOp .And (b :: rest) pos) tB'):PW X (.BoolOp .And (a :: b :: rest) pos) (Mz tA tB'):=by
 intro wh pins s σ H Q I h;refine isTrue_and (eY (ha pins s σ H _ I h) λc s1 ⟨H1,I1,q1⟩=>?_);cases c with
 | true=>exact hb wh pins s1 σ H1 Q I1 q1
 | false=>exact ⟨H1,I1,q1⟩
theorem lZ (ha:PT X a tA) (hb:PW X (.BoolOp .Or (b :: rest) pos) tB'):PW X (.BoolOp .Or (a :: b :: rest) pos) (tOr tA tB'):=by
 intro wh pins s σ H Q I h;refine isTrue_or (eY (ha pins s σ H _ I h) λc s1 ⟨H1,I1,q1⟩=>?_);cases c with
 | true=>exact ⟨H1,I1,q1⟩
 | false=>exact hb wh pins s1 σ H1 Q I1 q1
theorem jb (ha:PT X a tA):PT X (.UnaryOp .Not a pos) (Mu tA):=by
 intro pins s σ H Q I h;exact isTrue_not (ha pins s σ H (λc H1=>Q (!c) H1) I h)
def Kb (ta tb:TE):TE:=λσ H Q=>ta σ H λx H1=>∃c,x=.bl c/\if c=true then tb σ H1 Q else Q (.bl false) H1
def J0 (ta:TE):TE:=λσ H Q=>ta σ H λx H1=>∃c,x=.bl c/\Q (.bl (!c)) H1
theorem Ay (h:PE X a t):PE X (.BoolOp op [a] pos) t:=λpins s σ H Q I hw=>BoolOp_one (h pins s σ H Q I hw)
theorem xB (ha:PE X a ta) (hb:PE X (.BoolOp .And (b :: rest) pos) tb):PE X (.BoolOp .And (a :: b :: rest) pos) (Kb ta tb):=by
 intro pins s σ H Q I h;refine BoolOp_and (eY (ha pins s σ H _ I h) λv s1 ⟨x,H1,I1,r1,q1⟩=>?_);obtain ⟨c,rfl,q1⟩:=q1;cases r1;refine wpAny_truthy_bool ?_;cases c with
 | true=>exact hb pins s1 σ H1 Q I1 q1
 | false=>exact ⟨.bl false,H1,I1,rfl,q1⟩
theorem Lo (ha:PE X a ta):PE X (.UnaryOp .Not a pos) (J0 ta):=by
 intro pins s σ H Q I h;refine UnaryOp_ (eY (ha pins s σ H _ I h) λv s1 ⟨x,H1,I1,r1,q1⟩=>?_);obtain ⟨c,rfl,q1⟩:=q1;cases r1;exact not_of (wpAny_truthy_bool ⟨.bl (!c),H1,I1,rfl,q1⟩)
def tIf (t:TT) (ta tb:TE):TE:=λσ H Q=>t σ H λc H1=>if c=true then ta σ H1 Q else tb σ H1 Q
theorem GG (hc:PT X c tA) (ha:PE X a ta) (hb:PE X b tb):PE X (.IfExp c a b pos) (tIf tA ta tb):=by
 intro pins s σ H Q I h;refine wpAny_IfExp (eY (hc pins s σ H _ I h) λd s1 ⟨H1,I1,q1⟩=>?_);cases d with
 | true=>exact ha pins s1 σ H1 Q I1 q1
 | false=>exact hb pins s1 σ H1 Q I1 q1
end
def bD (K:FG9) (H:Hp) (a:Addr) (xs:List V):Prop :=
 Rd H a (.lst xs) \/
  ∃(o:Obj) (its:Array Value) (n:Nat),K.lookup a=some o/\o.cls=.type "list"/\o.dict=none/\o.data=.seq its n/\its.size<=sizeLine/\cp xs its.toList
def kz (K:FG9) (H:Hp) (a:Addr) (xs:List V):Prop :=
 Rd H a (.tup xs) \/
  ∃(o:Obj) (its:Array Value) (n:Nat),K.lookup a=some o/\o.cls=.type "tuple"/\o.data=.seq its n/\its.size<=sizeLine/\cp xs its.toList
def NR:Value->Option V
 | .none=>some .non
 | .bool b=>some (.bl b)
 | .int i _=>some (.int i)
 | .str x _=>some (.str x)
 | .bytes b _=>some (.byt b)
 | .float b _=>some (.flt b)
 | .ref a=>some (.ref a)
 | .type n=>some (.ty n)
 | _=>none
theorem RelV.abs (r:RelV x u):NR u=some x:=by
 cases x with
 | non=>cases r;rfl
 | bl _=>cases r;rfl
 | int _=>obtain ⟨t,rfl⟩:=r;rfl
 | str _=>obtain ⟨t,rfl⟩:=r;rfl
 | byt _=>obtain ⟨t,rfl⟩:=r;rfl
 | flt _=>obtain ⟨t,rfl⟩:=r;rfl
 | ref _=>cases r;rfl
 | ty _=>cases r;rfl
theorem RelV.inj (r:RelV x u) (q:RelV y u):x=y:=bR (r.abs.symm.trans q.abs)
theorem cp.inj:∀{xs ys:List V} {us:List Value},cp xs us->cp ys us->xs=ys
 | _,_,_,.nil,.nil=>rfl
 | _,_,_,.cons r t,.cons r' t'=>by rw[r.inj r',cp.inj t t']
section
variable {X:Cx} {pins:List (Addr×Obj)} {σ:St} {H:Hp} {s:Shared} {a:Addr} {xs ys:List V}
theorem bD.of {K:FG9} (h:H a=some (.lst xs)):bD K H a xs:=.inl (.inl h)
theorem kz.of {K:FG9} (h:H a=some (.tup xs)):kz K H a xs:=.inl (.inl h)
theorem Inv.list (I:Inv X pins σ H s) (h:bD X.K H a xs):∃its:List Value,cp xs its/\PlainL s.heap a its.toArray/\xs.length<=sizeLine:=by
 rcases h with h | ⟨o,its,n,hk,hc,hd,hs,hz,r⟩
 ·obtain ⟨z,its,n,r,e⟩:=h.ok I.hok;exact ⟨its,r,⟨_,n,e,rfl,rfl,rfl⟩,z⟩
 ·refine ⟨its.toList,r,⟨o,n,I.kIn a o hk,hc,hd,by simpa using hs⟩,?_⟩;have e:=r.length;simp only[Array.length_toList] at e
  lia
theorem Inv.tuple (I:Inv X pins σ H s) (h:kz X.K H a xs):∃its:List Value,cp xs its/\IsTup s.heap a its.toArray/\xs.length<=sizeLine:=by
 rcases h with h | ⟨o,its,n,hk,hc,hs,hz,r⟩
 ·obtain ⟨z,its,r,p⟩:=h.ok I.hok;exact ⟨its,r,p,z⟩
 ·refine ⟨its.toList,r,⟨o,I.kIn a o hk,hc,n,by simpa using hs⟩,?_⟩;have e:=r.length;simp only[Array.length_toList] at e
  lia
theorem Inv.list_inj (I:Inv X pins σ H s) (h:bD X.K H a xs) (h':bD X.K H a ys):xs=ys:=by
 obtain ⟨its,r,⟨o,n,e,_,_,d⟩,_⟩:=I.list h;obtain ⟨its',r',⟨o',n',e',_,_,d'⟩,_⟩:=I.list h';rw[e] at e';cases e';rw[d] at d';injection d' with d1 _
 have:its=its':=by simpa using congrArg Array.toList d1
 subst this;exact r.inj r'
theorem Inv.tuple_inj (I:Inv X pins σ H s) (h:kz X.K H a xs) (h':kz X.K H a ys):xs=ys:=by
 obtain ⟨its,r,⟨o,e,_,n,d⟩,_⟩:=I.tuple h;obtain ⟨its',r',⟨o',e',_,n',d'⟩,_⟩:=I.tuple h';rw[e] at e';cases e';rw[d] at d';injection d' with d1 _
 have:its=its':=by simpa using congrArg Array.toList d1
 subst this;exact r.inj r'
end
abbrev Cx.wish (X:Cx) (E:Value->Shared->Prop):Cx:={ X with xe:=E }
abbrev Cx.nox (X:Cx):Cx:=X.wish λ_ _=>False
theorem Cx.Ok.wish {X:Cx} (ok:X.Ok) (E:Value->Shared->Prop):(X.wish E).Ok :=
 ⟨ok.mod,ok.kind,ok.glob,ok.blt,ok.above,ok.inj,ok.has,ok.cab,ok.hd,ok.frames,ok.stk,ok.exf,ok.bs,ok.bsz,ok.noex,ok.exfs,ok.funs,ok.frf⟩
theorem Cx.Ok.unwish {X:Cx} (ok:(X.wish E).Ok):X.Ok :=
 ⟨ok.mod,ok.kind,ok.glob,ok.blt,ok.above,ok.inj,ok.has,ok.cab,ok.hd,ok.frames,ok.stk,ok.exf,ok.bs,ok.bsz,ok.noex,ok.exfs,ok.funs,ok.frf⟩
section
variable {X:Cx} {pins:List (Addr×Obj)} {σ:St} {H:Hp} {s:Shared} {E:Value->Shared->Prop}
theorem Inv.wish (I:Inv X pins σ H s) (E:Value->Shared->Prop):Inv (X.wish E) pins σ H s:=⟨I.ok.wish E,I.os,I.bare,I.base,I.loc,I.cell,I.free,I.freeC,I.pin,I.hok,I.len⟩
theorem Inv.unwish (I:Inv (X.wish E) pins σ H s):Inv X pins σ H s:=⟨I.ok.unwish,I.os,I.bare,I.base,I.loc,I.cell,I.free,I.freeC,I.pin,I.hok,I.len⟩
theorem SP.unwish (h:SP (X.wish E) pins D f s'):SP X pins D f s':=by
 cases f with
 | next=>obtain ⟨σ',H',I,q⟩:=h;exact ⟨σ',H',I.unwish,q⟩
 | brk=>obtain ⟨σ',H',I,q⟩:=h;exact ⟨σ',H',I.unwish,q⟩
 | cont=>obtain ⟨σ',H',I,q⟩:=h;exact ⟨σ',H',I.unwish,q⟩
 | ret u=>obtain ⟨v,σ',H',I,r,q⟩:=h;exact ⟨v,σ',H',I.unwish,r,q⟩
theorem Bj.nox {st:List Stmt} (h:Bj X.nox st t):Bj X st t:=λpins s σ H D I hw =>
 wpAny_mono (h pins s σ H D (I.wish _) hw) (λ_ _ q=>q.unwish) λ_ _ z=>False.elim z
end
section
variable {X:Cx} {st:Stmt} {rest:List Stmt} {t u:TS} {e:Expr} {te:TE} {pos:Pos}
def J5:TS:=λD σ H=>D.nx σ H
def Mp (t u:TS):TS:=λD σ H=>t { D with nx:=u D } σ H
theorem bF:Bj X [] J5:=λ_ _ σ H _ I h=>wpAny_execs_nil ⟨σ,H,I,h⟩
theorem au (h1:PS X st t) (h2:Bj X rest u):Bj X (st :: rest) (Mp t u):=by
 intro pins s σ H D I h;refine wpAny_execs_cons (eY (h1 pins s σ H { D with nx:=u D } I h) λf s1 q=>?_);cases f with
 | next =>
  obtain ⟨σ',H',I',q⟩:=q;exact h2 pins s1 σ' H' D I' q
 | ret v=>exact q
 | brk=>exact q
 | cont=>exact q
theorem ay (h1:PS X st t):Bj X [st] t:=by
 intro pins s σ H D I h;refine wpAny_execs_cons (eY (h1 pins s σ H D I h) λf s1 q=>?_);cases f with
 | next=>exact wpAny_execs_nil q
 | ret v=>exact q
 | brk=>exact q
 | cont=>exact q
theorem Inv.quiet {σ:St} (I:Inv X pins σ H s):interactive X.env=false:=by simp [interactive,I.ok.kind]
def J9 (te:TE):TS:=λD σ H=>te σ H λ_ H1=>D.nx σ H1
theorem kE (he:PE X e te) (hs:swapsWith e none pos.line X.env=pure false:=by rfl):PS X (.Expr e pos) (J9 te):=by
 intro pins s σ H D I h;exact wpAny_Expr_any (eY (he pins s σ H _ I h) λv s1 ⟨x,H1,I1,r1,q1⟩=>⟨σ,H1,I1,q1⟩) I.quiet hs
def Mq (te:TE):TS:=λD σ H=>te σ H D.rt
theorem aW (he:PE X e te):PS X (.Return (some e) pos) (Mq te):=by
 intro pins s σ H D I h;exact wpAny_Return_some (eY (he pins s σ H _ I h) λv s1 ⟨x,H1,I1,r1,q1⟩=>⟨x,σ,H1,I1,r1,q1⟩)
def Mw (c:TT) (t u:TS):TS:=λD σ H=>c σ H λb H1=>if b=true then t D σ H1 else u D σ H1
theorem cy (hc:PT X c tc) (ha:Bj X a t) (hb:Bj X b u):PS X (.If c a b pos) (Mw tc t u):=by
 intro pins s σ H D I h;refine wpAny_If (eY (hc pins s σ H _ I h) λd s1 ⟨H1,I1,q1⟩=>?_);cases d with
 | true=>exact ha pins s1 σ H1 D I1 q1
 | false=>exact hb pins s1 σ H1 D I1 q1
end
abbrev TG:=V->St->Hp->(St->Hp->Prop)->Prop
abbrev Iw:=List V->St->Hp->(St->Hp->Prop)->Prop
def PG (X:Cx) (target:Expr) (t:TG):Prop :=
 ∀(pins:List (Addr×Obj)) (s:Shared) (σ:St) (H:Hp) (v:V) (u:Value) (Q:St->Hp->Prop),Inv X pins σ H s->RelV v u->t v σ H Q →
  wpAny (model X.prog X.w) X.A (assign target X.env u) (λ_ s'=>∃σ' H',Inv X pins σ' H' s'/\Q σ' H') X.xe s
def Nj (X:Cx) (ts:List Expr) (t:Iw):Prop :=
 ∀(pins:List (Addr×Obj)) (s:Shared) (σ:St) (H:Hp) (vs:List V) (us:List Value) (Q:St->Hp->Prop),Inv X pins σ H s->cp vs us->t vs σ H Q →
  wpAny (model X.prog X.w) X.A (assignInOrder ((assignEach ts X.env).map (·.2)) us) (λ_ s'=>∃σ' H',Inv X pins σ' H' s'/\Q σ' H') X.xe s
abbrev DL:=V->V->V->Hp->(Hp->Prop)->Prop
def LZ (X:Cx) (t:DL):Prop :=
 ∀(pins:List (Addr×Obj)) (s:Shared) (σ:St) (H:Hp) (o i v:V) (ov iv u:Value) (Q:Hp->Prop),Inv X pins σ H s->RelV o ov->RelV i iv->RelV v u->t o i v H Q →
  wpAny (model X.prog X.w) X.A (setItem ov iv u) (λ_ s'=>∃H',Inv X pins σ H' s'/\Q H') X.xe s
abbrev Ni:=V->V->Hp->VK->Prop
def PIp (X:Cx) (op:Operator) (t:Ni):Prop :=
 ∀(pins:List (Addr×Obj)) (s:Shared) (σ:St) (H:Hp) (x y:V) (v u:Value) (Q:VK),Inv X pins σ H s->RelV x v->RelV y u->t x y H Q →
  wpAny (model X.prog X.w) X.A (inplaceOp op v u) (EP X pins σ Q) X.xe s
section
variable {X:Cx} {pos:Pos}
def Ep (i:Nat):TG:=λv σ H Q=>Q (σ.set i (some v)) H
theorem aI {i:Nat} {x:Str} (hN:X.N.Nodup) (hi:X.N[i]?=some x:=by exact rfl) (hx:Loc X.env.scope x:=by exact Or.inl rfl) (hf:X.fn x=true\/X.env.scope.names.lookup x=some .local:=by first | exact .inl rfl | exact .inr rfl | assumption):PG X (.Name x pos) (Ep i):=by
 intro pins s σ H v u Q I r h;exact wpAny_assign_Name (oK I hN hi hx r (λs' I'=>⟨_,H,I',h⟩) hf)
def Nf:Iw:=λvs σ H Q=>vs=[]/\Q σ H
def Kq (t:TG) (u:Iw):Iw:=λvs σ H Q=>∃v r,vs=v :: r/\t v σ H λσ' H'=>u r σ' H' Q
theorem iw:Nj X [] Nf:=by
 intro pins s σ H vs us Q I r h;obtain ⟨e,h⟩:=h;subst e;cases r;exact assignInOrder_nil ⟨σ,H,I,h⟩
theorem cz {e:Expr} {es:List Expr} {t:TG} {u:Iw} (h1:PG X e t) (h2:Nj X es u)
  (hs:(assignEach (e :: es) X.env).map (·.2)=assign e X.env :: (assignEach es X.env).map (·.2):=by rfl):Nj X (e :: es) (Kq t u):=by
 intro pins s σ H vs us Q I r h;obtain ⟨v,vr,e1,h⟩:=h;subst e1;cases r with
 | cons r rr =>
  rw[hs];refine assignInOrder_cons (eY (h1 pins s σ H _ _ _ I r h) λ_ s1 ⟨σ1,H1,I1,q1⟩=>?_);exact h2 pins s1 σ1 H1 _ _ Q I1 rr q1
def LP (K:FG9) (n:Nat) (t:Iw):TG:=λv σ H Q=>∃a xs,v=.ref a/\kz K H a xs/\xs.length=n/\t xs σ H Q
theorem uu {es:List Expr} {k:Nat} {t:Iw} {n:Nat} (hc:X.calm=true) (h:Nj X es t)
  (hn:(assignEach es X.env).length=n:=by rfl) (hst:(assignEach es X.env).findIdx? (·.1)=none:=by rfl):PG X (.Tuple es k pos) (LP X.K n t):=by
 intro pins s σ H v u Q I r hw;obtain ⟨a,xs,e1,hq,hl,hw⟩:=hw;subst e1;cases r;obtain ⟨its,rv,ht,hz⟩:=I.tuple hq;refine assign_Tuple_tuple (I.ok.hd hc) ht (by simp [hn,<- hl,rv.length]) hst λh' hx=>?_
 have I1:Inv X pins σ H { s with heap:=h' }:=I.kept (t':=s.toks) λb o e=>hx b o (b9 (Heap.lt_size e)) e
 exact h pins _ σ H xs _ Q I1 (by simpa using rv) hw
def Nd (to ti:TE) (t:DL):TG:=λv σ H Q=>to σ H λo H1=>ti σ H1 λi H2=>t o i v H2 λH3=>Q σ H3
theorem fk {o i : Expr} {to ti : TE} {t : DL} (ho : PE X o to) (hi : PE X i ti) (hs : LZ X t)
    (ha : ∀ v, assign (.Subscript o i pos) X.env v = (do
      let ov <- holding [v] (eval o X.env)
      let iv <- holding [v, ov] (eval i X.env)
      standAt pos
      holding [v, ov, iv] (setItem ov iv v)
      release [v, ov, iv] []) := by intro _; rfl) : PG X (.Subscript o i pos) (Nd to ti t) := by
  intro pins s σ H v u Q I r h;rw [ha];refine wpAny_bind (wpAny_holding (eY (ho pins s σ H _ I h) λov s1 ⟨x, H1, I1, r1, q1⟩ => ?_));refine wpAny_bind (wpAny_holding (eY (hi pins s1 σ H1 _ I1 q1) λiv s2 ⟨y, H2, I2, r2, q2⟩ => ?_));refine wpAny_bind (wpAny_standAt (wpAny_bind (wpAny_holding (eY (hs pins s2 σ H2 x y v ov iv u _ I2 r1 r2 r q2) λ_ s3 ⟨H3, I3, q3⟩ => ?_))));exact wpAny_release ⟨σ, H3, I3, q3⟩
def II (te:TE) (g:TG):TS:=λD σ H=>te σ H λx H1=>g x σ H1 D.nx
theorem dU {tg e:Expr} {te:TE} {g:TG} (he:PE X e te) (hg:PG X tg g) (hs:swapsWithSole [tg] e pos.line X.env=pure false:=by rfl) (hw:swappedStores [tg] e X.env=pure none:=by rfl)
  (h1:(assignEach [tg] X.env).map (·.2)=[assign tg X.env]:=by rfl):PS X (.Assign [tg] e pos) (II te g):=by
 intro pins s σ H D I h;refine wpAny_Assign_stores (eY (he pins s σ H _ I h) λv s1 ⟨x,H1,I1,r1,q1⟩=>?_) hs hw;rw[h1];exact eY (hg pins s1 σ H1 x v _ I1 r1 q1) λ_ s2 q=>q
theorem aY {i:Nat} {x:Str} {e:Expr} {te:TE} {pos':Pos} (hN:X.N.Nodup) (hi:X.N[i]?=some x) (hx:Loc X.env.scope x) (he:PE X e te) (hs:swapsWith e (some (.Name x pos')) pos.line X.env=pure false:=by rfl) (hf:X.fn x=true\/X.env.scope.names.lookup x=some .local:=by first | exact .inl rfl | exact .inr rfl | assumption) :
  PS X (.Assign [.Name x pos'] e pos) (II te (Ep i)):=by
 intro pins s σ H D I h;refine wpAny_Assign_Name (eY (he pins s σ H _ I h) λv s1 ⟨y,H1,I1,r1,q1⟩=>?_) hs;exact oK I1 hN hi hx r1 (λs2 I2=>⟨_,H1,I2,q1⟩) hf
def Ms (i j:Nat) (ta:TA):TS:=λD σ H=>ta σ H λvs H1=>∃v w,vs=[v,w]/\D.nx ((σ.set i (some v)).set j (some w)) H1
theorem GA {i j:Nat} {x y:Str} {a b:Expr} {ta:TA} {px py pt:Pos} {kt k2 pt2} (hc:X.calm=true) (hN:X.N.Nodup) (hi:X.N[i]?=some x) (hj:X.N[j]?=some y) (hij:i≠j)
  (hx:X.env.scope.names.lookup x=some .local) (hy:X.env.scope.names.lookup y=some .local) (ha:PA X [a,b] ta)
  (hw:swappedStores [.Tuple [.Name x px,.Name y py] kt pt] (.Tuple [a,b] k2 pt2) X.env=pure (some [x,y]))
  (hs:swapsWithSole [.Tuple [.Name x px,.Name y py] kt pt] (.Tuple [a,b] k2 pt2) pos.line X.env=pure false:=by rfl) :
  PS X (.Assign [.Tuple [.Name x px,.Name y py] kt pt] (.Tuple [a,b] k2 pt2) pos) (Ms i j ta):=by
 intro pins s σ H D I h;rw[exec_Assign_arm];refine wpAny_bind (wpAny_standAt ?_);rw[hs];refine wpAny_bind (wpAny_pure ?_);rw[if_neg (by decide)];refine wpAny_bind (Tuple_ (eY (ha _ pins s σ H _ I h) λus s1 ⟨vs,H1,I1,r1,q1⟩=>?_));obtain ⟨v,w,e1,q1⟩:=q1;subst e1
 obtain ⟨u1,u2,rfl,rv,rw'⟩:∃u1 u2,us=[u1,u2]/\RelV v u1/\RelV w u2:=by
  cases r1 with
  | cons p q =>
   cases q with
   | cons p' q' =>
    cases q';exact ⟨_,_,rfl,p,p'⟩
 refine wpAny_newObj_type ?_ (by show 2<=sizeLine;decide);have I2:Inv X pins σ H1 { s1 with heap:=s1.heap.push { cls:=.type "tuple",data:=.seq [u1,u2].toArray } }:=I1.kept (t':=s1.toks) λb o e=>Heap.get?_push_of_some _ e
 rw[hw];refine wpAny_bind (wpAny_pure ?_);show wpAny (model X.prog X.w) X.A (do rule "assign.swapped-stores";let items <- unpackItems (.ref s1.heap.objs.size) 2 none;assignInOrder [λv=>bindName X.env y v,λv=>bindName X.env x v] items.reverse;pure Flow.next) _ _ _
 refine wpAny_bind (wpAny_rule (wpAny_bind (unpackItems_tuple (items:=#[u1,u2]) (I.ok.hd hc) (IsTup.new s1.heap _) λh' hx'=>?_)));have I3:=I2.kept (h':=h') (t':=s1.toks) λb o e=>hx' b o (b9 (Heap.lt_size e)) e
 show wpAny _ _ (assignInOrder [λv=>bindName X.env y v,λv=>bindName X.env x v] [u2,u1] >>= λ_=>pure Flow.next) _ _ _
 refine wpAny_bind (assignInOrder_cons (wpAny_bindName (oK I3 hN hj (.inl hy) rw' (λs2 I4=>?_) (.inr hy))));refine assignInOrder_cons (wpAny_bindName (oK I4 hN hi (.inl hx) rv (λs3 I5=>assignInOrder_nil (wpAny_pure ?_)) (.inr hx)));rw[List.set_comm _ _ (Ne.symm hij)] at I5;exact ⟨_,H1,I5,q1⟩
def Ka (to ti te:TE) (tget:V->V->Hp->VK->Prop) (tip:Ni) (tset:DL):TS:=λD σ H=>to σ H λo H1=>ti σ H1 λi H2=>tget o i H2 λx H3=>te σ H3 λy H4=>tip x y H4 λz H5=>tset o i z H5 λH6=>D.nx σ H6
def Nk (X:Cx) (t:V->V->Hp->VK->Prop):Prop :=
 ∀(pins:List (Addr×Obj)) (s:Shared) (σ:St) (H:Hp) (o i:V) (ov iv:Value) (Q:VK),Inv X pins σ H s->RelV o ov->RelV i iv->t o i H Q →
  wpAny (model X.prog X.w) X.A (getItem ov iv) (EP X pins σ Q) X.xe s
theorem Jq {o i e:Expr} {to ti te:TE} {tget:V->V->Hp->VK->Prop} {tip:Ni} {tset:DL} {op:Operator} {tpos:Pos} (ho:PE X o to) (hi:PE X i ti) (hg:Nk X tget) (he:PE X e te) (hp:PIp X op tip) (hs:LZ X tset)
  (ha:∀ov iv new,augStore i ov iv new=(do holding [new,ov,iv] (setItem ov iv new);release [new,ov,iv] [];pure .next):=by intros;rfl):PS X (.AugAssign (.Subscript o i tpos) op e pos) (Ka to ti te tget tip tset):=by
 intro pins s σ H D I h;refine wpAny_AugAssign_SubscriptAny (eY (ho pins s σ H _ I h) λov s1 ⟨x1,H1,I1,r1,q1⟩=>?_) ha;refine eY (hi pins s1 σ H1 _ I1 q1) λiv s2 ⟨x2,H2,I2,r2,q2⟩=>?_
 refine eY (hg pins s2 σ H2 x1 x2 ov iv _ I2 r1 r2 q2) λold s3 ⟨x3,H3,I3,r3,q3⟩=>?_
 refine eY (he pins s3 σ H3 _ I3 q3) λv s4 ⟨x4,H4,I4,r4,q4⟩=>?_
 refine eY (hp pins s4 σ H4 x3 x4 old v _ I4 r3 r4 q4) λnew s5 ⟨x5,H5,I5,r5,q5⟩=>?_
 exact eY (hs pins s5 σ H5 x1 x2 x5 ov iv new _ I5 r1 r2 r5 q5) λ_ s6 ⟨H6,I6,q6⟩=>⟨σ,H6,I6,q6⟩
def ipI (f:Int->Int->Int):Ni:=λx y H Q=>∃i j,x=.int i/\y=.int j/\Q (.int (f i j)) H
theorem LG:PIp X .Add (ipI λi j=>i+j):=by
 intro pins s σ H x y v u Q I r1 r2 h;obtain ⟨i,j,e1,e2,q⟩:=h;subst e1;subst e2;obtain ⟨t,rfl⟩:=r1;obtain ⟨t',rfl⟩:=r2;exact iadd_int ⟨.int _,H,I.tok _,⟨_,rfl⟩,q⟩
end
section
variable {X:Cx} {pos:Pos}
def FX (c:TT) (tb:TS):TS:=λD σ H=>∃W:Nat->St->Hp->Prop,(∃m,W m σ H)/\∀m σ H,W m σ H →
 c σ H λb H1=>if b=true then ∃N:St->Hp->Prop,(∀σ' H',N σ' H'->∃m',m' < m/\W m' σ' H')/\tb { D with nx:=N,ct:=N,bk:=D.nx } σ H1 else D.nx σ H1
theorem Cf (hp:PassesOwn (model X.prog X.w) X.A X.env X.xe) (hc:PT X c tc) (hb:Bj X body tb):PS X (.While c body [] pos) (FX tc tb):=by
 intro pins s σ H D I h;obtain ⟨W,⟨m0,w0⟩,turn⟩:=h;refine wpAny_While (codeAny_whileLoop (λn s'=>∃σ' H',Inv X pins σ' H' s'/\W n σ' H') ?_ m0 ⟨σ,H,I,w0⟩);rintro n s1 ⟨σ1,H1,I1,w1⟩;refine wpAny_passesOwn hp (eY (hc pins s1 σ1 H1 _ I1 (turn n σ1 H1 w1)) λb s2 ⟨H2,I2,q2⟩=>?_);cases b with
 | true =>
  obtain ⟨N,hN,q2⟩:=q2;rw[if_pos rfl];refine wpAny_passesOwn hp (eY (hb pins s2 σ1 H2 _ I2 q2) λf s3 q3=>?_);cases f with
  | next =>
   obtain ⟨σ3,H3,I3,n3⟩:=q3;obtain ⟨m',hm,w3⟩:=hN σ3 H3 n3;exact ⟨m',hm,σ3,H3,I3,w3⟩
  | cont =>
   obtain ⟨σ3,H3,I3,n3⟩:=q3;obtain ⟨m',hm,w3⟩:=hN σ3 H3 n3;exact ⟨m',hm,σ3,H3,I3,w3⟩
  | brk=>exact q3
  | ret v=>exact q3
 | false =>
  rw[if_neg br];exact wpAny_execs_nil ⟨σ1,H2,I2,q2⟩
end
structure It where
 go:Nat->Hp->Prop
 yld:Nat->Hp->V->Hp->Prop
 stop:Nat->Hp->Prop
def jo (X:Cx) (pins:List (Addr×Obj)) (H:Hp) (b:Addr):Prop :=
 H b=none/\b≠X.env.locals/\b∉X.fs/\(b∈X.ex\/X.s₀.heap.objs.size<=b)/\(∀x c,X.env.cells.lookup x=some c->c≠b)/\∀p∈X.pn++pins,p.1≠b
theorem Inv.fpOk {σ:St} {b:Addr} (I:Inv X pins σ H s) (hb:s.heap.objs.size<=b) (hn:H' b=none):jo X pins H' b:=by
 refine ⟨hn,EI (ba I.lt hb),I.nofs hb,.inr (ar I.sz hb),λx c e z=>?_,λp hp z=>?_⟩
 ·obtain ⟨v,q⟩:=I.cell x c e;exact absurd (ba q.lt (by rw[z];exact hb)) (dZ _)
 ·exact absurd (ba (Heap.lt_size (I.pin p hp).1) (by rw[z];exact hb)) (dZ _)
structure Turn (P:Program) (w:World) (K:FG9) (tg:Expr) (J:It) (fp:List Addr) (it:Addr) (tn:Nat->Heap->Prop):Prop where
 mem:it∈fp
 obj:∀i h,tn i h->∀b∈fp,∃o,h.get? b=some o/\∀v,o.data≠.cell v
 keep:∀i h h',tn i h->(∀b∈fp,∀o,h.get? b=some o->h'.get? b=some o)->tn i h'
 item:∀(X:Cx),X.prog=P->X.w=w->X.K=K->X.calm=true->∀(i:Nat) (pins:List (Addr×Obj)) (s:Shared) (σ:St) (H:Hp) (E:Value->Shared->Prop),Inv X pins σ H s->(∀b∈fp,jo X pins H b)->tn i s.heap->J.go i H →
  wpAny (model P w) X.A (pyNext (.ref it)) (λr s1=>∃u,r=some u /\
   wpAny (model P w) X.A (letOwnedTupleGo tg (.ref it) u) (λ_ s2=>∃x H',Inv X pins σ H' s2/\RelV x u/\J.yld i H x H'/\tn (i+1) s2.heap/\∀b∈fp,H' b=none) E s1) E s
 done:∀(X:Cx),X.prog=P->X.w=w->X.K=K->X.calm=true->∀(i:Nat) (pins:List (Addr×Obj)) (s:Shared) (σ:St) (H:Hp) (E:Value->Shared->Prop),Inv X pins σ H s->(∀b∈fp,jo X pins H b)->tn i s.heap->J.stop i H →
  wpAny (model P w) X.A (pyNext (.ref it)) (λr s1=>r=none/\Inv X pins σ H s1) E s
 self:∀(A:Around) (i:Nat) (s:Shared) (Q:Value->Shared->Prop) (E:Value->Shared->Prop),tn i s.heap->Q (.ref it) s->wpAny (model P w) A (pyIter (.ref it)) Q E s
abbrev TI:=St->Hp->(It->Hp->Prop)->Prop
def PIE (X:Cx) (pins:List (Addr×Obj)) (σ:St) (tg:Expr) (R:It->Hp->Prop) (itv:Value) (s2:Shared):Prop :=
 ∃(it:Addr) (fp:List Addr) (tn:Nat->Heap->Prop) (J:It) (H':Hp),itv=.ref it/\Inv X pins σ H' s2/\Turn X.prog X.w X.K tg J fp it tn/\tn 0 s2.heap/\(∀b∈fp,jo X pins H' b)/\R J H'
def PI (X:Cx) (tg iter:Expr) (wi:TI):Prop :=
 ∀(pins:List (Addr×Obj)) (s:Shared) (σ:St) (H:Hp) (R:It->Hp->Prop),Inv X pins σ H s->wi σ H R →
  wpAny (model X.prog X.w) X.A (eval iter X.env) (λv s1=>wpAny (model X.prog X.w) X.A (pyIter v) (PIE X pins σ tg R) X.xe s1) X.xe s
theorem HG (ho:s.heap.get? it=some o) (hc:o.cls=.type n) (hd:o.data=.fields vs)
  (hn:["enumerate","zip","dict_itemiterator","dict_reverseitemiterator","odict_iterator","itertools.zip_longest","itertools.pairwise"].contains n=false) (hQ:Q () s):wpAny M A (letOwnedTupleGo tg (.ref it) u) Q E s:=by
 unfold letOwnedTupleGo
 cases tg <;> first
  | exact wpAny_pure hQ
  | (cases u <;> first | exact wpAny_pure hQ | (refine wpAny_bind (wpAny_load ho ?_);rw[hc,hd];show wpAny M A (if (["enumerate","zip","dict_itemiterator","dict_reverseitemiterator","odict_iterator","itertools.zip_longest","itertools.pairwise"].contains n && vs[0]? == some (rawInt _))=true then _ else _) Q E s;rw[if_neg (by intro h;rw[hn,Bool.false_and] at h;cases h)];exact wpAny_pure hQ))
def JW (K:FG9) (a:Addr):It :=
 ⟨λi H=>∃xs x,bD K H a xs/\xs[i]?=some x,λi H x H'=>H'=H/\∀xs,bD K H a xs->xs[i]?=some x,λi H=>∃xs,bD K H a xs/\xs.length<=i⟩
def Mf (K:FG9) (a:Addr):It :=
 ⟨λi H=>∃xs x,kz K H a xs/\xs[i]?=some x,λi H x H'=>H'=H/\∀xs,kz K H a xs->xs[i]?=some x,λi H=>∃xs,kz K H a xs/\xs.length<=i⟩
def CT (lo:Int) (n:Nat):It:=⟨λi _=>i < n,λi H x H'=>H'=H/\x=.int (lo+i),λi _=>n<=i⟩
theorem EO {P:Program} {w:World} {K:FG9} {tg:Expr} (a it:Addr):Turn P w K tg (JW K a) [it] it (λi h=>h.IsListIter it a i) where
 mem:=by simp
 obj:=λi h st b hb=>by
  have e:b=it:=by simpa using hb
  subst e;obtain ⟨o,e,c,d⟩:=st;exact ⟨o,e,λv z=>by rw[d] at z;cases z⟩
 keep:=λi h h' st k=>st.at λo e=>k it (by simp) o e
 item:=by
  intro X hP hw hK hc i pins s σ H E I hf st hg;subst hP hw hK;obtain ⟨xs,x,hq,hx⟩:=hg;obtain ⟨its,rv,p,hz⟩:=I.list hq;obtain ⟨u,hu,ru⟩:=rv.get hx;obtain ⟨f0,f1,f2,f3,f4,f5⟩:=hf it (by simp);refine wpAny_pyNext_list_item st p.isList (x:=u) (by simpa using hu) λh' st' sb=>?_
  have I1:Inv X pins σ H { s with heap:=h' }:=I.turned (t':=s.toks) (λb o hb e=>(sb.2 b hb).trans e) f0 f1 f3 f4 f5;obtain ⟨o,e,c,d⟩:=id st';exact ⟨u,rfl,HG (s:={ s with heap:=h' }) e c d (by decide) ⟨x,H,I1,ru,⟨rfl,λys hy=>by rw[I.list_inj hy hq];exact hx⟩,st',λb hb=>(hf b hb).1⟩⟩
 done:=by
  intro X hP hw hK hc i pins s σ H E I hf st hg;subst hP hw hK;obtain ⟨xs,hq,hx⟩:=hg;obtain ⟨its,rv,p,hz⟩:=I.list hq;obtain ⟨f0,f1,f2,f3,f4,f5⟩:=hf it (by simp);have hl:=rv.length;exact wpAny_pyNext_list_end (I.ok.hd hc) st p.isList (by simp;lia) λh' eb=>⟨rfl,I.turned (t':=s.toks) (λb o hb e=>eb b o hb e) f0 f1 f3 f4 f5⟩
 self:=λ_ _ _ _ _ st h=>wpAny_pyIter_listiter st h
theorem C3 {P:Program} {w:World} {K:FG9} {tg:Expr} (a it:Addr):Turn P w K tg (Mf K a) [it] it (λi h=>h.IsTupleIter it a i) where
 mem:=by simp
 obj:=λi h st b hb=>by
  have e:b=it:=by simpa using hb
  subst e;obtain ⟨o,e,c,d⟩:=st;exact ⟨o,e,λv z=>by rw[d] at z;cases z⟩
 keep:=λi h h' st k=>st.at λo e=>k it (by simp) o e
 item:=by
  intro X hP hw hK hc i pins s σ H E I hf st hg;subst hP hw hK;obtain ⟨xs,x,hq,hx⟩:=hg;obtain ⟨its,rv,p,hz⟩:=I.tuple hq;obtain ⟨u,hu,ru⟩:=rv.get hx;obtain ⟨f0,f1,f2,f3,f4,f5⟩:=hf it (by simp);refine wpAny_pyNext_tuple_item st (show s.heap.IsTuple a its.toArray from p) (x:=u) (by simpa using hu) λh' st' sb=>?_
  have I1:Inv X pins σ H { s with heap:=h' }:=I.turned (t':=s.toks) (λb o hb e=>(sb.2 b hb).trans e) f0 f1 f3 f4 f5;obtain ⟨o,e,c,d⟩:=id st';exact ⟨u,rfl,HG (s:={ s with heap:=h' }) e c d (by decide) ⟨x,H,I1,ru,⟨rfl,λys hy=>by rw[I.tuple_inj hy hq];exact hx⟩,st',λb hb=>(hf b hb).1⟩⟩
 done:=by
  intro X hP hw hK hc i pins s σ H E I hf st hg;subst hP hw hK;obtain ⟨xs,hq,hx⟩:=hg;obtain ⟨its,rv,p,hz⟩:=I.tuple hq;obtain ⟨f0,f1,f2,f3,f4,f5⟩:=hf it (by simp);have hl:=rv.length;exact wpAny_pyNext_tuple_end (I.ok.hd hc) st (show s.heap.IsTuple a its.toArray from p) (by simp;lia) λh' eb=>⟨rfl,I.turned (t':=s.toks) (λb o hb e=>eb b o hb e) f0 f1 f3 f4 f5⟩
 self:=λ_ _ _ _ _ st h=>wpAny_pyIter_tupleiter st h
theorem C4 {P:Program} {w:World} {K:FG9} {tg:Expr} (it:Addr) (lo:Int) (n:Nat):Turn P w K tg (CT lo n) [it] it (λi h=>IsRangeIter h it (lo+(i:Nat)*1) ((n:Int) - (i:Nat)) 1) where
 mem:=by simp
 obj:=λi h st b hb=>by
  have e:b=it:=by simpa using hb
  subst e
  exact ⟨_,st,λv z=>by
   have z':Data.fields _=Data.cell v:=z;cases z'⟩
 keep:=λi h h' st k=>k it (by simp) _ st
 item:=by
  intro X hP hw hK hc i pins s σ H E I hf st hg;subst hP hw hK;obtain ⟨f0,f1,f2,f3,f4,f5⟩:=hf it (by simp);have W:=Walks.range (prog:=X.prog) (w:=X.w) (I.ok.hd hc) it lo 1 n;refine W.item i s _ _ hg st λv h' tk hv st' kk=>?_
  obtain ⟨t,rfl⟩:=hv;have I1:Inv X pins σ H { s with heap:=h',toks:=tk }:=I.turned (λb o hb e=>kk b o (by simpa using hb) e) f0 f1 f3 f4 f5;refine ⟨_,rfl,HG (s:={ s with heap:=h',toks:=tk }) (n:="range_iterator") st' rfl rfl (by decide) ⟨.int (lo+i),H,I1,⟨t,?_⟩,⟨rfl,rfl⟩,st',λb hb=>(hf b hb).1⟩⟩;rw[Int.mul_one]
 done:=by
  intro X hP hw hK hc i pins s σ H E I hf st hg;subst hP hw hK;obtain ⟨f0,f1,f2,f3,f4,f5⟩:=hf it (by simp);exact wpAny_pyNext_range_end (I.ok.hd hc) st (by have:n<=i:=hg;lia) λh' eb=>⟨rfl,I.turned (t':=s.toks) (λb o hb e=>eb b o hb e) f0 f1 f3 f4 f5⟩
 self:=λ_ _ _ _ _ st h=>wpAny_pyIter_rangeiter st h
section
variable {X:Cx} {tg:Expr}
def HE (K:FG9) (tl:TE):TI:=λσ H R=>tl σ H λx H1=>∃a,x=.ref a/\(∃xs,bD K H1 a xs)/\R (JW K a) H1
def Na (K:FG9) (tl:TE):TI:=λσ H R=>tl σ H λx H1=>∃a,x=.ref a/\(∃xs,kz K H1 a xs)/\R (Mf K a) H1
theorem cb (hl:PE X l tl):PI X tg l (HE X.K tl):=by
 intro pins s σ H R I h;refine eY (hl pins s σ H _ I h) λv s1 ⟨x,H1,I1,r1,q1⟩=>?_
 obtain ⟨a,e,⟨xs,hq⟩,q⟩:=q1;subst e;cases r1;obtain ⟨its,rv,p,hz⟩:=I1.list hq;refine wpAny_pyIter_list p.isList ?_;refine ⟨s1.heap.objs.size,[s1.heap.objs.size],_,_,H1,rfl,I1.kept (t':=s1.toks) λb o e=>Heap.get?_push_of_some _ e,EO a _,⟨_,Heap.get?_push_size _ rfl,rfl,rfl⟩,λb hb=>?_,q⟩;have e:b=s1.heap.objs.size:=by simpa using hb
 subst e;exact I1.fpOk (av _) (I1.hok.fresh (av _))
theorem Lm (hl:PE X l tl):PI X tg l (Na X.K tl):=by
 intro pins s σ H R I h;refine eY (hl pins s σ H _ I h) λv s1 ⟨x,H1,I1,r1,q1⟩=>?_
 obtain ⟨a,e,⟨xs,hq⟩,q⟩:=q1;subst e;cases r1;obtain ⟨its,rv,p,hz⟩:=I1.tuple hq;refine wpAny_pyIter_tuple (show s1.heap.IsTuple a its.toArray from p) ?_;refine ⟨s1.heap.objs.size,[s1.heap.objs.size],_,_,H1,rfl,I1.kept (t':=s1.toks) λb o e=>Heap.get?_push_of_some _ e,C3 a _,⟨_,Heap.get?_push_size _ rfl,rfl,rfl⟩,λb hb=>?_,q⟩;have e:b=s1.heap.objs.size:=by simpa using hb
 subst e;exact I1.fpOk (av _) (I1.hok.fresh (av _))
theorem Cc {σ:St} {lo hi:Int} (I:Inv X pins σ H s) (h1:-(2^62)<=lo) (h2:lo < 2^62) (h3:-(2^62)<=hi) (h4:hi < 2^62)
  (q:R (CT lo (hi - lo).toNat) H):wpAny (model X.prog X.w) X.A (pyIter (.ref s.heap.objs.size)) (PIE X pins σ tg R) E { s with heap:=s.heap.push { cls:=.type "range",data:=.fields #[.int lo t,.int hi u,.int 1 v] },toks:=tk }:=by
 refine wpAny_pyIter_range (IsRange.new ..) (small_one h1 h2 h3 h4) ?_;have I1:Inv X pins σ H { s with heap:=s.heap.push { cls:=.type "range",data:=.fields #[.int lo t,.int hi u,.int 1 v] },toks:=tk }:=I.kept λb o e=>Heap.get?_push_of_some _ e
 refine ⟨(s.heap.push { cls:=.type "range",data:=.fields #[.int lo t,.int hi u,.int 1 v] }).objs.size,[(s.heap.push { cls:=.type "range",data:=.fields #[.int lo t,.int hi u,.int 1 v] }).objs.size],_,_,H,rfl,
  I1.kept (t':=tk) λb o e=>Heap.get?_push_of_some _ e,C4 _ lo (hi - lo).toNat,?_,λb hb=>?_,q⟩
 ·have e1:lo+((0:Nat):Int)*1=lo:=by simp
  have e2:(((hi - lo).toNat:Nat):Int) - ((0:Nat):Int)=Builtin.Range.rangeSize lo hi 1:=by rw[rangeSize_one];split <;> lia
  show IsRangeIter _ _ (lo+((0:Nat):Int)*1) ((((hi - lo).toNat:Nat):Int) - ((0:Nat):Int)) 1
  rw[e1,e2];exact Heap.get?_push_size _ rfl
 ·have e:b=(s.heap.push { cls:=.type "range",data:=.fields #[.int lo t,.int hi u,.int 1 v] }).objs.size:=by simpa using hb
  subst e;exact I1.fpOk (av _) (I1.hok.fresh (av _))
def Km (ta:TA):TI:=λσ H R=>ta σ H λvs H1=>∃j:Int,vs=[.int j]/\-(2^62)<=j/\j < 2^62/\R (CT 0 j.toNat) H1
def Kl (ta:TA):TI:=λσ H R=>ta σ H λvs H1=>∃i j:Int,vs=[.int i,.int j]/\(-(2^62)<=i/\i < 2^62/\-(2^62)<=j/\j < 2^62)/\R (CT i (j - i).toNat) H1
theorem bP {a:Expr} {ta:TA} {p pos:Pos} (hg:Gl X "range") (hm:X.mg "range"=none) (ha:PA X [a] ta) (hs:starEach [a] X.env=[(false,eval a X.env)]:=by rfl):PI X tg (.Call (.Name "range" p) [a] [] pos) (Km ta):=by
 intro pins s σ H R I h;refine Call_ (gW I hg hm boot_range (PyProof.Rows.callWith_type1 (eY (ha pos pins s σ H _ I h) λus s1 ⟨vs,H1,I1,r1,q1⟩=>?_) hs rfl));obtain ⟨j,e,q1,q2,q⟩:=q1;subst e;cases r1 with
 | cons r rr =>
  cases rr;obtain ⟨t,rfl⟩:=r;exact call_range_1 (Cc I1 (by lia) (by lia) q1 q2 (by simpa using q))
theorem Fc {a b:Expr} {ta:TA} {p pos:Pos} (hg:Gl X "range") (hm:X.mg "range"=none) (ha:PA X [a,b] ta) (hs:starEach [a,b] X.env=[(false,eval a X.env),(false,eval b X.env)]:=by rfl) (hs2:starEach [b] X.env=[(false,eval b X.env)]:=by rfl) :
  PI X tg (.Call (.Name "range" p) [a,b] [] pos) (Kl ta):=by
 intro pins s σ H R I h;refine Call_ (gW I hg hm boot_range (PyProof.Rows.callWith_type1 (eY (ha pos pins s σ H _ I h) λus s1 ⟨vs,H1,I1,r1,q1⟩=>?_) (by rw[hs,hs2]) (by rw[hs2];rfl)));obtain ⟨i,j,e,⟨q1,q2,q3,q4⟩,q⟩:=q1;subst e;cases r1 with
 | cons r rr =>
  cases rr with
  | cons r' rr =>
   cases rr;obtain ⟨t,rfl⟩:=r;obtain ⟨t',rfl⟩:=r';exact call_range_2 (Cc I1 q1 q2 q3 q4 q)
def Mx (wi:TI) (g:TG) (tb:TS):TS:=λD σ H=>wi σ H λJ H1=>∃W:Nat->Nat->St->Hp->Prop,(∃m,W 0 m σ H1)/\∀i m σ H,W i m σ H →
 (J.stop i H/\D.nx σ H)\/(J.go i H/\∃N:St->Hp->Prop,(∀σ' H',N σ' H'->∃m',m' < m/\W (i+1) m' σ' H')/\∀x H',J.yld i H x H'->g x σ H' λσ2 H2=>tb { D with nx:=N,ct:=N,bk:=D.nx } σ2 H2)
def xx (fp:List Addr) (h:Heap):List (Addr×Obj):=fp.filterMap λb=>(h.get? b).map λo=>(b,o)
theorem nU (hb:b∈fp) (e:h.get? b=some o):(b,o)∈xx fp h:=CV.mpr ⟨b,hb,by rw[e];rfl⟩
theorem Ff (hp:p∈xx fp h):p.1∈fp/\h.get? p.1=some p.2:=by
 obtain ⟨b,hb,e⟩:=CV.mp hp;cases q:h.get? b with
 | none=>rw[q] at e;cases e
 | some o =>
  rw[q] at e;have e':(b,o)=p:=bR e;subst e';exact ⟨hb,q⟩
theorem Inv.pinned {σ:St} (I:Inv X pins σ H s) (hf:∀b∈fp,jo X pins H b) (ho:∀b∈fp,∃o,s.heap.get? b=some o/\∀v,o.data≠.cell v):Inv X (pins++xx fp s.heap) σ H s :=
 I.pins_of λp hp=>(ax.mp hp).elim (λz=>I.pin p (bI _ z)) λz=>by
  obtain ⟨hb,e⟩:=Ff z;obtain ⟨f0,f1,f2,_⟩:=hf p.1 hb;obtain ⟨o,e',d⟩:=ho p.1 hb;rw[e] at e';cases e';exact ⟨e,f0,f1,f2,d⟩
theorem Inv.unpinned {σ:St} (I:Inv X (pins++pl) σ H s):Inv X pins σ H s:=I.pins_of λp hp=>I.pin p (bI _ (fG _ hp))
theorem dD {iter:Expr} {body:List Stmt} {wi:TI} {g:TG} {tb:TS} {pos:Pos} (hp:PassesOwn (model X.prog X.w) X.A X.env X.xe) (hc:X.calm=true) (hi:PI X tg iter wi) (hg:PG X tg g) (hb:Bj X body tb)
  (hs:∀x,foldedSetIterable iter X.env x=pure x:=by intro _;rfl):PS X (.For tg iter body [] pos) (Mx wi g tb):=by
 intro pins s σ H D I h;refine wpAny_For (eY (hi pins s σ H _ I h) λv s1 h1=>eY h1 λitv s2 h2=>?_) hs;obtain ⟨it,fp,tn,J,H2,e,I2,T,st2,f2,W,⟨m0,w0⟩,turn⟩:=h2;subst e;have stat:∀{H':Hp},(∀b∈fp,H' b=none)->∀b∈fp,jo X pins H' b:=λhn b hb=>⟨hn b hb,(f2 b hb).2⟩
 refine codeAny_forLoop_any (λn s'=>∃i σ' H',Inv X pins σ' H' s'/\tn i s'.heap/\(∀b∈fp,H' b=none)/\W i n σ' H') ?_ m0 ⟨0,σ,H2,I2,st2,λb hb=>(f2 b hb).1,w0⟩;rintro n s3 ⟨i,σ3,H3,I3,st3,fr3,w3⟩;rcases turn i n σ3 H3 w3 with ⟨stop,qn⟩ | ⟨go,N,hN,step⟩
 ·refine wpAny_passesOwn hp (eY (T.done X rfl rfl rfl hc i pins s3 σ3 H3 X.xe I3 (stat fr3) st3 stop) λr s4 ⟨hr,I4⟩=>?_);subst hr;exact wpAny_execs_nil ⟨σ3,H3,I4,qn⟩
 ·refine wpAny_passesOwn hp (eY (T.item X rfl rfl rfl hc i pins s3 σ3 H3 X.xe I3 (stat fr3) st3 go) λr s4 ⟨u,hr,h4⟩=>?_);subst hr;refine wpAny_passesOwn hp (eY h4 λ_ s5 ⟨x,H5,I5,r5,y5,st5,fr5⟩=>?_);have I5':=I5.pinned (stat fr5) (T.obj _ _ st5);refine wpAny_passesOwn hp (eY (hg _ s5 σ3 H5 x u _ I5' r5 (step x H5 y5)) λ_ s6 ⟨σ6,H6,I6,q6⟩=>?_);refine wpAny_passesOwn hp (eY (hb _ s6 σ6 H6 _ I6 q6) λf s7 q7=>?_)
  have again:∀{σ7:St} {H7:Hp},Inv X (pins++xx fp s5.heap) σ7 H7 s7->N σ7 H7->∃m,m < n/\∃i σ' H',Inv X pins σ' H' s7/\tn i s7.heap/\(∀b∈fp,H' b=none)/\W i m σ' H':=λ{σ7 H7} I7 n7=>by
   obtain ⟨m',hm,w7⟩:=hN σ7 H7 n7;refine ⟨m',hm,i+1,σ7,H7,I7.unpinned,T.keep _ _ _ st5 λb hb o e=>(I7.pin (b,o) (bI _ (bI _ (nU hb e)))).1,λb hb=>?_,w7⟩;obtain ⟨o,e,d⟩:=T.obj _ _ st5 b hb;exact (I7.pin (b,o) (bI _ (bI _ (nU hb e)))).2.1
  cases f with
  | next=>obtain ⟨σ7,H7,I7,n7⟩:=q7;exact again I7 n7
  | cont=>obtain ⟨σ7,H7,I7,n7⟩:=q7;exact again I7 n7
  | brk=>obtain ⟨σ7,H7,I7,q7⟩:=q7;exact ⟨σ7,H7,I7.unpinned,q7⟩
  | ret v=>obtain ⟨x7,σ7,H7,I7,r7,q7⟩:=q7;exact ⟨x7,σ7,H7,I7.unpinned,r7,q7⟩
end
theorem jH {K:FG9} {g:TG} {tb:TS} {D:Ends} (Pv:Nat->St->Hp->Prop) (h0:Pv 0 σ H) (hl:∀i σ H,i<=xs.length->Pv i σ H->bD K H a xs)
  (hs:∀i x σ H,xs[i]?=some x->Pv i σ H->g x σ H λσ2 H2=>tb { D with nx:=Pv (i+1),ct:=Pv (i+1),bk:=D.nx } σ2 H2) (hd:∀σ H,Pv xs.length σ H->D.nx σ H) :
  ∃W:Nat->Nat->St->Hp->Prop,(∃m,W 0 m σ H)/\∀i m σ H,W i m σ H →
   ((JW K a).stop i H/\D.nx σ H)\/((JW K a).go i H/\∃N:St->Hp->Prop,(∀σ' H',N σ' H'->∃m',m' < m/\W (i+1) m' σ' H')/\∀x H',(JW K a).yld i H x H'->g x σ H' λσ2 H2=>tb { D with nx:=N,ct:=N,bk:=D.nx } σ2 H2):=by
 refine ⟨λi m σ H=>m=xs.length - i/\i<=xs.length/\Pv i σ H,⟨xs.length,by simp,bH _,h0⟩,?_⟩;rintro i m σ H ⟨rfl,hi,p⟩;have q:=hl i σ H hi p;by_cases hlt:i < xs.length
 ·refine .inr ⟨⟨xs,xs[i],q,by simp [hlt]⟩,Pv (i+1),λσ' H' p'=>⟨xs.length - (i+1),by lia,rfl,hlt,p'⟩,λx H' y=>?_⟩;obtain ⟨e,y⟩:=y;subst e;exact hs i x σ _ (y xs q) p
 ·have e:i=xs.length:=by lia
  subst e;exact .inl ⟨⟨xs,q,av _⟩,hd σ H p⟩
theorem JC {K:FG9} {g:TG} {tb:TS} {D:Ends} (Pv:Nat->St->Hp->Prop) (h0:Pv 0 σ H) (hl:∀i σ H,i<=xs.length->Pv i σ H->kz K H a xs)
  (hs:∀i x σ H,xs[i]?=some x->Pv i σ H->g x σ H λσ2 H2=>tb { D with nx:=Pv (i+1),ct:=Pv (i+1),bk:=D.nx } σ2 H2) (hd:∀σ H,Pv xs.length σ H->D.nx σ H) :
  ∃W:Nat->Nat->St->Hp->Prop,(∃m,W 0 m σ H)/\∀i m σ H,W i m σ H →
   ((Mf K a).stop i H/\D.nx σ H)\/((Mf K a).go i H/\∃N:St->Hp->Prop,(∀σ' H',N σ' H'->∃m',m' < m/\W (i+1) m' σ' H')/\∀x H',(Mf K a).yld i H x H'->g x σ H' λσ2 H2=>tb { D with nx:=N,ct:=N,bk:=D.nx } σ2 H2):=by
 refine ⟨λi m σ H=>m=xs.length - i/\i<=xs.length/\Pv i σ H,⟨xs.length,by simp,bH _,h0⟩,?_⟩;rintro i m σ H ⟨rfl,hi,p⟩;have q:=hl i σ H hi p;by_cases hlt:i < xs.length
 ·refine .inr ⟨⟨xs,xs[i],q,by simp [hlt]⟩,Pv (i+1),λσ' H' p'=>⟨xs.length - (i+1),by lia,rfl,hlt,p'⟩,λx H' y=>?_⟩;obtain ⟨e,y⟩:=y;subst e;exact hs i x σ _ (y xs q) p
 ·have e:i=xs.length:=by lia
  subst e;exact .inl ⟨⟨xs,q,av _⟩,hd σ H p⟩
theorem zu {lo:Int} {g:TG} {tb:TS} {D:Ends} (Pv:Nat->St->Hp->Prop) (h0:Pv 0 σ H)
  (hs:∀i σ H,i < n->Pv i σ H->g (.int (lo+i)) σ H λσ2 H2=>tb { D with nx:=Pv (i+1),ct:=Pv (i+1),bk:=D.nx } σ2 H2) (hd:∀σ H,Pv n σ H->D.nx σ H) :
  ∃W:Nat->Nat->St->Hp->Prop,(∃m,W 0 m σ H)/\∀i m σ H,W i m σ H →
   ((CT lo n).stop i H/\D.nx σ H)\/((CT lo n).go i H/\∃N:St->Hp->Prop,(∀σ' H',N σ' H'->∃m',m' < m/\W (i+1) m' σ' H')/\∀x H',(CT lo n).yld i H x H'->g x σ H' λσ2 H2=>tb { D with nx:=N,ct:=N,bk:=D.nx } σ2 H2):=by
 refine ⟨λi m σ H=>m=n - i/\i<=n/\Pv i σ H,⟨n,by simp,bH _,h0⟩,?_⟩;rintro i m σ H ⟨rfl,hi,p⟩;by_cases hlt:i < n
 ·refine .inr ⟨hlt,Pv (i+1),λσ' H' p'=>⟨n - (i+1),by lia,rfl,hlt,p'⟩,λx H' y=>?_⟩;obtain ⟨e,y⟩:=y;subst e y;exact hs i σ _ hlt p
 ·have e:i=n:=by lia
  subst e;exact .inl ⟨av _,hd σ H p⟩
abbrev R2:=V->V->Hp->VK->Prop
def wC (X:Cx) (f:Value->Value->Sem Value) (r:R2):Prop :=
 ∀(pins:List (Addr×Obj)) (s:Shared) (σ:St) (H:Hp) (x y:V) (v u:Value) (Q:VK),Inv X pins σ H s->RelV x v->RelV y u->r x y H Q →
  wpAny (model X.prog X.w) X.A (f v u) (EP X pins σ Q) X.xe s
def NT (X:Cx) (f:Value->Sem Value) (r:V->Hp->VK->Prop):Prop :=
 ∀(pins:List (Addr×Obj)) (s:Shared) (σ:St) (H:Hp) (x:V) (v:Value) (Q:VK),Inv X pins σ H s->RelV x v->r x H Q →
  wpAny (model X.prog X.w) X.A (f v) (EP X pins σ Q) X.xe s
def mH (X:Cx) (f:Value) (r:List V->Hp->VK->Prop):Prop :=
 ∀(pins:List (Addr×Obj)) (s:Shared) (σ:St) (H:Hp) (xs:List V) (us:List Value) (Q:VK),Inv X pins σ H s->cp xs us->r xs H Q →
  wpAny (model X.prog X.w) X.A (call f us) (EP X pins σ Q) X.xe s
def Mt (r:R2) (ta tb:TE):TE:=λσ H Q=>ta σ H λx H1=>tb σ H1 λy H2=>r x y H2 Q
def Mc (r:V->Hp->VK->Prop) (ta:TE):TE:=λσ H Q=>ta σ H λx H1=>r x H1 Q
def rI (C:Int->Int->Prop) (g:Int->Int->V):R2:=λx y H Q=>∃i j,x=.int i/\y=.int j/\C i j/\Q (g i j) H
def Kf (g:Int->Int->V):R2:=λx y H Q=>∃i j,x=.int i/\y=.int j/\Q (g i j) H
def rU (g:Int->V):V->Hp->VK->Prop:=λx H Q=>∃i,x=.int i/\Q (g i) H
section
variable {X:Cx} {a b c:Expr} {ta tb tc:TE} {pos:Pos}
theorem LY (ha:PE X a ta) (hb:PE X b tb) {σ:St} {R:V->V->Hp->Prop} (I:Inv X pins σ H s)
  (h:ta σ H λx H1=>tb σ H1 λy H2=>R x y H2) {f:Value->Value->Sem Value}
  (hf:∀v u s2 x y H2,Inv X pins σ H2 s2->RelV x v->RelV y u->R x y H2->wpAny (model X.prog X.w) X.A (f v u) Q X.xe s2) :
  wpAny (model X.prog X.w) X.A (eval a X.env) (λv s₁=>wpAny (model X.prog X.w) X.A (eval b X.env) (λu s₂=>wpAny (model X.prog X.w) X.A (f v u) Q X.xe s₂) X.xe s₁) X.xe s:=by
 refine eY (ha pins s σ H _ I h) λv s1 ⟨x,H1,I1,r1,q1⟩=>?_
 refine eY (hb pins s1 σ H1 _ I1 q1) λu s2 ⟨y,H2,I2,r2,q2⟩=>?_
 exact hf v u s2 x y H2 I2 r1 r2 q2
theorem bA (ho:wC X (binaryOp op) r) (ha:PE X a ta) (hb:PE X b tb):PE X (.BinOp a op b pos) (Mt r ta tb):=by
 intro pins s σ H Q I h;exact wpAny_BinOp (LY ha hb I h λv u s2 x y H2 I2 rx ry q=>ho pins s2 σ H2 x y v u Q I2 rx ry q)
theorem Cj (ho:NT X (unaryOp op) r) (ha:PE X a ta):PE X (.UnaryOp op a pos) (Mc r ta):=by
 intro pins s σ H Q I h;exact UnaryOp_ (eY (ha pins s σ H _ I h) λv s1 ⟨x,H1,I1,r1,q1⟩=>ho pins s1 σ H1 x v Q I1 r1 q1)
theorem Ny {g:Int->Int->Int}
  (rule:∀(i j:Int) (t u:Tok) (s:Shared) (Q:Value->Shared->Prop) (E:Value->Shared->Prop),C i j->Q (.int (g i j) s.toks) { s with toks:=s.toks+1 }->wpAny (model X.prog X.w) X.A (f (.int i t) (.int j u)) Q E s) :
  wC X f (rI C λi j=>.int (g i j)):=by
 intro pins s σ H x y v u Q I rx ry h;obtain ⟨i,j,rfl,rfl,hc,q⟩:=h;obtain ⟨t,rfl⟩:=rx;obtain ⟨t',rfl⟩:=ry;exact rule i j t t' s _ _ hc ⟨.int (g i j),H,I.tok _,⟨_,rfl⟩,q⟩
theorem MW {g:Int->Int->Int}
  (rule:∀(i j:Int) (t u:Tok) (s:Shared) (Q:Value->Shared->Prop) (E:Value->Shared->Prop),Q (.int (g i j) s.toks) { s with toks:=s.toks+1 }->wpAny (model X.prog X.w) X.A (f (.int i t) (.int j u)) Q E s) :
  wC X f (Kf λi j=>.int (g i j)):=by
 intro pins s σ H x y v u Q I rx ry h;obtain ⟨i,j,rfl,rfl,q⟩:=h;obtain ⟨t,rfl⟩:=rx;obtain ⟨t',rfl⟩:=ry;exact rule i j t t' s _ _ ⟨.int (g i j),H,I.tok _,⟨_,rfl⟩,q⟩
theorem Lr {g:Int->Int->Bool}
  (rule:∀(i j:Int) (t u:Tok) (s:Shared) (Q:Value->Shared->Prop) (E:Value->Shared->Prop),Q (.bool (g i j)) s->wpAny (model X.prog X.w) X.A (f (.int i t) (.int j u)) Q E s) :
  wC X f (Kf λi j=>.bl (g i j)):=by
 intro pins s σ H x y v u Q I rx ry h;obtain ⟨i,j,rfl,rfl,q⟩:=h;obtain ⟨t,rfl⟩:=rx;obtain ⟨t',rfl⟩:=ry;exact rule i j t t' s _ _ ⟨.bl (g i j),H,I,rfl,q⟩
def L8 (i j:Int):Prop:=(-(2^64) < i/\i < 2^64)\/(-(2^64) < j/\j < 2^64)
theorem L8.ok (h:L8 i j):IntMulOk i j:=by
 rcases h with ⟨h1,h2⟩ | ⟨h1,h2⟩
 ·exact .of_left (intBits_le_64 h1 h2)
 ·exact .of_right (intBits_le_64 h1 h2)
theorem eI:wC X (binaryOp .Add) (Kf λi j=>.int (i+j)):=MW λ_ _ _ _ _ _ _ q=>add_int q
theorem je:wC X (binaryOp .Sub) (Kf λi j=>.int (i - j)):=MW λ_ _ _ _ _ _ _ q=>sub_int q
theorem ka:wC X (binaryOp .Mod) (rI (λ_ j=>0 < j) λi j=>.int (i % j)):=Ny λi j _ _ _ _ _ hc q=>by
 have h1:(0:Int) < j:=hc;exact mod_int' (by lia) (by rw[Int.fmod_eq_emod_of_nonneg i (by lia)];exact q)
theorem Jv:wC X (binaryOp .Mod) (rI (λ_ j=>j≠0) λi j=>.int (i.fmod j)):=Ny λ_ _ _ _ _ _ _ hc q=>mod_int' hc q
theorem unI {g:Int->Int}
  (rule:∀(i:Int) (t:Tok) (s:Shared) (Q:Value->Shared->Prop) (E:Value->Shared->Prop),Q (.int (g i) s.toks) { s with toks:=s.toks+1 }->wpAny (model X.prog X.w) X.A (f (.int i t)) Q E s) :
  NT X f (rU λi=>.int (g i)):=by
 intro pins s σ H x v Q I rx h;obtain ⟨i,rfl,q⟩:=h;obtain ⟨t,rfl⟩:=rx;exact rule i t s _ _ ⟨.int (g i),H,I.tok _,⟨_,rfl⟩,q⟩
theorem wL:NT X (unaryOp .USub) (rU λi=>.int (-i)):=unI λ_ _ _ _ _ q=>neg_int q
end
def ME:V->V->Bool
 | .non,.non=>true | .non,.int _=>true | .int _,.non=>true | .non,.bl _=>true | .bl _,.non=>true | .non,.str _=>true | .str _,.non=>true
 | .int _,.int _=>true | .bl _,.bl _=>true | .str _,.str _=>true | .byt _,.byt _=>true
 | .int _,.str _=>true | .str _,.int _=>true | .bl _,.str _=>true | .str _,.bl _=>true
 | _,_=>false
def rEq:R2:=λx y H Q=>ME x y=true/\Q (.bl (decide (x=y))) H
def NK:R2:=λx y H Q=>ME x y=true/\Q (.bl (!decide (x=y))) H
theorem Ex:decide (V.int i=V.int j)=(i == j):=by
 rw[oE];simp
theorem Ie:decide (V.bl i=V.bl j)=(i == j):=by
 rw[oE];simp
theorem Ew:decide (V.str i=V.str j)=(i == j):=by
 rw[oE];simp
theorem Ey:decide (V.byt i=V.byt j)=(i.toList == j.toList):=by
 rw[oE];cases i;cases j;simp
section
variable {X:Cx} {a b c:Expr} {ta tb tc:TE} {pos:Pos}
theorem cS {σ:St} (I:Inv X pins σ H s) (q:Q (.bl k) H) (e:k=k'):EP X pins σ Q (.bool k') s:=by
 subst e;exact ⟨.bl k,H,I,rfl,q⟩
theorem eB:wC X (compareOp .Eq) rEq:=by
 intro pins s σ H x y v u Q I rx ry h;obtain ⟨hs,q⟩:=h;cases x with
 | non =>
  cases rx;cases y with
  | non=>cases ry;exact PySem.EqNone.eq_none_none (cS I q (by simp))
  | bl j=>cases ry;exact PySem.EqNone.eq_none_bool (cS I q (by simp))
  | int j=>obtain ⟨t',rfl⟩:=ry;exact PySem.EqNone.eq_none_int (cS I q (by simp))
  | str j=>obtain ⟨t',rfl⟩:=ry;exact PySem.EqNone.eq_none_str (cS I q (by simp))
  | _=>exact absurd (show false=true from hs) br
 | bl i =>
  cases rx;cases y with
  | non=>cases ry;exact PySem.EqNone.eq_bool_none (cS I q (by simp))
  | bl j=>cases ry;exact eq_bool (cS I q Ie)
  | str j=>obtain ⟨t',rfl⟩:=ry;exact PySem.EqMixed.eq_bool_str (cS I q (by simp))
  | _=>exact absurd (show false=true from hs) br
 | int i =>
  obtain ⟨t,rfl⟩:=rx;cases y with
  | non=>cases ry;exact PySem.EqNone.eq_int_none (cS I q (by simp))
  | int j=>obtain ⟨t',rfl⟩:=ry;exact eq_int (cS I q Ex)
  | str j=>obtain ⟨t',rfl⟩:=ry;exact PySem.EqMixed.eq_int_str (cS I q (by simp))
  | _=>exact absurd (show false=true from hs) br
 | str i =>
  obtain ⟨t,rfl⟩:=rx;cases y with
  | non=>cases ry;exact PySem.EqNone.eq_str_none (cS I q (by simp))
  | bl j=>cases ry;exact PySem.EqMixed.eq_str_bool (cS I q (by simp))
  | int j=>obtain ⟨t',rfl⟩:=ry;exact PySem.EqMixed.eq_str_int (cS I q (by simp))
  | str j=>obtain ⟨t',rfl⟩:=ry;exact eq_str (cS I q Ew)
  | _=>exact absurd (show false=true from hs) br
 | byt i =>
  obtain ⟨t,rfl⟩:=rx;cases y with
  | byt j=>obtain ⟨t',rfl⟩:=ry;exact PySem.W.eq_bytes (cS I q Ey)
  | _=>exact absurd (show false=true from hs) br
 | _=>cases y <;> exact absurd (show false=true from hs) br
theorem sL:wC X (compareOp .NotEq) NK:=by
 intro pins s σ H x y v u Q I rx ry h;obtain ⟨hs,q⟩:=h;cases x with
 | non =>
  cases rx;cases y with
  | non=>cases ry;exact PySem.EqNone.ne_none_none (cS I q (by simp))
  | bl j=>cases ry;exact PySem.EqNone.ne_none_bool (cS I q (by simp))
  | int j=>obtain ⟨t',rfl⟩:=ry;exact PySem.EqNone.ne_none_int (cS I q (by simp))
  | str j=>obtain ⟨t',rfl⟩:=ry;exact PySem.EqNone.ne_none_str (cS I q (by simp))
  | _=>exact absurd (show false=true from hs) br
 | bl i =>
  cases rx;cases y with
  | non=>cases ry;exact PySem.EqNone.ne_bool_none (cS I q (by simp))
  | bl j=>cases ry;exact ne_bool (cS I q (congrArg not Ie))
  | str j=>obtain ⟨t',rfl⟩:=ry;exact PySem.EqMixed.ne_bool_str (cS I q (by simp))
  | _=>exact absurd (show false=true from hs) br
 | int i =>
  obtain ⟨t,rfl⟩:=rx;cases y with
  | non=>cases ry;exact PySem.EqNone.ne_int_none (cS I q (by simp))
  | int j=>obtain ⟨t',rfl⟩:=ry;exact ne_int (cS I q (congrArg not Ex))
  | str j=>obtain ⟨t',rfl⟩:=ry;exact PySem.EqMixed.ne_int_str (cS I q (by simp))
  | _=>exact absurd (show false=true from hs) br
 | str i =>
  obtain ⟨t,rfl⟩:=rx;cases y with
  | non=>cases ry;exact PySem.EqNone.ne_str_none (cS I q (by simp))
  | bl j=>cases ry;exact PySem.EqMixed.ne_str_bool (cS I q (by simp))
  | int j=>obtain ⟨t',rfl⟩:=ry;exact PySem.EqMixed.ne_str_int (cS I q (by simp))
  | str j=>obtain ⟨t',rfl⟩:=ry;exact ne_str (cS I q (congrArg not Ew))
  | _=>exact absurd (show false=true from hs) br
 | byt i =>
  obtain ⟨t,rfl⟩:=rx;cases y with
  | byt j=>obtain ⟨t',rfl⟩:=ry;exact PySem.W.ne_bytes (cS I q (congrArg not Ey))
  | _=>exact absurd (show false=true from hs) br
 | _=>cases y <;> exact absurd (show false=true from hs) br
theorem l8:wC X (compareOp .Lt) (Kf λi j=>.bl (decide (i < j))):=Lr λ_ _ _ _ _ _ _ q=>lt_int q
theorem qA:wC X (compareOp .Gt) (Kf λi j=>.bl (decide (j < i))):=Lr λ_ _ _ _ _ _ _ q=>gt_int q
theorem zf:wC X (compareOp .GtE) (Kf λi j=>.bl (decide (j<=i))):=Lr λ_ _ _ _ _ _ _ q=>ge_int q
theorem Lq:wC X (compareOp .Is) (λx y H Q=>y=.non/\Q (.bl (decide (x=.non))) H):=by
 intro pins s σ H x y v u Q I rx ry h;obtain ⟨rfl,q⟩:=h;cases ry;refine is_none_gen (cS I q ?_)
 cases x <;> first
  | (cases rx;rfl)
  | (obtain ⟨t,rfl⟩:=rx;rfl)
theorem Ju:wC X (compareOp .IsNot) (λx y H Q=>y=.non/\Q (.bl (!decide (x=.non))) H):=by
 intro pins s σ H x y v u Q I rx ry h;obtain ⟨rfl,q⟩:=h;cases ry;refine isnot_none_gen (cS I q ?_)
 cases x <;> first
  | (cases rx;rfl)
  | (obtain ⟨t,rfl⟩:=rx;rfl)
theorem bg (b:Expr) {op:CmpOp} (h:op≠.In:=by decide) (h2:op≠.NotIn:=by decide):behindInMarks op b=false:=by
 have e1:(op == CmpOp.In)=false:=by cases op <;> first | rfl | exact absurd rfl h
 have e2:(op == CmpOp.NotIn)=false:=by cases op <;> first | rfl | exact absurd rfl h2
 cases b <;> simp [behindInMarks,e1,e2]
theorem gN (ho:wC X (compareOp op) r) (ha:PE X a ta) (hb:PE X b tb) (hm:behindInMarks op b=false):PE X (.Compare a [op] [b] pos) (Mt r ta tb):=by
 intro pins s σ H Q I h;exact wpAny_Compare1 (LY ha hb I h λv u s2 x y H2 I2 rx ry q=>ho pins s2 σ H2 x y v u Q I2 rx ry q) hm
def JY (t:TE):TT:=λσ H Q=>t σ H λx H'=>∃k,x=.bl k/\Q k H'
theorem aZ (ho:wC X (compareOp op) r) (ha:PE X a ta) (hb:PE X b tb) (hm:behindInMarks op b=false):PT X (.Compare a [op] [b] pos) (JY (Mt r ta tb)):=by
 intro pins s σ H Q I h
 refine wpAny_isTrue_Compare1 (eY (ha pins s σ H _ I h) λv s1 ⟨x,H1,I1,r1,q1⟩=>eY (hb pins s1 σ H1 _ I1 q1) λu s2 ⟨y,H2,I2,r2,q2⟩ =>
  eY (ho pins s2 σ H2 x y v u _ I2 r1 r2 q2) λc s3 ⟨z,H3,I3,r3,k,e,q3⟩=>?_) hm
 subst e;cases r3;exact wpAny_truthy_bool ⟨H3,I3,q3⟩
theorem xQ:(sizeLine:Nat) < 2^63:=by rw[sizeLine_eq];decide
theorem vals1 (r:cp [x] us):∃u,us=[u]/\RelV x u:=by
 cases r with
 | cons r1 r2=>cases r2;exact ⟨_,rfl,r1⟩
theorem vals2 (r:cp [x,y] us):∃u w',us=[u,w']/\RelV x u/\RelV y w':=by
 cases r with
 | cons r1 r2 =>
  cases r2 with
  | cons r3 r4=>cases r4;exact ⟨_,_,rfl,r1,r3⟩
theorem tD:mH X (.builtin "abs") (λxs H Q=>∃i,xs=[.int i]/\Q (.int (if i < 0 then -i else i)) H):=by
 intro pins s σ H xs us Q I r h;obtain ⟨i,rfl,q⟩:=h;obtain ⟨u,rfl,t,rfl⟩:=vals1 r;exact call_abs_int λu tk=>⟨.int (if i < 0 then -i else i),H,I.tok _,⟨_,rfl⟩,q⟩
theorem qd (hc:X.calm=true):mH X (.builtin "min") (λxs H Q=>∃i j,xs=[.int i,.int j]/\Q (.int (if j < i then j else i)) H):=by
 intro pins s σ H xs us Q I r h;obtain ⟨i,j,rfl,q⟩:=h;obtain ⟨u,w',rfl,⟨t,rfl⟩,⟨t',rfl⟩⟩:=vals2 r;refine min_two_ints (I.ok.hd hc) λh' tk k=>⟨_,H,I.kept k,?_,q⟩
 by_cases hj:j < i
 ·rw[if_pos hj,if_pos hj];exact ⟨_,rfl⟩
 ·rw[if_neg hj,if_neg hj];exact ⟨_,rfl⟩
end
structure DO (h:Heap) (x dx C:Addr) (mA:Str->Option Value):Prop where
 obj:h.get? x=some (PySem.W.instObj C dx)
 ns:h.Ns1 dx mA
 ne:dx≠x
theorem Fl {h:Heap} (n:h.Ns1 dx mA):∃od,h.get? dx=some od/\∀name,PySem.W.lookIn name od=some (mA name):=by
 obtain ⟨o,es,ep,ho,hd,hk,_,hm⟩:=n;refine ⟨o,ho,λname=>?_⟩;have e:=hm name;unfold nsFind findBy at e;rw[<- Array.find?_toList] at e;unfold PySem.W.lookIn;rw[hd]
 dsimp only
 split
 ·rename_i y q
  rw[q] at e;exact congrArg some e
 ·rename_i q
  rw[q] at e
  have a:es.toList.any (·.refKey)=false:=by
   rw[List.any_eq_false];intro y hy;obtain ⟨z,t,hkey⟩:=hk y (Array.mem_toList_iff.mp hy);simp [DictEntry.refKey,hkey]
  have a':¬es.toList.any (·.refKey)=true:=by rw[a];exact br
  rw[if_neg a'];exact congrArg some e
theorem DO.look (I:DO h x dx C mA):∃od,PySem.W.InstAt h x (PySem.W.instObj C dx) C (some od)/\∀name,PySem.W.lookIn name od=some (mA name) :=
 let ⟨od,ho,hl⟩:=Fl I.ns
 ⟨od,⟨I.obj,rfl,rfl,ho⟩,hl⟩
section
variable {prog:Program} {w:World} {A:Around} {E:Value->Shared->Prop} {s:Shared} {K:FG9} {x dx C f:Addr} {mA:Str->Option Value} {name:Str} {v:Value}
theorem get_map (X:K.In s.heap) (I:DO s.heap x dx C mA) (hg:PySem.W.plainGet K C name=true) (hh:PySem.W.hasDictIn K C=true)
  (ha:PySem.W.findIn K (.ref C) name=some none) (hv:mA name=some v) (hv':PySem.W.handedIn v=true) (h:Q v { s with toks:=s.toks+1 }) :
  wpAny (model prog w) A (getAttr (.ref x) name expr) Q E s:=by
 obtain ⟨od,J,hl⟩:=I.look;exact PySem.W.get_value X J (Bl hg).1 (PySem.W.findObj_own hh ha rfl (by rw[hl,hv])) hv' h
theorem HH (X:K.In s.heap) (I:DO s.heap x dx C mA) (hg:PySem.W.plainGet K C name=true)
  (hf:PySem.W.findIn K (.ref C) name=some (some (.ref f))) (ht:PySem.W.isFn K (.ref f)=true) (hv:mA name=none) (h:Q (.ref f,[.ref x]) s) :
  wpAny (model prog w) A (getMethod (.ref x) name pl) Q E s:=by
 obtain ⟨od,J,hl⟩:=I.look;exact PySem.W.method_fn X J (Bl hg).1 (Bl hg).2 hf (beq_iff_eq.mp ht) (by show (PySem.W.lookIn name od).map (·.isSome)=some false;rw[hl,hv];rfl) h
theorem IU (X:K.In s.heap) (I:DO s.heap x dx C mA)
  (hs:PySem.W.findIn K (.ref C) "__setattr__"=some (some (.builtin "object.__setattr__"))) (hp:PySem.W.plainOver K C=true) (ht:PySem.W.takerIn K C name=some none) (hh:PySem.W.hasDictIn K C=true)
  (hw:PySem.Within mA ns) (hsz:ns.length<=sizeLine)
  (h:∀h',DO h' x dx C (λy=>if y=name then some v else mA y)->Heap.SameBut dx s.heap h'->Q () { s with heap:=h',toks:=s.toks+2 }) :
  wpAny (model prog w) A (setAttr (.ref x) name v) Q E s:=by
 obtain ⟨od,J,hl⟩:=I.look;refine PySem.W.set_plain X J hs (PySem.W.osa_open (s:={ s with toks:=s.toks+1 }) (r:=none) X J hp ht λb=>?_);obtain ⟨cd,hc,hd'⟩:=PySem.W.any_some hh;have hx:s.heap.get? x=some ⟨.ref C,some dx,.plain,#[]⟩:=I.obj;refine wpAny_bind (wpAny_pure (wpAny_bind (wpAny_bind (wpAny_loadPart hx (wpAny_bind (PySem.W.Looks.here (s:={ s with toks:=s.toks+1 }) (PySem.W.looks_clsIn X hc) ?_))))));rw[hd'];refine wpAny_pure (a:=some dx) (wpAny_bind (wpAny_pure (wpAny_bind ?_)));refine wpAny_nsSet1 (s:={ s with toks:=s.toks+1 }) I.ns λh' hn2 hs2=>?_
 obtain ⟨oD,esD,epD,hoD,hdD,hcD⟩:=hn2.count (PySem.Within.cons name v hw);refine wpAny_bind (wpAny_lookBehind hoD (by rw[hdD];exact pastItsLine_dict (ar hcD (by rw[bw];lia))) ?_);exact wpAny_pure (h _ ⟨(hs2.2 _ (Ne.symm I.ne)).trans I.obj,hn2,I.ne⟩ hs2)
theorem GW (X:K.In s.heap) (hm:PySem.W.makesIn K C=true)
  (hi:PySem.W.findIn K (.ref C) "__init__"=some (some (.ref f))) (hf:PySem.W.typeIn K (.ref f)=some (.type "function"))
  (h:codeAny (model prog w) (A.under (.builtin "type.__call__" ⟨.ref C :: vs,kw⟩)) (.call (.ref f) ⟨.ref (s.heap.objs.size+1) :: vs,kw⟩) (PySem.W.InitBack (s.heap.objs.size+1) R)
   { s with heap:=(s.heap.push PySem.W.emptyDict).push (PySem.W.instObj C s.heap.objs.size) }) :
  codeAny (model prog w) A (.call (.ref C) ⟨vs,kw⟩) R s:=by
 obtain ⟨hh,g,d,t,os⟩:=s;exact PySem.W.make_core (PySem.W.makes_of X hm) (PySem.W.looks_findIn X hi) (λself=>PySem.W.bind_fn X self hf) (.inl rfl) h
end
def b6 (f:Str) (v:V):List (Str×V)->List (Str×V)
 | []=>[(f,v)]
 | (g,x) :: r=>if g=f then (g,v) :: r else (g,x) :: b6 f v r
theorem be (f g:Str) (v:V):∀fs:List (Str×V),(b6 f v fs).lookup g=if g=f then some v else fs.lookup g
 | []=>by
  show List.lookup g [(f,v)]=_
  by_cases h:g=f
  ·have hb:(g == f)=true:=beq_iff_eq.mpr h;simp only[List.lookup,hb,if_pos h]
  ·have hb:(g == f)=false:=beq_eq_false_iff_ne.mpr h;simp only[List.lookup,hb,if_neg h]
 | (k,x) :: r=>by
  have ih:=be f g v r;rw[show b6 f v ((k,x) :: r)=(if k=f then (k,v) :: r else (k,x) :: b6 f v r) from rfl];by_cases hk:k=f
  ·rw[if_pos hk];by_cases h:g=k
   ·have hb:(g == k)=true:=beq_iff_eq.mpr h;simp only[List.lookup,hb,if_pos (h.trans hk)]
   ·have hb:(g == k)=false:=beq_eq_false_iff_ne.mpr h;simp only[List.lookup,hb,if_neg (λe:g=f=>h (e.trans hk.symm))]
  ·rw[if_neg hk];by_cases h:g=k
   ·have hb:(g == k)=true:=beq_iff_eq.mpr h;simp only[List.lookup,hb,if_neg (λe:g=f=>hk (h.symm.trans e))]
   ·have hb:(g == k)=false:=beq_eq_false_iff_ne.mpr h;simp only[List.lookup,hb];exact ih
theorem uC (f:Str) (v:V):∀fs:List (Str×V),f∈(b6 f v fs).map (·.1)/\∀g,g∈fs.map (·.1)->g∈(b6 f v fs).map (·.1)
 | []=>⟨by simp [b6],λg h=>by simp at h⟩
 | (k,x) :: r=>by
  obtain ⟨i1,i2⟩:=uC f v r;rw[show b6 f v ((k,x) :: r)=(if k=f then (k,v) :: r else (k,x) :: b6 f v r) from rfl];by_cases hk:k=f
  ·rw[if_pos hk];subst hk;exact ⟨by simp,λg h=>by simpa using h⟩
  ·rw[if_neg hk];refine ⟨?_,λg h=>?_⟩
   ·rw[jR];exact bM _ i1
   ·rw[jR] at h ⊢;rcases aD.mp h with e | e
    ·exact aD.mpr (.inl e)
    ·exact bM _ (i2 g e)
theorem uR (f:Str) (v:V):∀fs:List (Str×V),(b6 f v fs).length<=fs.length+1
 | []=>by simp [b6]
 | (k,x) :: r=>by
  have ih:=uR f v r;rw[show b6 f v ((k,x) :: r)=(if k=f then (k,v) :: r else (k,x) :: b6 f v r) from rfl];by_cases hk:k=f
  ·rw[if_pos hk,bw,bw];lia
  ·rw[if_neg hk,bw,bw];lia
theorem yO.some_of (r:yO (some v) o):∃u,o=some u/\RelV v u:=by
 cases o with
 | none=>exact (show False from r).elim
 | some u=>exact ⟨u,rfl,r⟩
theorem yO.none_of (r:yO none o):o=none:=by
 cases o with
 | none=>rfl
 | some u=>exact (show False from r).elim
theorem Fs (r:RelV v u):PySem.W.handedIn u=true:=by
 cases v with
 | non=>cases (show u=Value.none from r);rfl
 | bl b=>cases (show u=Value.bool b from r);rfl
 | int i=>obtain ⟨t,e⟩:=(show ∃t,u=Value.int i t from r);cases e;rfl
 | str x=>obtain ⟨t,e⟩:=(show ∃t,u=Value.str x t from r);cases e;rfl
 | byt b=>obtain ⟨t,e⟩:=(show ∃t,u=Value.bytes b t from r);cases e;rfl
 | flt b=>obtain ⟨t,e⟩:=(show ∃t,u=Value.float b t from r);cases e;rfl
 | ref a=>cases (show u=Value.ref a from r);rfl
 | ty n=>cases (show u=Value.type n from r);rfl
section
variable {P:Program} {w:World} {H H':Hp} {h h':Heap} {a C dx:Addr} {fs fs':List (Str×V)}
theorem we (hok:uJ P w H h) (e:H a=some (.ins C dx fs)):∃mA,DO h a dx C mA/\(∀f,yO (fs.lookup f) (mA f))/\PySem.Within mA (fs.map (·.1))/\fs.length<=1000/\H dx=some (.own a):=by
 obtain ⟨d,z,ne,ob,mA,n,r,q⟩:=(show fy P w H h a (.ins C dx fs) from hok a _ e);exact ⟨mA,⟨ob,n,ne⟩,r,q,z,d⟩
end
structure FK (K:FG9) (C:Addr):Prop where
 pg:PySem.W.plainGet K C Str.empty=true
 hd:PySem.W.hasDictIn K C=true
 po:PySem.W.plainOver K C=true
 sa:PySem.W.findIn K (.ref C) "__setattr__"=some (some (.builtin "object.__setattr__"))
theorem FK.get {K:FG9} (c:FK K C) (f:Str):PySem.W.plainGet K C f=true:=c.pg
def iP (K:FG9) (C:Addr) (f:Str):Prop:=PySem.W.findIn K (.ref C) f=some none
theorem iP.taker {K:FG9} (n:iP K C f):PySem.W.takerIn K C f=some none:=by
 unfold PySem.W.takerIn;rw[show PySem.W.findIn K (.ref C) f=some none from n];rfl
structure JU (K:FG9) (C:Addr) (m:Str) (f:Addr):Prop where
 at_:PySem.W.findIn K (.ref C) m=some (some (.ref f))
 fn:PySem.W.isFn K (.ref f)=true
 kp:PySem.W.keepIn K (.ref f)=true
section
variable {X:Cx} {pins:List (Addr×Obj)} {σ:St} {H:Hp} {s:Shared} {a C dx:Addr} {fs:List (Str×V)} {f:Str} {v:V} {A:Around} {E:Value->Shared->Prop}
theorem DC (I:Inv X pins σ H s) (e:H a=some (.ins C dx fs)) (c:FK X.K C) (n:iP X.K C f) (l:fs.lookup f=some v)
  (h:∀u s',Inv X pins σ H s'->RelV v u->Q u s'):wpAny (model X.prog X.w) A (getAttr (.ref a) f b) Q E s:=by
 obtain ⟨mA,O,r,_,_,_⟩:=we I.hok e;obtain ⟨u,hu,ru⟩:=yO.some_of (v:=v) (o:=mA f) (by rw[<- l];exact r f);exact get_map I.kIn O (c.get f) c.hd n hu (Fs ru) (h u _ (I.tok _) ru)
theorem DB (I:Inv X pins σ H s) (e:H a=some (.ins C dx fs)) (c:FK X.K C) (k:JU X.K C m g) (l:fs.lookup m=none)
  (h:Q (.ref g,[.ref a]) s):wpAny (model X.prog X.w) A (getMethod (.ref a) m pl) Q E s:=by
 obtain ⟨mA,O,r,_,_,_⟩:=we I.hok e;have hn:mA m=none:=yO.none_of (by rw[<- l];exact r m);exact HH I.kIn O (c.get m) k.at_ k.fn hn h
theorem C8 (I:Inv X pins σ H s) (e:H a=some (.ins C dx fs)) (c:FK X.K C) (n:iP X.K C f) (hl:fs.length < 1000) (ry:RelV y u)
  (h:∀s',Inv X pins σ (upd H a (.ins C dx (b6 f y fs))) s'->Q () s'):wpAny (model X.prog X.w) A (setAttr (.ref a) f u) Q E s:=by
 obtain ⟨mA,O,r,wi,_,ho⟩:=we I.hok e;have hz:(fs.map (·.1)).length<=sizeLine:=by rw[ag,sizeLine_eq];lia
 refine IU I.kIn O c.sa c.po n.taker c.hd wi hz λh' O' sb=>h _ ?_
 have hd:∃o,h'.get? dx=some o:=let ⟨o,_,_,e',_⟩:=O'.ns;⟨o,e'⟩
 refine I.write (x:=a) (e:=dx) (by rw[e];exact True.intro) (.inr ho) (λb q hb z=>(sb.2 b hb).trans z) hd ?_;refine ⟨by rw[a9 O.ne];exact ho,?_,O.ne,O'.obj,_,O'.ns,λg=>?_,λg hg=>?_⟩
 ·have:=uR f y fs;lia
 ·show yO ((b6 f y fs).lookup g) (if g=f then some u else mA g)
  rw[be];by_cases q:g=f
  ·rw[if_pos q,if_pos q];exact ry
  ·rw[if_neg q,if_neg q];exact r g
 ·by_cases q:g=f
  ·rw[q];exact (uC f y fs).1
  ·refine (uC f y fs).2 g (wi g λz=>hg ?_);show (if g=f then some u else mA g)=none
   rw[if_neg q];exact z
theorem Inv.made (I:Inv X pins σ H s):Inv X pins σ (upd (upd H s.heap.objs.size (.own (s.heap.objs.size+1))) (s.heap.objs.size+1) (.ins C s.heap.objs.size []))
  { s with heap:=(s.heap.push PySem.W.emptyDict).push (PySem.W.instObj C s.heap.objs.size) }:=by
 have e1:(s.heap.push PySem.W.emptyDict).get? s.heap.objs.size=some PySem.W.emptyDict:=Heap.get?_push_size s.heap rfl
 have e2:((s.heap.push PySem.W.emptyDict).push (PySem.W.instObj C s.heap.objs.size)).get? (s.heap.objs.size+1)=some (PySem.W.instObj C s.heap.objs.size):=by
  have:=Heap.get?_push_size (s.heap.push PySem.W.emptyDict) (o:=PySem.W.instObj C s.heap.objs.size) rfl;rwa [Heap.size_push] at this
 have e3:(s.heap.push PySem.W.emptyDict).Ns s.heap.objs.size (λ_=>none):=⟨PySem.W.emptyDict,#[],_,e1,rfl,(λe he=>absurd he (by simp)),λ_=>rfl⟩;have I1:=I.laid (a:=s.heap.objs.size) (o:=.own (s.heap.objs.size+1)) (h':=s.heap.push PySem.W.emptyDict) (t':=s.toks) (λb u q=>Heap.get?_push_of_some _ q) (av _) ⟨_,e1⟩;refine I1.laid (a:=s.heap.objs.size+1) (o:=.ins C s.heap.objs.size []) (t':=s.toks) (λb u q=>Heap.get?_push_of_some _ q) (Nat.le_of_eq (Heap.size_push _ _)) ?_;have ne:s.heap.objs.size≠s.heap.objs.size+1:=b9 (gC _);refine ⟨by rw[a9 ne,aG],bH _,ne,e2,λ_=>none,(Heap.Ns1.of_empty e3).at λo q=>Heap.get?_push_of_some _ q,λ_=>True.intro,λy hy=>absurd rfl hy⟩
theorem JP (hb:attributeBase e f env (eval e env)=eval e env)
  (h:wpAny (model prog w) A (eval e env) (λo s₁=>wpAny (model prog w) A (getAttr o f true) Q E s₁) E s):wpAny (model prog w) A (eval (.Attribute e f pos) env) Q E s :=
 Attribute_any_ h (by rw[arm_eval_Attribute,hb])
end
def My (K:FG9) (ta:TE) (f:Str):TE:=λσ H Q=>ta σ H λx H1=>∃a C dx fs v,x=.ref a/\H1 a=some (.ins C dx fs)/\FK K C/\iP K C f/\fs.lookup f=some v/\Q v H1
def MF (K:FG9) (ta tv:TE) (f:Str):TS:=λD σ H=>tv σ H λy H1=>ta σ H1 λx H2=>∃a C dx fs,x=.ref a/\H2 a=some (.ins C dx fs)/\FK K C/\iP K C f/\fs.length < 1000 /\
 D.nx σ (upd H2 a (.ins C dx (b6 f y fs)))
section
variable {X:Cx} {o e value:Expr} {f:Str} {pos pos' tpos:Pos} {ta tv:TE}
theorem d9 (he:PE X e ta) (hb:attributeBase e f X.env (eval e X.env)=eval e X.env):PE X (.Attribute e f pos) (My X.K ta f):=by
 intro pins s σ H Q I h;refine JP hb (eY (he pins s σ H _ I h) λu s1 ⟨x,H1,I1,rx,a,C,dx,fs,v,ex,ea,c,n,l,q⟩=>?_);subst ex;obtain rfl:u=Value.ref a:=rx;exact DC I1 ea c n l λu' s2 I2 ru=>⟨v,H1,I2,ru,q⟩
theorem uo (ha:PE X o ta) (hv:PE X value tv) (hs:swapsWith value (some (.Attribute o f pos')) pos.line X.env=pure false):PS X (.Assign [.Attribute o f pos'] value pos) (MF X.K ta tv f):=by
 intro pins s σ H D I h;refine plainObj_wpAny_Assign_Attribute (eY (hv pins s σ H _ I h) λu s1 ⟨y,H1,I1,ry,q⟩=>eY (ha pins s1 σ H1 _ I1 q) λov s2 ⟨x,H2,I2,rx,a,C,dx,fs,ex,ea,c,n,l,q2⟩=>?_) hs;subst ex;obtain rfl:ov=Value.ref a:=rx;exact C8 I2 ea c n l ry λs3 I3=>⟨σ,_,I3,q2⟩
end
section
variable {X:Cx} {pins:List (Addr×Obj)} {σ:St} {H:Hp} {s:Shared} {A:Around} {E:Value->Shared->Prop} {Q:Value->Shared->Prop} {c:Value} {b:Bool}
inductive rS (K:FG9) (H:Hp):V->Value->Prop where
 | non:rS K H .non (.type "NoneType")
 | bl (x:Bool):rS K H (.bl x) (.type "bool")
 | int (i:Int):rS K H (.int i) (.type "int")
 | str (x:Str):rS K H (.str x) (.type "str")
 | flt (x:UInt64):rS K H (.flt x) (.type "float")
 | lst {a:Addr} {xs:List V} (e:H a=some (.lst xs)):rS K H (.ref a) (.type "list")
 | frz {a:Addr} {o:Obj} {xs:List V} (e:H a=some (.frz o (.lst xs))):rS K H (.ref a) (.type "list")
 | tup {a:Addr} {xs:List V} (e:H a=some (.tup xs)):rS K H (.ref a) (.type "tuple")
 | dK {a:Addr} {kvs:List (Key×V)} (e:H a=some (.dK kvs)):rS K H (.ref a) (.type "dict")
 | dT {a:Addr} {kvs:List (List Key×V)} (e:H a=some (.dT kvs)):rS K H (.ref a) (.type "dict")
 | ins {a C dx:Addr} {fs:List (Str×V)} (e:H a=some (.ins C dx fs)) (cl:FK K C) (ha:PySem.W.findIn K (.ref C) "__class__"=some (some (.builtin "object.__class__")))
   (hn:PySem.W.specialIn K (.builtin "object.__class__") "__get__"=some (some (.builtin "getset_descriptor.__get__"))) (htk:PySem.W.takesIn K (.builtin "object.__class__")=some true)
   (hm:PySem.W.mroIn K C (.type "object")=some true):rS K H (.ref a) (.ref C)
theorem uD (I:Inv X pins σ H s) (rx:RelV x u) (ty:rS X.K H x t) (e:PySem.W.kitOne X.K t c=some b) (h:∀tk,Q (.bool b) { s with toks:=tk }) :
  wpAny (model X.prog X.w) A (call (.builtin "isinstance") [u,c]) Q E s:=by
 cases ty with
 | non=>cases (show u=Value.none from rx);exact cK PySem.W.kitx_none I.kIn True.intro e (λz=>nomatch z) h
 | bl y=>cases (show u=Value.bool y from rx);exact cK PySem.W.kitx_bool I.kIn True.intro e (λz=>nomatch z) h
 | int i=>obtain ⟨t,q⟩:=(show ∃t,u=Value.int i t from rx);cases q;exact cK PySem.W.kitx_int I.kIn True.intro e (λz=>nomatch z) h
 | str y=>obtain ⟨t,q⟩:=(show ∃t,u=Value.str y t from rx);cases q;exact cK PySem.W.kitx_str I.kIn True.intro e (λz=>nomatch z) h
 | flt y=>obtain ⟨t,q⟩:=(show ∃t,u=Value.float y t from rx);cases q;exact cK PySem.W.kitx_float I.kIn True.intro e (λz=>nomatch z) h
 | @lst a xs ea =>
  cases (show u=Value.ref a from rx);obtain ⟨_,_,n,_,h1⟩:=(show fy X.prog X.w H s.heap a (.lst xs) from I.hok a _ ea);exact cK PySem.W.kitx_list I.kIn ⟨_,h1,rfl⟩ e (λz=>nomatch z) h
 | @frz a ob xs ea =>
  cases (show u=Value.ref a from rx);obtain ⟨_,_,_,n,_,h1⟩:=(show fy X.prog X.w H s.heap a (.frz ob (.lst xs)) from I.hok a _ ea);exact cK PySem.W.kitx_list I.kIn ⟨_,h1,rfl⟩ e (λz=>nomatch z) h
 | @tup a xs ea =>
  cases (show u=Value.ref a from rx);obtain ⟨_,_,_,p⟩:=(show fy X.prog X.w H s.heap a (.tup xs) from I.hok a _ ea);obtain ⟨o,h1,h2,_⟩:=p;exact cK PySem.W.kitx_tuple I.kIn ⟨o,h1,h2⟩ e (λz=>nomatch z) h
 | @dK a kvs ea =>
  cases (show u=Value.ref a from rx);obtain ⟨_,_,vs,_,p⟩:=(show fy X.prog X.w H s.heap a (.dK kvs) from I.hok a _ ea);obtain ⟨o,es,ep,h1,h2,_⟩:=p;exact cK PySem.W.kitx_dict I.kIn ⟨o,h1,h2.1⟩ e (λz=>nomatch z) h
 | @dT a kvs ea =>
  cases (show u=Value.ref a from rx);obtain ⟨_,_,xs,_,o,es,ep,h1,h2,_⟩:=(show fy X.prog X.w H s.heap a (.dT kvs) from I.hok a _ ea);exact cK PySem.W.kitx_dict I.kIn ⟨o,h1,h2.1⟩ e (λz=>nomatch z) h
 | @ins a C dx fs ea cl ha hn htk hm =>
  cases (show u=Value.ref a from rx);obtain ⟨mA,O,_⟩:=we I.hok ea;obtain ⟨od,J,_⟩:=O.look;exact cK (PySem.W.kitx_own (cl.get _) cl.hd ha hn htk hm) I.kIn J e (λz=>nomatch z) h
end
structure jm (k:Nat) (A:Around):Prop where
 hd:A.handled=none
 dp:A.depth+3*k+5 < recursionLimit
 un:A.units+16*k+200 < cLine
theorem jm.mono (r:jm k A) (h:j<=k):jm j A:=⟨r.hd,by have:=r.dp;lia,by have:=r.un;lia⟩
theorem jm.deeper (r:jm (k+1) A) (env:Env):jm k (A.deeper env) :=
 ⟨r.hd,by have:=r.dp;show A.depth+1+3*k+5 < _;lia,by have:=r.un;show A.units+3+16*k+200 < _;lia⟩
theorem Dy {A:Around}:(A.under (.builtin "type.__call__" ⟨.ref C :: us,kw⟩)).depth=A.depth+1:=by
 first | rfl | simp [Around.under,Code.weight,Code.isCreation,Code.isGuard,Code.isCaller,Code.frames,Code.isFrame,guardIds]
theorem Dx {A:Around}:(A.under (.builtin "type.__call__" ⟨.ref C :: us,kw⟩)).units=A.units+1:=by
 first | rfl | simp [Around.under,Code.cUnits,Code.frames,Code.isFrame]
theorem jm.make (r:jm (k+1) A) (C:Addr) (us:List Value) (kw:List (Str×Value)):jm k (A.under (.builtin "type.__call__" ⟨.ref C :: us,kw⟩)) :=
 ⟨r.hd,by have:=r.dp;rw[Dy];lia,by have:=r.un;rw[Dx];lia⟩
theorem jm.depth (r:jm k A):A.depth < recursionLimit:=by have:=r.dp;lia
theorem jm.units (r:jm k A):A.units+64 < cLine:=by have:=r.un;lia
def wN:TA:=λ_ H Q=>Q [] H
def ie (ta:TE) (tr:TA):TA:=λσ H Q=>ta σ H λx H1=>tr σ H1 λxs H2=>Q (x :: xs) H2
section
variable {X:Cx} {e:Expr} {es:List Expr} {te:TE} {t:TA} {pos:Pos}
theorem ai:PA X [] wN:=λ_ _ _ _ H Q I h=>Calls.spliced_nil ⟨[],H,I,.nil,h⟩
theorem ae (ha:PE X e te) (hr:PA X es t) (hs:starEach (e :: es) X.env=(false,eval e X.env) :: starEach es X.env:=by rfl):PA X (e :: es) (ie te t):=by
 intro pos pins s σ H Q I h;rw[hs];show wpAny _ _ (spliced ((false,eval e X.env) :: backTo pos (starEach es X.env))) _ _ s
 refine Calls.spliced_cons (eY (ha pins s σ H _ I h) λu s1 ⟨x,H1,I1,r1,q1⟩=>?_);exact eY (hr pos pins s1 σ H1 _ I1 q1) λus s2 ⟨xs,H2,I2,r2,q2⟩=>⟨x :: xs,H2,I2,.cons r1 r2,q2⟩
def Mm (t:TA):TE:=λσ H Q=>t σ H λxs H1=>xs.length<=sizeLine/\∀p,H1 p=none->Q (.ref p) (upd H1 p (.tup xs))
def Mv (t:TA):TE:=λσ H Q=>t σ H λxs H1=>xs.length<=sizeLine/\∀p,H1 p=none->Q (.ref p) (upd H1 p (.lst xs))
theorem cn (h:PA X es t):PE X (.Tuple es x1 pos) (Mm t):=by
 intro pins s σ H Q I hq;refine wpAny_Tuple_spliced (eY (h pos pins s σ H _ I hq) λus s1 ⟨xs,H1,I1,r,z,q⟩=>⟨by rw[<- r.length];exact z,?_⟩);have hf:H1 s1.heap.objs.size=none:=I1.hok.fresh (av _);refine ⟨.ref s1.heap.objs.size,upd H1 s1.heap.objs.size (.tup xs),I1.laid (t':=s1.toks) (λb u e=>Heap.get?_push_of_some _ e) (av _) ?_,rfl,q _ hf⟩;exact ⟨z,us,r,⟨_,Heap.get?_push_size _ rfl,rfl,_,rfl⟩⟩
theorem d7 (h:PA X es t):PE X (.List es pos) (Mv t):=by
 intro pins s σ H Q I hq;refine wpAny_List_spliced (eY (h pos pins s σ H _ I hq) λus s1 ⟨xs,H1,I1,r,z,q⟩=>⟨by rw[<- r.length];exact z,?_⟩);have hf:H1 s1.heap.objs.size=none:=I1.hok.fresh (av _);refine ⟨.ref s1.heap.objs.size,upd H1 s1.heap.objs.size (.lst xs),I1.laid (t':=s1.toks) (λb u e=>Heap.get?_push_of_some _ e) (av _) ?_,rfl,q _ hf⟩;exact ⟨z,us,0,r,Heap.get?_push_size _ rfl⟩
end
abbrev Sp:=List V->Hp->VK->XK->Prop
abbrev FI:=List Env->Hp->Shared->XK->Value->Shared->Prop
structure DP (P:Program) (w:World) (K:FG9) (mg:Str->Option Value) (base:Heap) (A:Around) (outer:List Env) (s:Shared) (H:Hp):Prop where
 frames:A.frames=some outer
 mod:Mod K mg base
 bs:∀b o,base.get? b=some o->s.heap.get? b=some o/\H b=none
 bsz:base.objs.size<=s.heap.objs.size
 funs:s.heap.FunFrames base outer
 frf:∀b∈wm outer,H b=none
 hok:uJ P w H s.heap
 bare:AllBare s.gens
def CE (outer:List Env) (P:Program) (w:World) (H:Hp) (s:Shared) (Q:VK) (u:Value) (s':Shared):Prop :=
 ∃v H',s'.os=s.os/\AllBare s'.gens/\Un (wm outer) [] H H' s.heap s'.heap/\uJ P w H' s'.heap/\RelV v u/\Q v H'
def CR (CX:FI) (outer:List Env) (P:Program) (w:World) (H:Hp) (s:Shared) (Q:VK) (E:XK) (r:Result) (s':Shared):Prop :=
 match r with
 | .ok (.ret u)=>CE outer P w H s Q u s'
 | .ok _=>False
 | .error e=>CX outer H s E e s'
structure cw (P:Program) (w:World) (K:FG9) (mg:Str->Option Value) (base:Heap) (CX:FI) (k:Nat) (f:Addr) (fd:FuncData) (ps:List Str) (sp:Sp):Prop where
 len:∀vs H Q E,sp vs H Q E->vs.length=ps.length
 run:∀(A:Around) (outer:List Env) (s:Shared) (H:Hp) (args:Args) (us:List Value) (vs:List V) (Q:VK) (E:XK),jm k A->DP P w K mg base A outer s H->BindsTo s fd args (ps.zip us)->cp vs us->sp vs H Q E →
  codeAny (model P w) A (.call (.ref f) args) (CR CX outer P w H s Q E) s
theorem DP.make {K:FG9} (e:DP P w K mg base A outer s H) (C:Addr) (us:List Value) (kw:List (Str×Value)) :
  DP P w K mg base (A.under (.builtin "type.__call__" ⟨.ref C :: us,kw⟩)) outer s H:=⟨by first | exact e.frames | (simpa [Around.under,Code.envs,Code.isFrame,pushEnvs] using e.frames),e.mod,e.bs,e.bsz,e.funs,e.frf,e.hok,e.bare⟩
section
variable {X:Cx} {pins:List (Addr×Obj)} {σ:St} {H:Hp} {s s':Shared}
theorem Inv.env0 (I:Inv X pins σ H s):DP X.prog X.w X.K X.mg X.base X.A X.stack s H :=
 ⟨I.ok.frames,I.ok.mod,I.bs,ar I.ok.bsz I.sz,I.stack,I.stkFree,I.hok,I.bare⟩
theorem Inv.after (I:Inv X pins σ H s) (h:CE X.stack X.prog X.w H s Q u s'):EP X pins σ Q u s':=by
 obtain ⟨v,H',os,bare,un,hok,r,q⟩:=h;obtain ⟨hh,g,d,t,os'⟩:=s';obtain rfl:os'=s.os:=os;exact ⟨v,H',I.call (h':=hh) (g':=g) (d':=d) (t':=t) (ch:=[]) un hok bare (λb z=>absurd z (by simp)),r,q⟩
end
def FZ (sp:Sp) (dvs:List V) (E:XK) (t:TA):TE:=λσ H Q=>t σ H λvs H1=>sp (vs++dvs) H1 Q E
def J7 (C:Addr) (m:Str) (sp:Sp) (dvs:List V) (E:XK) (ta:TE) (t:TA):TE:=λσ H Q=>ta σ H λx H1=>∃a dx fs,x=.ref a/\H1 a=some (.ins C dx fs)/\fs.lookup m=none /\
 t σ H1 λvs H2=>sp (x :: (vs++dvs)) H2 Q E
def J8 (C:Addr) (sp:Sp) (dvs:List V) (E:XK) (t:TA):TE:=λσ H Q=>t σ H λvs H1=>∀x dx,H1 x=none->H1 dx=none->dx≠x →
 sp (.ref x :: (vs++dvs)) (upd (upd H1 dx (.own x)) x (.ins C dx [])) (λv H2=>v=.non/\Q (.ref x) H2) E
def Binds (K:FG9) (fd:FuncData) (ps:List Str) (ds:List Value):Prop :=
 ∀(s:Shared) (us:List Value),K.In s.heap->(us++ds).length=ps.length->BindsTo s fd ⟨us,[]⟩ (ps.zip (us++ds))
theorem Binds.all {K:FG9} (h:∀us:List Value,us.length=ps.length->bindArgs fd ⟨us,[]⟩=pure (ps.zip us)):Binds K fd ps []:=λs us _ hl=>by
 rw[jY] at hl ⊢;exact .of_eq (h us hl)
def uI (CX:FI) (X:Cx) (E:XK):Prop:=∀(pins:List (Addr×Obj)) (σ:St) (H:Hp) (s:Shared) (e:Value) (s':Shared),Inv X pins σ H s->CX X.stack H s E e s'->X.xe e s'
section
variable {X:Cx} {CX:FI} {k:Nat} {f C:Addr} {fd:FuncData} {ps:List Str} {sp:Sp} {dvs:List V} {ds:List Value} {E:XK} {x m:Str} {p pos apos:Pos} {e o:Expr} {es:List Expr} {ta:TE} {t:TA}
theorem Gg {σ:St} (F:cw X.prog X.w X.K X.mg X.base CX k f fd ps sp) (hr:jm k X.A) (hb:Binds X.K fd ps ds) (hd:cp dvs ds) (hx:uI CX X E)
  (I:Inv X pins σ H s) (r:cp vs us) (h:sp (vs++dvs) H Q E):wpAny (model X.prog X.w) X.A (call (.ref f) us) (EP X pins σ Q) X.xe s:=by
 have r2:cp (vs++dvs) (us++ds):=r.append hd;have hl:(us++ds).length=ps.length:=by rw[<- r2.length];exact F.len _ _ _ _ h
 refine wpAny_call (codeAny_mono (F.run X.A X.stack s H ⟨us,[]⟩ (us++ds) (vs++dvs) Q E hr I.env0 (hb s us I.kIn hl) r2 h) λr s' hq=>?_);cases r with
 | error e=>exact hx pins σ H s e s' I hq
 | ok fl =>
  cases fl with
  | ret u=>exact I.after hq
  | next=>exact False.elim hq
  | brk=>exact False.elim hq
  | cont=>exact False.elim hq
theorem Jt (F:cw X.prog X.w X.K X.mg X.base CX k f fd ps sp) (hr:jm k X.A) (hg:Gl X x) (hm:X.mg x=some (.ref f)) (hk:PySem.W.keepIn X.K (.ref f)=true) (hb:Binds X.K fd ps ds) (hd:cp dvs ds) (hx:uI CX X E)
  (ha:PA X (e :: es) t) (hdb:(x == ("__debug__":Str))=false:=by decide) (he:starEach (e :: es) X.env=(false,eval e X.env) :: starEach es X.env:=by rfl) (hpl:(backTo pos (starEach es X.env)).any (·.1)=false:=by rfl) :
  PE X (.Call (.Name x p) (e :: es) [] pos) (FZ sp dvs E t):=by
 intro pins s σ H Q I h;refine wpAny_Call_Name_kw (p5 I hg hm ?_ hdb);refine qW (h₀:=X.base) I.ok.mod.kin hk (eY (ha pos pins s σ H _ I h) λus s1 ⟨vs,H1,I1,r,q⟩=>⟨I1.kIn,?_⟩) he hpl;exact Gg F hr hb hd hx I1 r q
theorem Eb {pl : Sem Bool} (he : PE X o ta) (c : FK X.K C) (hm : JU X.K C m f) (F : cw X.prog X.w X.K X.mg X.base CX k f fd ps sp) (hr : jm k X.A) (hb : Binds X.K fd ps ds) (hd : cp dvs ds) (hx : uI CX X E) (ha : PA X (e :: es) t)
    (hst : starEach (e :: es) X.env = (false, eval e X.env) :: starEach es X.env := by rfl) (hpl : (backTo pos (starEach es X.env)).any (·.1) = false := by rfl)
    (ht : eval (.Call (.Attribute o m apos) (e :: es) [] pos) X.env = (do
      let ov <- eval o X.env
      standAt apos.atName
      let (f, first) <- holding [ov] (getMethod ov m pl)
      callWith pos f first (backTo pos (starEach (e :: es) X.env)) (backToKw pos (keywordEach [] X.env))) := by rfl) :
    PE X (.Call (.Attribute o m apos) (e :: es) [] pos) (J7 C m sp dvs E ta t) := by
  intro pins s σ H Q I h;refine PySem.W.methodCall_KW (pl := pl) (eY (he pins s σ H _ I h) λu s1 ⟨x, H1, I1, rx, a, dx, fs, ex, ea, l, q⟩ => ?_) ht;subst ex;obtain rfl : u = Value.ref a := rx;refine DB I1 ea c hm l ?_;refine qW (first := [.ref a]) (h₀ := X.base) I.ok.mod.kin hm.kp (eY (ha pos pins s1 σ H1 _ I1 q) λus s2 ⟨vs, H2, I2, r, q2⟩ => ⟨I2.kIn, ?_⟩) hst hpl;exact Gg (us := .ref a :: us) (vs := .ref a :: vs) F hr hb hd hx I2 (.cons rfl r) q2
structure Mk (K:FG9) (C f:Addr):Prop where
 makes:PySem.W.makesIn K C=true
 init:PySem.W.findIn K (.ref C) "__init__"=some (some (.ref f))
 fn:PySem.W.isFn K (.ref f)=true
 kp:PySem.W.keepIn K (.ref C)=true
theorem Gf {σ:St} (M:Mk X.K C f) (F:cw X.prog X.w X.K X.mg X.base CX k f fd ps sp) (hr:jm (k+1) X.A) (hb:Binds X.K fd ps ds) (hd:cp dvs ds)
  (hx:uI CX X E) (I:Inv X pins σ H s) (r:cp vs us)
  (h:∀x dx,H x=none->H dx=none->dx≠x->sp (.ref x :: (vs++dvs)) (upd (upd H dx (.own x)) x (.ins C dx [])) (λv H2=>v=.non/\Q (.ref x) H2) E) :
  wpAny (model X.prog X.w) X.A (call (.ref C) us) (EP X pins σ Q) X.xe s:=by
 have hq:=h (s.heap.objs.size+1) s.heap.objs.size (I.hok.fresh (oB _)) (I.hok.fresh (av _)) (b9 (gC _));have I2:=Inv.made (C:=C) I;have r2:cp (V.ref (s.heap.objs.size+1) :: (vs++dvs)) (Value.ref (s.heap.objs.size+1) :: (us++ds)):=.cons rfl (r.append hd)
 have hl:(Value.ref (s.heap.objs.size+1) :: us++ds).length=ps.length:=by
  have e:=r2.length;rw[F.len _ _ _ _ hq] at e;exact e.symm
 refine wpAny_call (GW (f:=f) I.kIn M.makes M.init (beq_iff_eq.mp M.fn) (codeAny_mono (F.run _ X.stack _ _ ⟨Value.ref (s.heap.objs.size+1) :: us,[]⟩ (Value.ref (s.heap.objs.size+1) :: (us++ds)) _ _ E (hr.make C us [])
  (I2.env0.make C us []) (hb _ (Value.ref (s.heap.objs.size+1) :: us) I2.kIn hl) r2 hq) λr s' hq'=>?_))
 cases r with
 | error e=>exact hx pins σ _ _ e s' I2 hq'
 | ok fl =>
  cases fl with
  | ret u =>
   obtain ⟨v,H',I3,rv,ev,q3⟩:=I2.after hq';subst ev;exact ⟨rv,⟨V.ref (s.heap.objs.size+1),H',I3,rfl,q3⟩⟩
  | next=>exact False.elim hq'
  | brk=>exact False.elim hq'
  | cont=>exact False.elim hq'
theorem Ec (M:Mk X.K C f) (F:cw X.prog X.w X.K X.mg X.base CX k f fd ps sp) (hr:jm (k+1) X.A) (hg:Gl X x) (hm:X.mg x=some (.ref C)) (hb:Binds X.K fd ps ds) (hd:cp dvs ds) (hx:uI CX X E)
  (ha:PA X (e :: es) t) (hdb:(x == ("__debug__":Str))=false:=by decide) (he:starEach (e :: es) X.env=(false,eval e X.env) :: starEach es X.env:=by rfl) (hpl:(backTo pos (starEach es X.env)).any (·.1)=false:=by rfl) :
  PE X (.Call (.Name x p) (e :: es) [] pos) (J8 C sp dvs E t):=by
 intro pins s σ H Q I h;refine wpAny_Call_Name_kw (p5 I hg hm ?_ hdb);refine qW (h₀:=X.base) I.ok.mod.kin M.kp (eY (ha pos pins s σ H _ I h) λus s1 ⟨vs,H1,I1,r,q⟩=>⟨I1.kIn,?_⟩) he hpl;exact Gf M F hr hb hd hx I1 r q
end
structure a7 (N P:List Str) (sc:Scope):Prop where
 kind:sc.kind=.function
 co:sc.isCoroutine=false
 gen:sc.isGenerator=false
 nd:N.Nodup
 pre:N.take P.length=P
 par:∀x∈P,sc.names.lookup x=some .local\/sc.names.lookup x=some .cell
 nofree:∀y∈sc.names,y.2≠.free
theorem zK {kindOf:Str->Option NameKind} {x:Str}:∀{binds:List (Str×Value)} {m:Str->Option Value},(∀v,(x,v)∉binds)->bindL kindOf binds m x=m x
 | [],_,_=>rfl
 | (n,v) :: r,m,h=>by
  unfold bindL;rw[zK λw hw=>h w (bM _ hw)]
  split
  ·have:x≠n:=by rintro rfl;exact h v cT
   simp [this]
  ·rfl
theorem zM {kindOf:Str->Option NameKind} {x:Str}:∀{binds:List (Str×Value)} {m:Str->Option Value},(∀v,(x,v)∉binds)->bindC kindOf binds m x=m x
 | [],_,_=>rfl
 | (n,v) :: r,m,h=>by
  unfold bindC;rw[zM λw hw=>h w (bM _ hw)]
  split
  ·rfl
  ·have:x≠n:=by rintro rfl;exact h v cT
   simp [this]
theorem zL {kindOf:Str->Option NameKind} {x:Str} {v:Value}:∀{P:List Str} {vs:List Value} {i:Nat} {m:Str->Option Value},P.Nodup->P[i]?=some x->vs[i]?=some v->kindOf x=some .local →
  bindL kindOf (P.zip vs) m x=some v
 | [],_,_,_,_,h,_,_=>by simp at h
 | _ :: _,[],_,_,_,_,h,_=>by simp at h
 | p :: P,w :: vs,0,m,nd,h1,h2,hk=>by
  simp at h1 h2;subst h1;subst h2;show bindL kindOf ((p,w) :: P.zip vs) m p=_
  unfold bindL;rw[zK λv hv=>(dw.mp nd).1 (IA hv).1,if_pos hk];simp
 | p :: P,w :: vs,i+1,m,nd,h1,h2,hk=>by
  show bindL kindOf ((p,w) :: P.zip vs) m x=_
  unfold bindL;exact zL (i:=i) (dw.mp nd).2 (by simpa using h1) (by simpa using h2) hk
theorem zN {kindOf:Str->Option NameKind} {x:Str} {v:Value}:∀{P:List Str} {vs:List Value} {i:Nat} {m:Str->Option Value},P.Nodup->P[i]?=some x->vs[i]?=some v->kindOf x≠some .local →
  bindC kindOf (P.zip vs) m x=some v
 | [],_,_,_,_,h,_,_=>by simp at h
 | _ :: _,[],_,_,_,_,h,_=>by simp at h
 | p :: P,w :: vs,0,m,nd,h1,h2,hk=>by
  simp at h1 h2;subst h1;subst h2;show bindC kindOf ((p,w) :: P.zip vs) m p=_
  unfold bindC;rw[zM λv hv=>(dw.mp nd).1 (IA hv).1,if_neg hk];simp
 | p :: P,w :: vs,i+1,m,nd,h1,h2,hk=>by
  show bindC kindOf ((p,w) :: P.zip vs) m x=_
  unfold bindC;exact zN (i:=i) (dw.mp nd).2 (by simpa using h1) (by simpa using h2) hk
def start (N:List Str) (vs:List V):St:=vs.map some++List.replicate (N.length - vs.length) none
def yK (CX:FI) (P:Program) (w:World) (K:FG9) (mg:Str->Option Value) (base:Heap) (N:List Str) (qual:Str) (scope:Scope) (f:Addr) (cd:Value) (A:Around) (outer:List Env) (s:Shared) (H:Hp) (E:XK):Cx where
 prog:=P
 w:=w
 K:=K
 mg:=mg
 base:=base
 A:=A.deeper (envOfC qual scope s.heap.objs.size f cd)
 N:=N
 s₀:=s
 H₀:=H
 env:=envOfC qual scope s.heap.objs.size f cd
 outer:=outer
 stack:=envOfC qual scope s.heap.objs.size f cd :: outer
 ex:=[]
 calm:=true
 fn:=λ_=>true
 pn:=[]
 xe:=λe s'=>wpAny (model P w) (A.deeper (envOfC qual scope s.heap.objs.size f cd)) (leaving (envOfC qual scope s.heap.objs.size f cd) e) (λ_ s''=>CX outer H s E e s'') (λe' s''=>CX outer H s E e' s'') s'
theorem CI {sc:Scope} (h:sc.names.lookup x=some .cell):∃c,(cellsFrom n sc.names []).lookup x=some c:=by
 have q:=wD sc.names n [] (.inl h);exact tU.mp q
theorem Fo {K:FG9} 
  (S:a7 N ps scope) (hd:A.handled=none) (e0:DP P w K mg base A outer s H) (hl:vs.length=ps.length) (r:cp vs us)
  (x:InCallC s s.heap.objs.size (bindL (envOfC qual scope s.heap.objs.size f cd).kindOf (ps.zip us) λ_=>none) (cellsFrom (s.heap.objs.size+1) scope.names []) (bindC (envOfC qual scope s.heap.objs.size f cd).kindOf (ps.zip us) λ_=>none) s1) :
  Inv (yK CX P w K mg base N qual scope f cd A outer s H E) [] (start N vs) H s1:=by
 have hpl:ps.length<=N.length:=by have:=congrArg List.length S.pre;rw[bY] at this;lia
 obtain ⟨h1,tk,rfl,hk⟩:=x.done;have noA:∀b:Addr,b∉(yK CX P w K mg base N qual scope f cd A outer s H E).ex:=λb z=>absurd (show b∈([]:List Addr) from z) (by simp)
 refine ⟨⟨e0.mod,S.kind,rfl,rfl,av _,λy z c h1 h2=>?_,λy hy=>?_,λy c _ h=>?_,λ_=>hd,Around.frames_deeper e0.frames,.inr ⟨rfl,rfl⟩,λb z=>absurd z (noA b),e0.bs,e0.bsz,λb _ _=>noA b,λb z=>absurd z (noA b),e0.funs,e0.frf⟩,
  rfl,e0.bare,Un.kept hk,⟨_,x.toInCall.ns,λi y v h1 h2 h3=>?_⟩,λy c h=>⟨_,x.cell y c h⟩,e0.hok.fresh (av _),λy c h=>?_,λp hp=>absurd (show p∈([]:List (Addr×Obj)) from hp) (by simp),e0.hok.kept hk,?_⟩
 ·exact name_of_addr x.apart (jK h1) (jK h2)
 ·have hy:scope.names.lookup y=some .cell\/scope.names.lookup y=some .free:=hy;rcases hy with hy | hy
  ·exact CI hy
  ·exact absurd rfl (S.nofree _ (jK hy))
 ·exact aR (x.above y c (jK h))
 ·have hi:i < vs.length:=by
   unfold start at h2;by_cases hi:i < vs.length
   ·exact hi
   ·rw[cU (by simpa using hi)] at h2;rw[vP] at h2
    split at h2 <;> cases h2
  have ha:vs[i]?=some v:=by
   unfold start at h2;rw[dG (by simpa using hi),aB] at h2;cases e:vs[i]? with
   | none=>rw[e] at h2;cases h2
   | some a=>rw[e] at h2;cases h2;rfl
  obtain ⟨u,hu,rv⟩:=r.get ha
  have hp:ps[i]?=some y:=by
   rw[<- S.pre,c7 (by lia)];exact h1
  have ndP:ps.Nodup:=by rw[<- S.pre];exact S.nd.sublist (List.take_sublist _ _)
  refine ⟨u,rv,?_⟩;rcases S.par y (ao hp) with k | k
  ·exact .inl ⟨k,zL ndP hp hu k⟩
  ·obtain ⟨c,e⟩:=CI (n:=s.heap.objs.size+1) k;refine .inr ⟨.inl k,c,e,?_⟩;have q:=x.cell y c e;rw[zN ndP hp hu (by show scope.names.lookup y≠_;rw[k];decide)] at q;exact q
 ·exact e0.hok.fresh (aR (x.above y c (jK h)))
 ·unfold start;show _=N.length
  rw[az,ag,dM]
  lia
theorem Kr {K:FG9} {dV kV doc pm cdv ct oc:Value} 
 (lk:K.lookup f=some ⟨oc,od,.func (PySem.W.fnOf name qual params body scope dV kV doc pm an cdv ct),osl⟩) (hcd:PySem.W.codeIn K cdv qual=true) (S:a7 N ps scope)
  (len:∀vs H Q E,sp vs H Q E->vs.length=ps.length)
  (hbody:∀(A:Around) (outer:List Env) (s:Shared) (H:Hp) (vs:List V) (Q:VK) (E:XK),jm k (A.deeper (envOfC qual scope s.heap.objs.size f cdv))->sp vs H Q E →
   ∃t,Bj (yK CX P w K mg base N qual scope f cdv A outer s H E) body t/\t { nx:=λ_ H'=>Q .non H',rt:=Q } (start N vs) H) :
  cw P w K mg base CX (k+1) f (PySem.W.fnOf name qual params body scope dV kV doc pm an cdv ct) ps sp:=by
 refine ⟨len,λA outer s H args us vs Q E hr e0 hb r hsp=>?_⟩;have hl:=len _ _ _ _ hsp;have KX:K.In s.heap:=e0.mod.kin.keeps λb o e=>(e0.bs b o e).1
 have lim:s.heap.NoLimit:=e0.mod.nolimit.keeps λb o e=>(e0.bs b o e).1
 have hkind:∀y∈ps.zip us,scope.names.lookup y.1=some .local\/(scope.names.lookup y.1=some .cell/\((cellsFrom (s.heap.objs.size+1) scope.names []).lookup y.1).isSome=true):=λ⟨n,v⟩ hy=>by
  rcases S.par n (IA hy).1 with q | q
  ·exact .inl q
  ·exact .inr ⟨q,wD _ _ _ (.inl q)⟩
 refine codeAny_call_function hr.depth (KX _ _ lk) rfl S.co S.gen rfl (PySem.W.codeRec_of KX hcd) (hb _ _ _ _ ?_);refine wpAny_newFunctionEnv_cells S.kind hkind λenv he s1 x=>?_
 subst he;refine ⟨lim.keeps x.toInCall.keep,codeAny_func ?_⟩;obtain ⟨t,ht,hq⟩:=hbody A outer s H vs Q E (hr.deeper _) hsp;have I:Inv (yK CX P w K mg base N qual scope f cdv A outer s H E) [] (start N vs) H s1:=Fo S hr.hd e0 hl r x;refine wpAny_mono (ht [] s1 (start N vs) H _ I hq) (λfl s' hs=>?_) λe s' hs=>hs
 have fin:∀{σ':St} {H':Hp} {v:V} {u:Value},Inv (yK CX P w K mg base N qual scope f cdv A outer s H E) [] σ' H' s'->RelV v u->Q v H'->CE outer P w H s Q u s' :=
  λ{σ' H' v u} J rv q=>⟨v,H',J.os,J.bare,J.base,J.hok,rv,q⟩
 cases fl with
 | ret u =>
  obtain ⟨v,σ',H',J,rv,q⟩:=hs;exact fin J rv q
 | next =>
  obtain ⟨σ',H',J,q⟩:=hs;exact fin (v:=V.non) (u:=Value.none) J rfl q
 | brk =>
  obtain ⟨_,_,_,q⟩:=hs;exact False.elim q
 | cont =>
  obtain ⟨_,_,_,q⟩:=hs;exact False.elim q
section
variable {X:Cx} {x:Str} {p pos:Pos} {e:Expr} {es:List Expr} {t:TA} {id T:String} {r:List V->Hp->VK->Prop}
def NH (r:List V->Hp->VK->Prop) (t:TA):TE:=λσ H Q=>t σ H λvs H1=>r vs H1 Q
theorem bq (hc:mH X (.builtin id) r) (hg:Gl X x) (hm:X.mg x=none) (hv:bootBuiltins x=some (.builtin id)) (ha:PA X (e :: es) t) (hn:x≠"__name__":=by decide) (hdb:(x == ("__debug__":Str))=false:=by decide)
  (he:starEach (e :: es) X.env=(false,eval e X.env) :: starEach es X.env:=by rfl) (hpl:(backTo pos (starEach es X.env)).any (·.1)=false:=by rfl):PE X (.Call (.Name x p) (e :: es) [] pos) (NH r t):=by
 intro pins s σ H Q I h;refine wpAny_Call_Name_kw (gW I hg hm hv ?_ hn hdb);exact PyProof.Rows.callWith_builtin1 (eY (ha pos pins s σ H _ I h) λus s1 ⟨vs,H1,I1,r1,q1⟩=>hc pins s1 σ H1 vs us Q I1 r1 q1) he hpl
theorem eS (hc:mH X (.type T) r) (hg:Gl X x) (hm:X.mg x=none) (hv:bootBuiltins x=some (.type T)) (ha:PA X (e :: es) t) (hn:x≠"__name__":=by decide) (hdb:(x == ("__debug__":Str))=false:=by decide)
  (he:starEach (e :: es) X.env=(false,eval e X.env) :: starEach es X.env:=by rfl) (hpl:(backTo pos (starEach es X.env)).any (·.1)=false:=by rfl):PE X (.Call (.Name x p) (e :: es) [] pos) (NH r t):=by
 intro pins s σ H Q I h;refine wpAny_Call_Name_kw (gW I hg hm hv ?_ hn hdb);exact PyProof.Rows.callWith_type1 (eY (ha pos pins s σ H _ I h) λus s1 ⟨vs,H1,I1,r1,q1⟩=>hc pins s1 σ H1 vs us Q I1 r1 q1) he hpl
end
end L2
namespace HT
open PySem PyProof.Rows
section
open PySem.SeqAt
open PySem.AutoSeq1 (wpAny_loadPart')
open PySem.MeetsSeq PySem.MeetsSeq2 PySem.MeetsSeq3
end
section
variable {prog:Program} {w:World} {A:Around} {E:Value->Shared->Prop} {s:Shared}
def BZ (n d:Nat):Option Int->Nat
 | none=>d
 | some v=>if v < 0 then (v+(n:Int)).toNat else min v.toNat n
theorem xr (n d:Nat):BZ n d none=d:=rfl
theorem Au (n d k:Nat):BZ n d (some (k:Int))=min k n:=by
 show (if (k:Int) < 0 then ((k:Int)+(n:Int)).toNat else min (k:Int).toNat n)=min k n
 rw[if_neg (by lia),Int.toNat_natCast]
end
end HT
namespace L2
open PySem PySem.Spec PyProof.Rows
abbrev TO:=St->Hp->(Option Int->Hp->Prop)->Prop
def PO (X:Cx) (e:Option Expr) (t:TO):Prop :=
 ∀(pins:List (Addr×Obj)) (s:Shared) (σ:St) (H:Hp) (Q:Option Int->Hp->Prop),Inv X pins σ H s->t σ H Q →
  wpAny (model X.prog X.w) X.A (evalPart e X.env) (λu s'=>∃o H',Inv X pins σ H' s'/\IsPart u o/\Q o H') X.xe s
def DU:TO:=λ_ H Q=>Q none H
def JZ (t:TE):TO:=λσ H Q=>t σ H λx H1=>∃i,x=.int i/\Q (some i) H1
theorem intsAre_of:∀{us:List Value},cp (ns.map V.int) us->IntsAre us ns:=by
 induction ns with
 | nil=>intro us r;rw[List.map_nil] at r;cases r;exact .nil
 | cons n ns ih =>
  intro us r;rw[jR] at r;cases r with
  | cons r1 r2 =>
   obtain ⟨t,e⟩:=r1;subst e;exact .cons n t (ih r2)
section
variable {X:Cx} {e:Expr} {te:TE} {lo hi:Option Expr} {tl th:TO} {pos p2:Pos}
theorem Aw:PO X none DU:=by
 intro pins s σ H Q I h;rw[evalPart_none];exact wpAny_pure ⟨none,H,I,.none,h⟩
theorem Av (h:PE X e te):PO X (some e) (JZ te):=by
 intro pins s σ H Q I hw;rw[evalPart_some];refine eY (h pins s σ H _ I hw) λu s1 ⟨x,H1,I1,r1,q1⟩=>?_
 obtain ⟨i,rfl,q⟩:=q1;obtain ⟨t,rfl⟩:=r1;exact ⟨some i,H1,I1,.int i t,q⟩
def NV (X:Cx) (r:V->Option Int->Option Int->Hp->VK->Prop):Prop :=
 ∀(pins:List (Addr×Obj)) (s:Shared) (σ:St) (H:Hp) (x:V) (v vl vu:Value) (lo hi:Option Int) (sl:Addr) (Q:VK),Inv X pins σ H s->RelV x v->s.heap.IsSliceOf sl vl vu .none->IsPart vl lo->IsPart vu hi->r x lo hi H Q →
  ∃T id,typeLookup (.type T) "__getitem__"=pure (some (.builtin id))/\s.TypeIs v T/\wpAny (model X.prog X.w) X.A (getItem v (.ref sl)) (EP X pins σ Q) X.xe s
def tSl (r:V->Option Int->Option Int->Hp->VK->Prop) (te:TE) (tl th:TO):TE:=λσ H Q=>te σ H λx H1=>tl σ H1 λl H2=>th σ H2 λu H3=>r x l u H3 Q
theorem xA (hr:NV X r) (he:PE X e te) (hl:PO X lo tl) (hu:PO X hi th):PE X (.Subscript e (.Slice lo hi none p2) pos) (tSl r te tl th):=by
 intro pins s σ H Q I h;refine Subscript_ (eY (he pins s σ H _ I h) λv s1 ⟨x,H1,I1,r1,q1⟩=>?_);refine wpAny_Slice (eY (hl pins s1 σ H1 _ I1 q1) λvl s2 ⟨l,H2,I2,pl,q2⟩=>eY (hu pins s2 σ H2 _ I2 q2) λvu s3 ⟨u,H3,I3,pu,q3⟩=>?_);rw[evalPart_none];refine wpAny_pure ?_;have I4:Inv X pins σ H3 { s3 with heap:=s3.heap.push { cls:=.type "slice",data:=.fields #[vl,vu,.none] } }:=I3.kept (t':=s3.toks) λb ob q=>Heap.get?_push_of_some _ q
 obtain ⟨T,id,hT,ht,hg⟩:=hr pins { s3 with heap:=s3.heap.push { cls:=.type "slice",data:=.fields #[vl,vu,.none] } } σ H3 x v vl vu l u s3.heap.objs.size Q I4 r1 (Heap.IsSliceOf.new ..) pl pu q3;show wpAny (model X.prog X.w) X.A (subscriptTail e (.Slice lo hi none p2) v (.ref s3.heap.objs.size)) (EP X pins σ Q) X.xe { s3 with heap:=s3.heap.push { cls:=.type "slice",data:=.fields #[vl,vu,.none] } }
 exact tail_any (ops:=[.ref s3.heap.objs.size,v]) ht hT hg (by with_unfolding_all rfl)
def qe (xs:List V) (lo hi:Option Int):List V:=(xs.drop (HT.BZ xs.length 0 lo)).take (HT.BZ xs.length xs.length hi - HT.BZ xs.length 0 lo)
theorem vn (xs:List V) (lo hi:Option Int):(qe xs lo hi).length<=xs.length:=by
 unfold qe;rw[bY,List.length_drop]
 lia
end
def Iv (n:Nat) (i:Int):Option Nat:=if 0<=i then (if i < n then some i.toNat else none) else if -(n:Int)<=i then some (i+n).toNat else none
def FE {α:Type} (xs:List α) (i:Int):Option α:=(Iv xs.length i).bind λj=>xs[j]?
theorem Em (h:Iv n i=some j):seqIndex? i n=some j/\j < n/\-(n:Int)<=i/\i < n:=by
 unfold Iv at h;by_cases h0:0<=i
 ·rw[if_pos h0] at h;by_cases h1:i < n
  ·rw[if_pos h1] at h;have e:i.toNat=j:=bR h;exact ⟨by rw[seqIndex_of h0 h1,e],by lia,by lia,h1⟩
  ·rw[if_neg h1] at h;cases h
 ·rw[if_neg h0] at h;by_cases h1:-(n:Int)<=i
  ·rw[if_pos h1] at h;have e:(i+n).toNat=j:=bR h;exact ⟨by rw[seqIndex_neg (by lia) h1,e],by lia,h1,by lia⟩
  ·rw[if_neg h1] at h;cases h
theorem A8 {xs:List α} {v:α} (h:FE xs i=some v):∃j,seqIndex? i xs.length=some j/\xs[j]?=some v/\j < xs.length/\-(xs.length:Int)<=i/\i < xs.length:=by
 unfold FE at h;cases e:Iv xs.length i with
 | none=>rw[e] at h;cases h
 | some j =>
  rw[e] at h;obtain ⟨h1,h2,h3,h4⟩:=Em e;exact ⟨j,h1,h,h2,h3,h4⟩
theorem cX {xs:List α} {j:Nat} {v:α} (h:xs[j]?=some v):FE xs (j:Int)=some v:=by
 have hj:j < xs.length:=(aF.mp h).1
 have e:Iv xs.length (j:Int)=some j:=by
  unfold Iv;rw[if_pos (by lia),if_pos (by lia)];simp
 unfold FE;rw[e];exact h
def JT (b:Expr):Prop:=∀o i,subscripted b false o i=operate [o,i] (getItem o i)
def Nr (X:Cx) (r:R2):Prop :=
 ∀(value slice:Expr) (pins:List (Addr×Obj)) (s:Shared) (σ:St) (H:Hp) (x y:V) (v u:Value) (Q:VK),Inv X pins σ H s->RelV x v->RelV y u->r x y H Q →
  subscripted slice false v u=operate [v,u] (getItem v u)->wpAny (model X.prog X.w) X.A (subscriptTail value slice v u) (EP X pins σ Q) X.xe s
def MtR (X:Cx) (id:String) (r:V->List V->Hp->VK->Prop):Prop :=
 ∀(pins:List (Addr×Obj)) (s:Shared) (σ:St) (H:Hp) (x:V) (xs:List V) (v:Value) (us:List Value) (Q:VK),Inv X pins σ H s->RelV x v->cp xs us->r x xs H Q →
  wpAny (model X.prog X.w) X.A (call (.builtin id) (v :: us)) (EP X pins σ Q) X.xe s
section
variable {X:Cx} {a b:Expr} {ta tb:TE} {pos:Pos}
theorem aV {r:R2} (hr:Nr X r) (ha:PE X a ta) (hb:PE X b tb) (hs:JT b:=by intro _ _;rfl):PE X (.Subscript a b pos) (Mt r ta tb):=by
 intro pins s σ H Q I h;exact Subscript_ (LY ha hb I h λv u s2 x y H2 I2 rx ry q=>hr a b pins s2 σ H2 x y v u Q I2 rx ry q (hs _ _))
def Lk (K:FG9):R2:=λx y H Q=>∃p xs i v,x=.ref p/\y=.int i/\bD K H p xs/\FE xs i=some v/\Q v H
def Lj (K:FG9):R2:=λx y H Q=>∃p xs i v,x=.ref p/\y=.int i/\kz K H p xs/\FE xs i=some v/\Q v H
theorem bC:Nr X (Lk X.K):=by
 intro value slice pins s σ H x y v u Q I rx ry h hs;obtain ⟨p,xs,i,z,rfl,rfl,hq,he,q⟩:=h;cases rx;obtain ⟨t,rfl⟩:=ry;obtain ⟨its,r,pl,hz⟩:=I.list hq;obtain ⟨j,h1,h2,h3,h4,h5⟩:=A8 he;obtain ⟨w,ew,rw'⟩:=r.get h2;have hl:=r.length;have hn:=xQ;have fin:EP X pins σ Q w s:=⟨z,H,I,rw',q⟩;by_cases h0:0<=i
 ·have hj:i.toNat=j:=by
   rw[seqIndex_of h0 h5] at h1;exact bR h1
  exact item_listR pl.isList h0 (by lia) (by rw[hj];simpa using ew) fin hs
 ·have hj:(i+(its.toArray.size:Int)).toNat=j:=by
   rw[seqIndex_neg (by lia) h4] at h1;rw[aL,<- hl];exact bR h1
  exact subscriptTail_builtinR (x:=w) pl.isList.typeIs slot_list_getitem.lookup
   (wpAny_getItem_list_neg (Q:=λr s'=>r=w/\EP X pins σ Q r s') pl.isList (by lia) (by rw[aL] <;> lia) (by lia) (by rw[hj];simpa using ew) ⟨rfl,fin⟩) hs
theorem bJ:Nr X (Lj X.K):=by
 intro value slice pins s σ H x y v u Q I rx ry h hs;obtain ⟨p,xs,i,z,rfl,rfl,hq,he,q⟩:=h;cases rx;obtain ⟨t,rfl⟩:=ry;obtain ⟨its,r,pl,hz⟩:=I.tuple hq;obtain ⟨j,h1,h2,h3,h4,h5⟩:=A8 he;obtain ⟨w,ew,rw'⟩:=r.get h2;have hl:=r.length;have hn:=xQ;have fin:EP X pins σ Q w s:=⟨z,H,I,rw',q⟩
 exact subscriptTail_builtinR (x:=w) pl.typeIs slot_tuple_getitem.lookup
  (getItem_tuple (j:=j) (Q:=λr s'=>r=w/\EP X pins σ Q r s') pl (by lia) (by lia) (by rw[aL,<- hl];exact h1) (by simpa using ew) ⟨rfl,fin⟩) hs
theorem Dw (its:List Value) (n j:Nat) (u:Value):Obj.mapSeq (·.setIfInBounds j u) { cls:=.type "list",data:=.seq its.toArray n }={ cls:=.type "list",data:=.seq (its.set j u).toArray n }:=by
 simp [Obj.mapSeq]
theorem Inv.lst {pins:List (Addr×Obj)} {σ:St} {H:Hp} {s:Shared} {p:Addr} {xs:List V} (I:Inv X pins σ H s) (h:H p=some (.lst xs)) :
  ∃(its:List Value) (n:Nat),cp xs its/\s.heap.get? p=some { cls:=.type "list",data:=.seq its.toArray n }/\xs.length<=sizeLine:=by
 obtain ⟨z,its,n,r,e⟩:=I.hok p _ h;exact ⟨its,n,r,e,z⟩
theorem Inv.lstUpd {σ:St} {its its':List Value} (I:Inv X pins σ H s) (h:H p=some (.lst xs))
  (ho:s.heap.get? p=some { cls:=.type "list",data:=.seq its.toArray n }) (hf:f { cls:=.type "list",data:=.seq its.toArray n }={ cls:=.type "list",data:=.seq its'.toArray n' }) (r:cp ys its') (hz:ys.length<=sizeLine) (t:Nat) :
  Inv X pins σ (upd H p (.lst ys)) { s with heap:=s.heap.update p f,toks:=t }:=by
 have e:(s.heap.update p f).get? p=some { cls:=.type "list",data:=.seq its'.toArray n' }:=by
  rw[Heap.get?_update_self f ho (by rw[hf] <;> rfl),hf]
 refine I.write (x:=p) (e:=p) (by rw[h];trivial) (.inl rfl) (λb u hb q=>(Heap.get?_update_other _ _ (Ne.symm hb)).trans q) ⟨_,e⟩ ?_;exact ⟨hz,its',n',r,e⟩
def Ke:V->V->V->Hp->(Hp->Prop)->Prop:=λo i v H Q=>∃p xs k j,o=.ref p/\i=.int k/\H p=some (.lst xs)/\Iv xs.length k=some j/\Q (upd H p (.lst (xs.set j v)))
theorem set_list:LZ X Ke:=by
 intro pins s σ H o i v ov iv u Q I ro ri rv h;obtain ⟨p,xs,k,j,rfl,rfl,hp,hj,q⟩:=h;cases ro;obtain ⟨t,rfl⟩:=ri;obtain ⟨its,n,r,ho,hz⟩:=I.lst hp;obtain ⟨h1,h2,h3,h4⟩:=Em hj;have hl:=r.length;have hn:=xQ
 have I':Inv X pins σ (upd H p (.lst (xs.set j v))) { s with heap:=s.heap.update p (Obj.mapSeq (·.setIfInBounds j u)) } :=
  I.lstUpd hp ho (Dw its n j u) (r.set rv j) (by rw[dA];exact hz) s.toks
 by_cases h0:0<=k
 ·have hk:k.toNat=j:=by
   rw[seqIndex_of h0 h4] at h1;exact bR h1
  exact PySem.W.ki_setAt ho h0 (by lia) (by rw[aL,<- hl];exact h4) (by rw[hk];exact ⟨_,I',q⟩)
 ·have hk:(k+(its.toArray.size:Int)).toNat=j:=by
   rw[seqIndex_neg (by lia) h3] at h1;rw[aL,<- hl];exact bR h1
  exact PySem.W.ki_setBack ho (by lia) (by rw[aL,<- hl];exact h3) (by lia) (by rw[hk];exact ⟨_,I',q⟩)
theorem Ag (lo hi:Option Int) (n:Nat):(sliceBounds lo hi none n).1=((HT.BZ n 0 lo:Nat):Int)/\(sliceBounds lo hi none n).2.1=((HT.BZ n n hi:Nat):Int)/\(sliceBounds lo hi none n).2.2=1:=by
 refine ⟨?_,?_,rfl⟩
 ·cases lo with
  | none=>simp [sliceBounds,HT.BZ]
  | some i =>
   simp only[sliceBounds,HT.BZ,Option.getD_none,show (1:Int) > 0 by decide,if_true];by_cases h:i < 0
   ·simp only[h,if_true] <;> lia
   ·simp only[h,if_false] <;> lia
 ·cases hi with
  | none=>simp [sliceBounds,HT.BZ]
  | some i =>
   simp only[sliceBounds,HT.BZ,Option.getD_none,show (1:Int) > 0 by decide,if_true];by_cases h:i < 0
   ·simp only[h,if_true] <;> lia
   ·simp only[h,if_false] <;> lia
theorem yA (its:List Value) (lo hi:Option Int):slicePick its.toArray lo hi none=((its.drop (HT.BZ its.length 0 lo)).take (HT.BZ its.length its.length hi - HT.BZ its.length 0 lo)).toArray:=by
 obtain ⟨h1,h2,h3⟩:=Ag lo hi its.toArray.size;unfold slicePick;rw[h1,h2,h3];simp only[sliceRange_one,pick_run,aL] <;> rfl
def Lf (K:FG9):V->Option Int->Option Int->Hp->VK->Prop:=λx lo hi H Q=>∃a xs,x=.ref a/\bD K H a xs/\∀p,H p=none->Q (.ref p) (upd H p (.lst (qe xs lo hi)))
theorem Ah:NV X (Lf X.K):=by
 intro pins s σ H x v vl vu lo hi sl Q I rx hs pl pu h;obtain ⟨a,xs,rfl,hx,q⟩:=h;cases rx;obtain ⟨its,r,ht,hz⟩:=I.list hx;have hlen:=r.length;refine ⟨"list",_,slot_list_getitem.lookup,ht.isList.typeIs,?_⟩;refine wpAny_getItem_list_slice ht.isList hs pl pu .none (by simp) ?_ (by rw[aL] <;> lia);rw[yA,<- hlen];refine ⟨.ref s.heap.objs.size,_,I.laid (t':=s.toks) (o:=.lst (qe xs lo hi)) (λb ob q=>Heap.get?_push_of_some _ q) (av _) ?_,rfl,q _ (I.hok.fresh (av _))⟩;exact ⟨ar (vn xs lo hi) hz,_,0,(r.drop (HT.BZ xs.length 0 lo)).take (HT.BZ xs.length xs.length hi - HT.BZ xs.length 0 lo),Heap.get?_push_size _ rfl⟩
theorem aX:mH X (.builtin "len") (λxs H Q=>∃p ys,xs=[.ref p]/\(bD X.K H p ys\/kz X.K H p ys)/\Q (.int ys.length) H):=by
 intro pins s σ H xs us Q I r h;obtain ⟨p,ys,rfl,hq,q⟩:=h;obtain ⟨u,rfl,rx⟩:=vals1 r;cases rx;have hn:=xQ;rcases hq with hq | hq
 ·obtain ⟨its,r',pl,hz⟩:=I.list hq;have hlen:=r'.length;exact Calls.call_len_list pl.isList (by simp only[aL] <;> lia) ⟨.int ys.length,H,I.tok _,⟨s.toks+1,by rw[aL,hlen]⟩,q⟩
 ·obtain ⟨its,r',pl,hz⟩:=I.tuple hq;have hlen:=r'.length;exact len_tuple pl (by simp only[aL] <;> lia) ⟨.int ys.length,H,I.tok _,⟨s.toks+1,by rw[aL,hlen]⟩,q⟩
theorem oi:mH X (.type "list") (λxs H Q=>∃p ys,xs=[.ref p]/\(bD X.K H p ys\/kz X.K H p ys)/\∀l,H l=none->Q (.ref l) (upd H l (.lst ys))):=by
 intro pins s σ H xs us Q I r h;obtain ⟨p,ys,rfl,hq,q⟩:=h;obtain ⟨u,rfl,rx⟩:=vals1 r;cases rx
 have fin:∀(its:List Value),cp ys its->ys.length<=sizeLine->∀(h':Heap) (c':Nat),(∀b o',s.heap.get? b=some o'->h'.get? b=some o') →
   h'.get? s.heap.objs.size=some { cls:=.type "list",dict:=none,data:=.seq its.toArray c',slots:=#[] }->EP X pins σ Q (.ref s.heap.objs.size) { s with heap:=h' }:=λits r' hz h' c' kp e =>
  ⟨.ref s.heap.objs.size,_,I.laid (t':=s.toks) kp (av _) (show fy X.prog X.w _ h' _ (.lst ys) from ⟨hz,its,c',r',e⟩),rfl,q _ (I.hok.fresh (av _))⟩
 rcases hq with hq | hq
 ·obtain ⟨its,r',pl,hz⟩:=I.list hq;have hlen:=r'.length;obtain ⟨o,ho,hc,n,hd⟩:=pl.isList;exact call_list_seq p (.inl rfl) ho hc hd (λh' c' kp e=>fin its r' hz h' c' kp e) (by simp only[aL] <;> lia)
 ·obtain ⟨its,r',pl,hz⟩:=I.tuple hq;have hlen:=r'.length;obtain ⟨o,ho,hc,n,hd⟩:=pl;exact call_list_seq p (.inr rfl) ho hc hd (λh' c' kp e=>fin its r' hz h' c' kp e) (by simp only[aL] <;> lia)
def NG (K:FG9) (T:String) (x:V) (H:Hp):Prop:=match x with
 | .str _=>T="str"
 | .int _=>T="int"
 | .ref p=>(T="list"/\∃xs,bD K H p xs)\/(T="tuple"/\∃o,K.lookup p=some o/\o.cls=.type "tuple"/\o.dict=none) \/
   (T="dict"/\((∃kvs,H p=some (.dK kvs))\/∃kvs,H p=some (.dT kvs)))\/(T="set"/\∃S n,H p=some (.set S n))
 | _=>False
theorem KH {σ:St} (I:Inv X pins σ H s) (r:RelV x v) (ty:NG X.K T x H) :
  s.TypeIs v T/\∀a,v=.ref a->∃ob,s.heap.get? a=some ob/\ob.dict=none:=by
 cases x with
 | str z =>
  obtain ⟨t,rfl⟩:=r;cases (show T="str" from ty);exact ⟨typeIs_str s z t,λ_ e=>nomatch e⟩
 | int i =>
  obtain ⟨t,rfl⟩:=r;cases (show T="int" from ty);exact ⟨typeIs_int s i t,λ_ e=>nomatch e⟩
 | ref p =>
  cases r;rcases ty with ⟨rfl,xs,hq⟩ | ⟨rfl,o,hk,hc,hd⟩ | ⟨rfl,hk⟩ | ⟨rfl,S,n,hk⟩
  ·obtain ⟨its,_,pl,_⟩:=I.list hq;refine ⟨pl.isList.typeIs,λa e=>?_⟩;cases e;obtain ⟨o,n,e,c,hd,_⟩:=pl;exact ⟨o,e,hd⟩
  ·refine ⟨⟨o,I.kIn p o hk,hc⟩,λa e=>?_⟩;cases e;exact ⟨o,I.kIn _ o hk,hd⟩
  ·have z:∃o,s.heap.get? p=some o/\o.ExactDict:=by
    rcases hk with ⟨kvs,hk⟩ | ⟨kvs,hk⟩
    ·obtain ⟨_,_,_,_,o,_,_,e,ex,_⟩:=I.hok p _ hk;exact ⟨o,e,ex⟩
    ·obtain ⟨_,_,_,_,o,_,_,e,ex,_⟩:=I.hok p _ hk;exact ⟨o,e,ex⟩
   obtain ⟨o,e,ex⟩:=z;refine ⟨⟨o,e,ex.1⟩,λa e2=>?_⟩;cases e2;exact ⟨o,e,ex.2.1⟩
  ·obtain ⟨o,_,_,_,e,ex,_⟩:=I.hok p _ hk;refine ⟨⟨o,e,ex.1⟩,λa e2=>?_⟩;cases e2;exact ⟨o,e,ex.2.1⟩
 | _=>exact False.elim ty
def tBM (K:FG9) (T:String) (r:V->List V->Hp->VK->Prop) (to:TE) (t:TA):TE:=λσ H Q=>to σ H λx H1=>NG K T x H1/\t σ H1 λxs H2=>r x xs H2 Q
variable {o e:Expr} {es:List Expr} {to:TE} {t:TA} {name:Str} {apos cpos:Pos} {T id:String} {r:V->List V->Hp->VK->Prop}
theorem zd (pa:PlainAttrs T) (slot:Slot T name id) (hty:typeOf (.builtin id)=pure (.type "method_descriptor")) (hm:MtR X id r) (ho:PE X o to) (ha:PA X (e :: es) t)
  (hbase:attributeBase o name X.env (eval o X.env)=eval o X.env:=by rfl)
  (hfew:((backTo cpos (starEach (e :: es) X.env)).all (λx=>!x.1) && (backToKw cpos (keywordEach [] X.env)).all (λx=>x.1.isSome)
   && decide ((e :: es).length+([]:List Keyword).length+(if ([]:List Keyword).isEmpty then 0 else 1) < 30))=true:=by rfl)
  (hline:(apos.endLine == cpos.line)=true:=by rfl) (hs:starEach (e :: es) X.env=(false,eval e X.env) :: starEach es X.env:=by rfl) (hplain:(backTo cpos (starEach es X.env)).any (·.1)=false:=by rfl) :
  PE X (.Call (.Attribute o name apos) (e :: es) [] cpos) (tBM X.K T r to t):=by
 intro pins s σ H Q I h;refine wpAny_Call_method_late hbase hfew hline rfl (eY (ho pins s σ H _ I h) λv s1 ⟨x,H1,I1,r1,ty,q1⟩=>?_);obtain ⟨h1,h2⟩:=KH I1 r1 ty;refine ⟨T,id,pa,slot,hty,h1,h2,?_⟩;have hA:=ha cpos pins s1 σ H1 _ I1 q1;rw[hs] at hA ⊢;refine Calls.callWith_builtin (by show (false || (backTo cpos (starEach es X.env)).any (·.1))=false;rw[hplain] <;> rfl) (Calls.evalArgs_plain ?_);exact eY hA λus s2 ⟨vs,H2,I2,r2,q2⟩=>hm pins s2 σ H2 x vs v us Q I2 r1 r2 q2
end
def MtM (X:Cx) (id:String) (r:V->List V->Hp->VK->Prop):Prop :=
 ∀(pins:List (Addr×Obj)) (s:Shared) (σ:St) (H:Hp) (x:V) (xs:List V) (v:Value) (us:List Value) (Q:VK),Inv X pins σ H s->RelV x v->cp xs us->r x xs H Q →
  wpAny (model X.prog X.w) X.A (call (.builtin id) (v :: us)) (EP X pins σ Q) X.xe s
theorem cp.one:∀{x:V} {us:List Value},cp [x] us->∃u,us=[u]/\RelV x u
 | _,_,.cons r .nil=>⟨_,rfl,r⟩
theorem cp.eraseIdx:∀{xs:List V} {us:List Value} (i:Nat),cp xs us->cp (xs.eraseIdx i) (us.eraseIdx i)
 | _,_,_,.nil=>.nil
 | _,_,0,.cons _ t=>t
 | _,_,i+1,.cons r t=>.cons r (cp.eraseIdx i t)
theorem cp.rep {xs:List V} {us:List Value} (h:cp xs us):∀k:Nat,cp (List.replicate k xs).flatten (List.replicate k us).flatten
 | 0=>.nil
 | k+1=>by
  rw[jL,jL,kX,kX];exact cp.append h (cp.rep h k)
theorem zj {α:Type}:∀(l:List α) (i:Nat),(l.eraseIdx i).length<=l.length
 | [],_=>av _
 | _ :: _,0=>oB _
 | _ :: r,i+1=>cY (zj r i)
theorem foldl_rep (its:List Value):∀(k:Nat) (acc:List Value),
  List.foldl (λx1 x2=>x1++x2) acc.toArray (List.replicate k its.toArray)=(acc++(List.replicate k its).flatten).toArray
 | 0,acc=>by simp
 | k+1,acc=>by
  have e:acc.toArray++its.toArray=(acc++its).toArray:=by simp
  have e2:(acc++its)++(List.replicate k its).flatten=acc++(List.replicate (k+1) its).flatten:=by
   rw[jL,kX,bX]
  rw[<- e2,<- foldl_rep its k (acc++its),<- e,jL,List.foldl_cons]
section
variable {X:Cx} {pins:List (Addr×Obj)} {σ:St} {H:Hp} {s:Shared} {l b:Addr} {xs ys zs:List V}
theorem Inv.lset {its its':List Value} (I:Inv X pins σ H s) (hH:H l=some (.lst xs))
  (e:s.heap.get? l=some { cls:=.type "list",data:=.seq its.toArray n }) (hf:f its.toArray=its'.toArray) (hv:cp ys its') (hz:ys.length<=sizeLine) :
  Inv X pins σ (upd H l (.lst ys)) { s with heap:=s.heap.update l (Obj.mapSeq f),toks:=t' }:=by
 have q:=jz e f;rw[hf] at q;refine I.write (x:=l) (e:=l) (by rw[hH];exact trivial) (.inl rfl) (λb' u hb hu=>(Heap.get?_update_other s.heap (Obj.mapSeq f) (Ne.symm hb)).trans hu) ⟨_,q⟩ ?_;exact ⟨hz,its',_,hv,q⟩
theorem Inv.lnew (I:Inv X pins σ H s) (hv:cp ys its) (hz:ys.length<=sizeLine) :
  Inv X pins σ (upd H s.heap.objs.size (.lst ys)) { s with heap:=s.heap.push { cls:=.type "list",data:=.seq its.toArray },toks:=t' } :=
 I.laid (λ_ _ q=>Heap.get?_push_of_some _ q) (av _) ⟨hz,its,0,hv,Heap.get?_push_size _ rfl⟩
theorem Inv.fresh (I:Inv X pins σ H s):H s.heap.objs.size=none:=I.hok.fresh (av _)
theorem Inv.lstM (I:Inv X pins σ H s) (hH:H l=some (.lst xs)):xs.length<=sizeLine/\∃(its:List Value) (n:Nat),cp xs its/\xs.length=its.length/\s.heap.get? l=some { cls:=.type "list",data:=.seq its.toArray n }:=by
 obtain ⟨z,its,n,r,e⟩:=I.hok l _ hH;exact ⟨z,its,n,r,r.length,e⟩
theorem GO (h:n<=sizeLine):Builtin.List.listTooLong n=false:=by
 unfold Builtin.List.listTooLong;exact decide_eq_false (by lia)
end
section
variable {X:Cx}
def D8:V->List V->Hp->VK->Prop:=λx vs H Q=>∃l xs y,x=.ref l/\vs=[y]/\H l=some (.lst xs)/\xs.length < sizeLine/\Q .non (upd H l (.lst (xs++[y])))
theorem ma:MtM X "list.append" D8:=by
 intro pins s σ H x vs v us Q I rx rv h;obtain ⟨l,xs,y,rfl,rfl,hH,hz,q⟩:=h;cases rx;obtain ⟨u,rfl,ru⟩:=rv.one;obtain ⟨z,its,n,r,hl,e⟩:=I.lstM hH;refine call_meets F.slot_list_append ⟨_,e,rfl⟩ F.entry_list_append (F.args_list_append_2 _ _) (PySem.list_append l its.toArray n u (by rw[aL];lia)) ⟨e,?_⟩;refine ⟨.non,_,I.lset (its':=its++[u]) hH e (by simp) (r.append (.cons ru .nil)) ?_,rfl,q⟩;rw[az,cA]
 lia
def Lh:V->List V->Hp->VK->Prop:=λx vs H Q=>∃l xs i k y,x=.ref l/\vs=[.int i]/\H l=some (.lst xs)/\-(2^63)<=i/\i < 2^63/\seqIndex? i xs.length=some k/\xs[k]?=some y/\Q y (upd H l (.lst (xs.eraseIdx k)))
theorem GU:MtM X "list.pop" Lh:=by
 intro pins s σ H x vs v us Q I rx rv h;obtain ⟨l,xs,i,k,y,rfl,rfl,hH,h1,h2,hk,hy,q⟩:=h;cases rx;obtain ⟨u,rfl,ru⟩:=rv.one;obtain ⟨t,rfl⟩:=ru;obtain ⟨z,its,n,r,hl,e⟩:=I.lstM hH;obtain ⟨w,hw,rw'⟩:=r.get hy
 refine call_meets F.slot_list_pop ⟨_,e,rfl⟩ F.entry_list_pop (F.args_list_pop_2 _ _)
  (MeetsSeq.list_pop_at l its.toArray n i t k w (fitsIndex_both h1 h2) (by rw[aL,<- hl];exact hk) (by rw[<- Array.getElem?_toList];exact hw) (by rw[aL];lia)) ⟨e,?_⟩
 refine ⟨y,_,I.lset (its':=its.eraseIdx k) hH e ?_ (r.eraseIdx k) ?_,rw',q⟩
 ·show its.toArray.eraseIdxIfInBounds k=(its.eraseIdx k).toArray
  rw[List.eraseIdxIfInBounds_toArray]
 ·have:=zj xs k
  lia
def MV:R2:=λx y H Q=>∃l b xs zs,x=.ref l/\y=.ref b/\H l=some (.lst xs)/\H b=some (.lst zs)/\xs.length+zs.length<=sizeLine/\∀p,H p=none->Q (.ref p) (upd H p (.lst (xs++zs)))
theorem m8:wC X (binaryOp .Add) MV:=by
 intro pins s σ H x y v u Q I rx ry h;obtain ⟨l,b,xs,zs,rfl,rfl,hH,hB,hz,q⟩:=h;cases rx;cases ry;obtain ⟨z,its,n,r,hl,e⟩:=I.lstM hH;obtain ⟨z2,its2,n2,r2,hl2,e2⟩:=I.lstM hB;refine PySem.P.add_list e e2 ?_ (by rw[aL,aL];lia);have ea:its.toArray++its2.toArray=(its++its2).toArray:=by simp
 rw[ea];exact ⟨.ref _,_,I.lnew (t':=s.toks) (r.append r2) (by rw[az];lia),rfl,q _ I.fresh⟩
def MT:R2:=λx y H Q=>∃l k xs,x=.ref l/\y=.int k/\H l=some (.lst xs)/\-(2^63)<=k/\k < 2^63/\xs.length*k.toNat<=sizeLine /\
 ∀p,H p=none->Q (.ref p) (upd H p (.lst (List.replicate k.toNat xs).flatten))
theorem len_rep {α:Type} (xs:List α) (k:Nat):(List.replicate k xs).flatten.length=k*xs.length:=by
 induction k with
 | zero=>simp
 | succ k ih=>rw[jL,kX,az,ih,wG,Nat.add_comm]
theorem GI:wC X (binaryOp .Mult) MT:=by
 intro pins s σ H x y v u Q I rx ry h;obtain ⟨l,k,xs,rfl,rfl,hH,h1,h2,hz,q⟩:=h;cases rx;obtain ⟨t,rfl⟩:=ry;obtain ⟨z,its,n,r,hl,e⟩:=I.lstM hH;have hlen:its.toArray.size*k.toNat<=sizeLine:=by rw[aL,<- hl];exact hz
 have hcap:¬its.toArray.size*k.toNat > (2^63 - 1) / 8:=by
  have:(sizeLine:Nat)<=(2^63 - 1) / 8:=by decide
  lia
 have hfit:¬(!Builtin.List.listFitsIndex k)=true:=by
  rw[fitsIndex_both h1 h2];exact br
 have hlong:¬Builtin.List.listTooLong (its.toArray.size*k.toNat)=true:=by
  rw[GO hlen];exact br
 have hnew:List.foldl (λx1 x2=>x1++x2) #[] (List.replicate (if its.toArray.isEmpty=true then 0 else k.toNat) its.toArray)=(List.replicate k.toNat its).flatten.toArray:=by
  have f0:∀m:Nat,List.foldl (λx1 x2=>x1++x2) #[] (List.replicate m its.toArray)=(List.replicate m its).flatten.toArray:=λm=>by
   have:=foldl_rep its m [];rw[cL] at this;exact this
  rw[f0];cases its with
  | nil=>simp
  | cons a r'=>rw[if_neg (by simp)]
 refine wpAny_binaryOp_repeat_ref (T:="list") (U:="int") (by decide) ⟨_,e,rfl⟩ (λs'=>typeIs_int s' k t) noFill_list_mul F.fills_int_mul F.slot_int_rmul repeat_list F.slot_int_index.lookup
  (call_meets F.slot_int_rmul (typeIs_int s k t) F.entry_int_rmul (F.args_int_rmul_2 _ _) (int___rmul___int_list k t l its.toArray n)
   ⟨e,rfl,⟨_,e,rfl⟩,call_meets F.slot_list_mul ⟨_,e,rfl⟩ F.entry_list_mul (F.args_list_mul_2 _ _) (AutoListH.list___mul___list_int_3 l its.toArray n k t hfit hcap hlong) ⟨e,?_⟩⟩)
 rw[hnew];exact ⟨.ref _,_,I.lnew (t':=s.toks) (r.rep k.toNat) (by rw[len_rep,cB];exact hz),rfl,q _ I.fresh⟩
end
end L2
namespace Att
open PySem PySem.W PySem.Calls PyProof.Rows
theorem vT:∀(ns:List Int) (vs:List Value),WellAll P h vs (ns.map WData.int)->IntsAre vs ns:=by
 intro ns
 induction ns with
 | nil =>
  intro vs w;rw[List.map_nil] at w;cases w;exact .nil
 | cons n ns ih =>
  intro vs w;rw[jR] at w;cases w with
  | cons a b =>
   cases a;exact .cons _ _ (ih _ b)
theorem E2 {l:OpenLaw} (hn:l.most=some n) 
  (hpre:l.row.toRowW.claim.pre args=true) (hwl:WellAll P h vals args) :
  ∃a vs ns,vals=[Value.ref a]/\args=[WData.list (ns.map WData.int)]/\h.get? a=some { cls:=.type "list",data:=.seq vs.toArray }/\IntsAre vs ns/\ns.length<=n:=by
 have hsh:WShape.hasAll [] args [.list .int]=true:=(pre_splitW hpre).1;have hc:l.pre.holds [] { args:=args }=true:=(pre_splitW hpre).2;obtain ⟨d,r,rfl,h1,h2⟩:=hasAllW_cons hsh;obtain rfl:=hasAllW_nil h2;obtain ⟨xs,rfl,h3⟩:=hasW_list h1;obtain ⟨ns,rfl⟩:=items_int h3
 have hlen:ns.length<=n:=by
  unfold OpenLaw.pre at hc
  have h4:(WTm.not (.lt (.lit (.int (n:Int))) (.len (.arg 0)))).holds [] { args:=[.list (ns.map .int)] }=true:=by
   have h4:=(holds_andW hc).1;rw[hn] at h4;exact h4
  have h5:=condW_of h4 (w_not (w_lt w_lit (w_len_list (w_arg rfl))));rw[ag] at h5;refine Nat.le_of_not_lt λq=>?_
  have q':(n:Int) < ((ns.length:Nat):Int):=by lia
  first
   | (rw[decide_eq_true q'] at h5;exact absurd h5 (by decide))
   | (simp at h5;lia)
 cases hwl with
 | cons w1 w2 =>
  cases w2;cases w1 with
  | list ho hall=>exact ⟨_,_,ns,rfl,rfl,ho,vT ns _ hall,hlen⟩
theorem Fb (l:OpenLaw) (args:List WData):l.row.toRowW.claim.post args (.bool true) args=true :=
 postW_of (r:=l.row.toRowW) (X:=(true == true))
  (show WShape.has [] (.bool true) .bool=true by first | rfl | decide | simp [WShape.has,WShape.arms,WShape.armsAll])
  (show (WTm.eq .res (.lit (.bool true))).value [] { args:=args,res:=some (.bool true),after:=args }=some (.bool (true == true)) from w_eq_bool (w_res rfl) w_lit) rfl
theorem CL {l:OpenLaw} 
  (hn:l.most=some n) (hdf:d.params.defaults=[])
  (call:∀(w:World) (s₀ s₁:Shared) (mg mb:Str->Option Value) (fa:Addr) (o:Obj) (pm cd doc:Value) (a:Addr) (vs:List Value) (ns:List Int),
   Ground q loose [] XP w s₀ mg mb s₁.heap->YP w s₁.heap →
   s₁.heap.get? fa=some o->o.data=.func (docDef d.name d.params d.body d.scope pm cd doc)->s₁.heap.CodeRec cd d.name->mg d.name=some (.ref fa) →
   s₁.heap.get? a=some { cls:=.type "list",data:=.seq vs.toArray }->IntsAre vs ns->ns.length<=n->s₁.gens=#[] →
   codeAny (model l.prog w) callerA (.call (.ref fa) ⟨[.ref a],[]⟩) (λr s'=>r=.ok (.ret (.bool true))/\OldK s₁.heap s'.heap/\s'.os=s₁.os/\AllBare s'.gens) s₁) :
  WalkO q loose XP YP l.row.toRowW d [] (λf vs=>PySem.call f vs):=by
 intro w s₀ s₁ mg mb G Y fa o pm cd doc dV kV ho hd hcd hD hmg hg args vals as hpre hlay hrd hwl hlo;obtain rfl:dV=.none:=Dflts.none hD hdf;obtain rfl:kV=.none:=Dflts.noKw hD;obtain ⟨a,vs,ns,rfl,rfl,hobj,hints,hlen⟩:=E2 hn hpre hwl;refine enter_call (codeAny_mono (call w s₀ s₁ mg mb fa o pm cd doc a vs ns G Y ho (fd_plain hd) hcd hmg hobj hints hlen hg) λr s' hq=>?_);obtain ⟨rfl,h2,h3,h4⟩:=hq;exact ⟨.inl ⟨.bool true,.bool true,[],rfl,λ_=>rfl,.bool true,Fb l _,λ_=>⟨List.Pairwise.nil,λ_ hm=>(nomatch hm)⟩⟩,h2,h3,h4⟩
section
variable {prog:Program} {w:World} {A:Around} {E:Value->Shared->Prop} {s:Shared} {K:Frag}
end
end Att
namespace L2
open PySem PySem.Spec PyProof.Rows
theorem yS:∀{vs:List Value} {ns:List Int},IntsAre vs ns->cp (ns.map V.int) vs
 | _,_,.nil=>.nil
 | _,_,.cons n t h=>.cons ⟨t,rfl⟩ (yS h)
def L4 (H:Hp):Prop:=∀b,H b=none\/∃o xs,H b=some (.frz o (.lst xs))
theorem G0 {K:FG9} 
  (KX:K.In s₁.heap) (hns:s₁.heap.Ns mainGlobals mg) (hb:s₁.heap.Ns builtinsNs mb) (hbb:∀x:Str,x≠"__name__"->mb x=bootBuiltins x) (hlim:s₁.heap.NoLimit) (hg:s₁.gens=#[])
  (ha:s₁.heap.get? a=some { cls:=.type "list",data:=.seq vs.toArray }) (hi:IntsAre vs ns) (hl:ns.length<=sizeLine) (hr:jm k callerA)
  (F:∀base:Heap,K.In base->base.Ns mainGlobals mg->cw P w K mg base CX k fa fd [x] sp) (hbind:∀(s:Shared) (u:Value),BindsTo s fd ⟨[u],[]⟩ [(x,u)])
  (hsp:∀H:Hp,L4 H->bD K H a (ns.map V.int)->sp [.ref a] H (λv _=>v=.bl true) λ_ _ _=>False)
  (hCX:∀H e s',CX [] H s₁ (λ_ _ _=>False) e s'->False) :
  codeAny (model P w) callerA (.call (.ref fa) ⟨[.ref a],[]⟩) (λr s'=>r=.ok (.ret (.bool true))/\OldK s₁.heap s'.heap/\s'.os=s₁.os/\AllBare s'.gens) s₁:=by
 have rv:=yS hi;have lenV:=hi.length
 have core:∀H:Hp,L4 H->bD K H a (ns.map V.int)->uJ P w H s₁.heap->(∀b,H b≠none->b=a)->(H a≠none->K.lookup a=none) →
   codeAny (model P w) callerA (.call (.ref fa) ⟨[.ref a],[]⟩) (λr s'=>r=.ok (.ret (.bool true))/\OldK s₁.heap s'.heap/\s'.os=s₁.os/\AllBare s'.gens) s₁:=by
  intro H hO hS hok hA hK;have base_of:∀{b:Addr} {o:Obj},s₁.heap.get? b=some o->H b=none->(AV s₁.heap H).get? b=some o:=λe n=>HF e n
  have noA:∀{b:Addr} {o:Obj} {es:Array DictEntry} {ep:Nat},s₁.heap.get? b=some o->o.data=.dict es ep->H b=none:=λ{b o es ep} e d=>by
   cases q:H b with
   | none=>rfl
   | some u =>
    have e':b=a:=hA b (by rw[q];simp);subst e';rw[ha] at e;cases e;have d':Data.seq vs.toArray _=Data.dict es ep:=d;cases d'
  have nsK:∀{b:Addr} {m:Str->Option Value},s₁.heap.Ns b m->(AV s₁.heap H).Ns b m:=λ{b m} ⟨o,es,ep,e,d,r⟩=>⟨o,es,ep,base_of e (noA e d),d,r⟩
  have hKb:K.In (AV s₁.heap H):=λb o e=>base_of (KX b o e) (by
   cases q:H b with
   | none=>rfl
   | some u =>
    have e':b=a:=hA b (by rw[q];simp);subst e';rw[hK (by rw[q];simp)] at e;cases e)
  have hM:Mod K mg (AV s₁.heap H):=⟨hKb,nsK hns,⟨mb,nsK hb,hbb⟩,let ⟨mc,h1,h2⟩:=hlim;⟨mc,nsK h1,h2⟩⟩;have e0:DP P w K mg (AV s₁.heap H) callerA [] s₁ H:=⟨rfl,hM,λb o e=>Jw e,Nat.le_of_eq (Fq _ _),trivial,λb hb=>absurd (show b∈([]:List Addr) from hb) (by simp),hok,.of_eq hg⟩;refine codeAny_mono ((F _ hKb (nsK hns)).run callerA [] s₁ H ⟨[.ref a],[]⟩ [.ref a] [.ref a] _ _ hr e0 (hbind s₁ (.ref a)) (.cons rfl .nil) (hsp H hO hS)) λr s' h=>?_
  cases r with
  | error e=>exact (hCX H e s' h).elim
  | ok fl =>
   cases fl with
   | next=>exact False.elim h
   | brk=>exact False.elim h
   | cont=>exact False.elim h
   | ret u =>
    obtain ⟨v,H',os,bare,un,hok',r',q⟩:=h;have q':v=.bl true:=q;subst q';obtain rfl:u=Value.bool true:=r';refine ⟨rfl,OldK.of_keep λb o e=>?_,os,bare⟩;cases q:H b with
    | none=>exact un.keep b o e q (by intro z;exact absurd (show b∈([]:List Addr) from z) (by simp)) (by simp)
    | some u =>
     rcases hO b with z | ⟨ob,xs,z⟩
     ·rw[q] at z;cases z
     ·have z2:=un.frzs b ob _ z;obtain ⟨e1,_⟩:=hok b _ z;obtain ⟨e2,_⟩:=hok' b _ z2;rw[e] at e1;cases e1;exact e2
 cases hk:K.lookup a with
 | some o =>
  have e:=KX a o hk;rw[ha] at e;cases e;refine core (λ_=>none) (λ_=>.inl rfl) (.inr ⟨_,vs.toArray,_,hk,rfl,rfl,rfl,by rw[aL,lenV];exact hl,by simpa using rv⟩) (λb u z=>by have z':(none:Option HO)=some u:=z;cases z') (λb z=>absurd rfl z) λz=>absurd rfl z
 | none =>
  refine core (λb=>if b=a then some (.frz { cls:=.type "list",data:=.seq vs.toArray } (.lst (ns.map V.int))) else none) (λb=>?_) (.inl (.inr ⟨{ cls:=.type "list",data:=.seq vs.toArray },if_pos rfl⟩)) (λb u z=>?_) (λb z=>?_) λ_=>hk
  ·by_cases hb:b=a
   ·exact .inr ⟨_,_,if_pos hb⟩
   ·exact .inl (if_neg hb)
  ·by_cases hb:b=a
   ·have z':=(if_pos hb).symm.trans z;cases z';subst hb;exact ⟨ha,by rw[ag];exact hl,vs,_,rv,ha⟩
   ·have z':=(if_neg hb).symm.trans z;cases z'
  ·by_cases hb:b=a
   ·exact hb
   ·exact absurd (if_neg hb) z
theorem IG {l:PySem.W.OpenLaw} {K:Params->FG9} {CX:World->FI} {sp:World->Sp} 
  (hn:l.most=some n) (hn2:n<=sizeLine) (hdf:d.params.defaults=[]) (hr:jm k callerA)
  (hY:∀(w:World) (h:Heap),YP w h->(K w.params).In h)
  (F:∀(w:World) (mg:Str->Option Value) (fa:Addr) (h:Heap),(K w.params).In h->h.Ns mainGlobals mg->mg d.name=some (.ref fa) →
   ∃fd:FuncData,(∀(s:Shared) (u:Value),BindsTo s fd ⟨[u],[]⟩ [(x,u)]) /\
    ∀base:Heap,(K w.params).In base->base.Ns mainGlobals mg->cw l.prog w (K w.params) mg base (CX w) k fa fd [x] (sp w))
  (hsp:∀(w:World) (H:Hp) (a:Addr) (ns:List Int),ns.length<=n->L4 H->bD (K w.params) H a (ns.map V.int)->sp w [.ref a] H (λv _=>v=.bl true) λ_ _ _=>False)
  (hCX:∀(w:World) (H:Hp) (s:Shared) (e:Value) (s':Shared),CX w [] H s (λ_ _ _=>False) e s'->False) :
  PySem.W.WalkO q loose XP YP l.row.toRowW d [] (λf vs=>PySem.call f vs):=by
 refine Att.CL hn hdf λw s₀ s₁ mg mb fa o pm cd doc a vs ns G Y ho hd hcd hmg hobj hints hlen hg=>?_
 have KX:=hY w _ Y;obtain ⟨fd,hb,hF⟩:=F w mg fa _ KX G.T.g hmg;exact G0 KX G.T.g G.T.b G.T.builtins G.T.nolimit hg hobj hints (ar hlen hn2) hr hF hb (λH hO hS=>hsp w H a ns hlen hO hS) λH e s'=>hCX w H s₁ e s'
end L2

namespace L2
open PySem PySem.Spec PyProof.Rows
def inClass (s:Stmt) (j:Nat):Stmt:=match s with
 | .ClassDef _ _ _ body _ _ _ _ _ _ _=>body.getD j (.Pass ⟨0,0,0,0⟩)
 | _=>.Pass ⟨0,0,0,0⟩
def jx (s:Stmt):Arguments:=match s with
 | .FunctionDef _ a _ _ _ _ _ _ _ _=>a
 | _=>{ posonlyargs:=[],args:=[],vararg:=none,kwonlyargs:=[],kw_defaults:=[],kwarg:=none,defaults:=[] }
def fZ (s:Stmt):List Stmt:=match s with
 | .FunctionDef _ _ b _ _ _ _ _ _ _=>b
 | _=>[]
def aH (s:Stmt):Scope:=match s with
 | .FunctionDef _ _ _ _ _ _ sc _ _ _=>sc
 | _=>{ kind:=.function,names:=[],isGenerator:=false,isCoroutine:=false }
abbrev fJ:FI:=λ_ _ _ _ _ _=>False
abbrev E0:XK:=λ_ _ _=>False
theorem Ck:uI fJ X E0:=λ_ _ _ _ _ _ _ h=>h.elim
structure FH (K:FG9) (x qual:Str) (st:Stmt) (f:Addr) (fd:FuncData):Prop where
 ex:∃(oc:Value) (od:Option Addr) (kV doc pm:Value) (an:Option Addr) (cdv ct:Value) (osl:Array (Option Value)),
  fd=PySem.W.fnOf x qual (jx st) (fZ st) (aH st) .none kV doc pm an cdv ct/\K.lookup f=some ⟨oc,od,.func fd,osl⟩/\PySem.W.codeIn K cdv qual=true
 kp:PySem.W.keepIn K (.ref f)=true
section
variable {P:Program} {w:World} {K:FG9} {mg:Str->Option Value} {base:Heap}
theorem FH.ok {st:Stmt} (F:FH K x qual st f fd) (S:a7 N ps (aH st)) (len:∀vs H Q E,sp vs H Q E->vs.length=ps.length)
  (hbody:∀(cdv:Value) (A:Around) (outer:List Env) (s:Shared) (H:Hp) (vs:List V) (Q:VK) (E:XK),jm k (A.deeper (envOfC qual (aH st) s.heap.objs.size f cdv))->sp vs H Q E →
   ∃t,Bj (yK fJ P w K mg base N qual (aH st) f cdv A outer s H E).nox (fZ st) t/\t { nx:=λ_ H'=>Q .non H',rt:=Q } (start N vs) H):cw P w K mg base fJ (k+1) f fd ps sp:=by
 obtain ⟨oc,od,kV,doc,pm,an,cdv,ct,osl,rfl,lk,hcd⟩:=F.ex;refine Kr lk hcd S len λA outer s H vs Q E hr hsp=>?_
 obtain ⟨t,h,q⟩:=hbody cdv A outer s H vs Q E hr hsp;exact ⟨t,h.nox,q⟩
theorem FH.binds {st:Stmt} (F:FH K x qual st f fd)
  (h:∀(kV doc pm:Value) (an:Option Addr) (cdv ct:Value) (us:List Value),us.length=ps.length->bindArgs (PySem.W.fnOf x qual (jx st) (fZ st) (aH st) .none kV doc pm an cdv ct) ⟨us,[]⟩=pure (ps.zip us)):Binds K fd ps []:=by
 obtain ⟨oc,od,kV,doc,pm,an,cdv,ct,osl,rfl,lk,hcd⟩:=F.ex;exact .all (h kV doc pm an cdv ct)
theorem AX {st:Stmt} {kV doc pm cdv ct:Value} (l:K.lookup f=some ⟨oc,od,.func (PySem.W.fnOf x qual (jx st) (fZ st) (aH st) .none kV doc pm an cdv ct),osl⟩)
  (c:PySem.W.codeIn K cdv qual=true) (k:PySem.W.keepIn K (.ref f)=true):FH K x qual st f (PySem.W.fnOf x qual (jx st) (fZ st) (aH st) .none kV doc pm an cdv ct):=⟨⟨oc,od,kV,doc,pm,an,cdv,ct,osl,rfl,l,c⟩,k⟩
end
structure Df (K:FG9) (mg:Str->Option Value) (x:Str) (st:Stmt) (ps:List Str) (f:Addr) (fd:FuncData):Prop where
 m:mg x=some (.ref f)
 b:Binds K fd ps []
 F:FH K x x st f fd
structure Dh (K:FG9) (x:Str) (st:Stmt) (f:Addr) (fd:FuncData):Prop where
 a:PySem.W.nsIn K mainGlobals x=some (some (.ref f))
 F:FH K x x st f fd
theorem Nh {K:FG9} {st:Stmt} {kV doc pm cdv ct:Value} (a:PySem.W.nsIn K mainGlobals x=some (some (.ref f))) (l:K.lookup f=some ⟨oc,od,.func (PySem.W.fnOf x x (jx st) (fZ st) (aH st) .none kV doc pm an cdv ct),osl⟩) (c:PySem.W.codeIn K cdv x=true) (k:PySem.W.keepIn K (.ref f)=true):Dh K x st f (PySem.W.fnOf x x (jx st) (fZ st) (aH st) .none kV doc pm an cdv ct):=⟨a,AX l c k⟩
theorem Dh.D {K:FG9} {x:Str} {st:Stmt} {f:Addr} {fd:FuncData} {ps:List Str} {mg:Str->Option Value} {h:Heap} (d:Dh K x st f fd) (X:K.In h) (G:h.Ns mainGlobals mg) (hb:∀(kV doc pm:Value) (an:Option Addr) (cdv ct:Value) (us:List Value),us.length=ps.length->bindArgs (PySem.W.fnOf x x (jx st) (fZ st) (aH st) .none kV doc pm an cdv ct) ⟨us,[]⟩=pure (ps.zip us):=by walk_at "b"):Df K mg x st ps f fd:=⟨PySem.W.mg_of X G d.a,d.F.binds hb,d.F⟩
theorem cu {X:Cx} {k k':Nat} {f:Addr} {fd:FuncData} {ps:List Str} {sp:Sp} {x:Str} {st:Stmt} {p pos:Pos} {e:Expr} {es:List Expr} {t:TA} (F:cw X.prog X.w X.K X.mg X.base fJ k f fd ps sp) (hr:jm k' X.A) (D:Df X.K X.mg x st ps f fd) (ha:PA X (e :: es) t) (hle:k<=k':=by decide) (hg:Gl X x:=by exact rfl) (hdb:(x == ("__debug__":Str))=false:=by decide) (he:starEach (e :: es) X.env=(false,eval e X.env) :: starEach es X.env:=by rfl) (hpl:(backTo pos (starEach es X.env)).any (·.1)=false:=by rfl):PE X (.Call (.Name x p) (e :: es) [] pos) (FZ sp [] E0 t):=Jt F (hr.mono hle) hg D.m D.F.kp D.b .nil Ck ha hdb he hpl
theorem bB (h:n<=1000):n < sizeLine:=bc h (by decide)
section
variable {X:Cx}
theorem pv (i:Nat) {x:Str} {pos:Pos} (hN:X.N[i]?=some x:=by rfl) (hv:NS X.env.scope x:=by first | exact Or.inl rfl | exact Or.inr (Or.inl rfl) | exact Or.inr (Or.inr rfl)) (hd:(x == ("__debug__":Str))=false:=by decide)
  (hcd:(x == ("__classdict__":Str))=false:=by decide):PE X (.Name x pos) (KL i):=Ln hN hv hd hcd
end
theorem Jy {A B:Prop} (h:B):if false=true then A else B:=by
 rw[if_neg br];exact h
theorem M6 {A B:Prop} (h:A):if true=true then A else B:=by
 rw[if_pos rfl];exact h
theorem fq {c A B:Prop} [Decidable c] (h1:c->A) (h2:¬c->B):if c then A else B:=by
 by_cases h:c
 ·rw[if_pos h];exact h1 h
 ·rw[if_neg h];exact h2 h
def aE (H H':Hp):Prop:=∀b o,H b=some o->H' b=some o
theorem aE.refl (H:Hp):aE H H:=λ_ _ h=>h
theorem aE.trans (a:aE H H1) (b:aE H1 H2):aE H H2:=λc o h=>b c o (a c o h)
theorem aE.free (e:aE H H') (h:H' l=Option.none):H l=Option.none:=by
 cases q:H l with
 | none=>rfl
 | some o =>
  rw[e l o q] at h;cases h
theorem aE.seq {K:FG9} (e:aE H H') (h:bD K H a xs):bD K H' a xs:=by
 rcases h with (h | ⟨o,h⟩) | h
 ·exact .inl (.inl (e _ _ h))
 ·exact .inl (.inr ⟨o,e _ _ h⟩)
 ·exact .inr h
end L2
namespace Nm
theorem HK (a b:Int):Int.gcd b (a.fmod b)=Int.gcd a b:=by
 rw[Int.fmod_def,jB a b];apply Nat.dvd_antisymm
 ·apply Iu
  ·exact dR ..
  ·have h1:=dR (a:=b) (b:=a - b*a.fdiv b);have h2:=eG (a:=b) (b:=a - b*a.fdiv b);have h3:=Int.dvd_add h2 (kx (c:=a.fdiv b) h1);rwa [Int.sub_add_cancel] at h3
 ·apply Iu
  ·exact dR ..
  ·exact Int.dvd_sub (eG ..) (kx (dR ..))
theorem HL (a b:Int):Int.gcd b (a % b)=Int.gcd a b:=by
 rw[Int.emod_def,jB a b];apply Nat.dvd_antisymm
 ·apply Iu
  ·exact dR ..
  ·have h1:=dR (a:=b) (b:=a - b*(a / b));have h2:=eG (a:=b) (b:=a - b*(a / b));have h3:=Int.dvd_add h2 (kx (c:=a / b) h1);rwa [Int.sub_add_cancel] at h3
 ·apply Iu
  ·exact dR ..
  ·exact Int.dvd_sub (eG ..) (kx (dR ..))
theorem JD (a b:Int) (h:b≠0):(a.fmod b).natAbs < b.natAbs:=by
 rcases Int.lt_or_gt_of_ne h with h | h
 ·have e:a.fmod b=-((-a).fmod (-b)):=by
   have:=Int.neg_fmod_neg (-a) (-b);simp only[Int.neg_neg] at this;exact this
  have h1:=Int.fmod_nonneg_of_pos (-a) (b:=-b) (by lia);have h2:=Int.fmod_lt_of_pos (-a) (b:=-b) (by lia)
  lia
 ·have h1:=Int.fmod_nonneg_of_pos a h;have h2:=Int.fmod_lt_of_pos a h
  lia
def g (t b:Int):Int:=(Int.gcd t b:Int)
def lo (t b:Int):Int:=t / g t b
def hi (t b:Int):Int:=b / g t b
theorem xT (h:b≠0):0 < g t b:=by
 unfold g;have:0 < Int.gcd t b:=IC _ h
 lia
theorem xP (t b:Int):lo t b*g t b=t:=Int.ediv_mul_cancel (dR ..)
theorem uF (t b:Int):hi t b*g t b=b:=Int.ediv_mul_cancel (eG ..)
theorem AW (h:0 < b):0 < hi t b:=by
 have h1:=xT (t:=t) (b:=b) (by lia);have h2:=uF t b;by_cases h3:0 < hi t b
 ·exact h3
 ·have:hi t b*g t b<=0:=Int.mul_nonpos_of_nonpos_of_nonneg (by lia) (by lia)
  lia
theorem xN (h:b≠0):Int.gcd (lo t b) (hi t b)=1:=by
 have h1:=xT (t:=t) h;have e:=Int.gcd_mul_right (lo t b) (g t b) (hi t b);rw[xP,uF] at e;have e2:(g t b).natAbs=Int.gcd t b:=by unfold g;simp
 rw[e2] at e;have h2:0 < Int.gcd t b:=IC _ h;exact Nat.eq_of_mul_eq_mul_right h2 (by rw[<- e,tS])
theorem xO (t b:Int):lo t b*b=t*hi t b:=by
 have h1:=xP t b;have h2:=uF t b
 calc lo t b*b=lo t b*(hi t b*g t b):=by rw[h2]
  _=(lo t b*g t b)*hi t b:=by rw[eO (hi t b),<- c8]
  _=t*hi t b:=by rw[h1]
theorem nY (h:Int.gcd a b=1) (hd:a∣b*c):a∣c:=by
 have h1:a.natAbs∣b.natAbs*c.natAbs:=by rw[<- d5];exact dN.mpr hd
 have h2:Nat.Coprime a.natAbs b.natAbs:=h;exact dN.mp (h2.dvd_of_dvd_mul_left h1)
theorem uniq (hb:0 < b) (hd:0 < d) (h1:Int.gcd a b=1) (h2:Int.gcd c d=1) (e:a*d=c*b):a=c/\b=d:=by
 have e1:b∣d:=by
  have:b∣a*d:=⟨c,by rw[e,eO]⟩;exact nY (by rw[jB];exact h1) this
 have e2:d∣b:=by
  have:d∣c*b:=⟨a,by rw[<- e,eO]⟩;exact nY (by rw[jB];exact h2) this
 have e3:b=d:=Int.dvd_antisymm (by lia) (by lia) e1 e2;subst e3;exact ⟨qY (by lia) e,rfl⟩
theorem Ly (hb:0 < b) (hd:0 < d) (h2:Int.gcd c d=1) (e:t*d=c*b):lo t b=c/\hi t b=d:=by
 refine uniq (AW hb) hd (xN (by lia)) h2 ?_;have h:=xO t b;have hb':b≠0:=by lia
 apply qY hb'
 calc lo t b*d*b=lo t b*b*d:=by rw[c8,eO d b,<- c8]
  _=t*hi t b*d:=by rw[h]
  _=t*d*hi t b:=by rw[c8,eO (hi t b),<- c8]
  _=c*b*hi t b:=by rw[e]
  _=c*hi t b*b:=by rw[c8,eO b,<- c8]
theorem Lz (hb:0 < b) (h:Int.gcd a b=1):lo a b=a/\hi a b=b:=Ly hb hb h rfl
theorem lE {a b:Int} (h:b≠0):a.natAbs<=(a*b).natAbs:=by
 rw[d5];exact gD _ (Int.natAbs_pos.mpr h)
theorem lo_le (h:b≠0):(lo t b).natAbs<=t.natAbs:=by
 have:=lE (a:=lo t b) (b:=g t b) (by have:=xT (t:=t) h;lia);rwa [xP] at this
theorem Ko (h:b≠0):(hi t b).natAbs<=b.natAbs:=by
 have:=lE (a:=hi t b) (b:=g t b) (by have:=xT (t:=t) h;lia);rwa [uF] at this
def Sz (k:Nat) (x:Int):Prop:=x.natAbs < 2^k
theorem Sz.mono (h:Sz j x) (l:j<=k):Sz k x:=ba h (aw (by decide) l)
theorem Sz.mul (h1:Sz j x) (h2:Sz k y):Sz (j+k) (x*y):=by
 unfold Sz at *
 rw[d5,bS];exact Nat.mul_lt_mul'' h1 h2
theorem Sz.neg (h:Sz k x):Sz k (-x):=by unfold Sz at *;rw[z6];exact h
theorem Sz.le (h:Sz k y) (l:x.natAbs<=y.natAbs):Sz k x:=bc l h
theorem Sz.hi {k:Nat} {t b:Int} (h:Sz k b) (hb:b≠0):Sz k (hi t b):=h.le (Ko hb)
end Nm
namespace L2
open PySem PySem.Spec PyProof.Rows
structure Bk (env:Env) (scope:Scope) (own capN:List Str):Prop where
 kind:scope.kind=.function
 locs:∀y∈scope.names,y.2=.local->scope.names.lookup y.1=some .local
 ownk:∀x∈own,scope.names.lookup x=some .local\/scope.names.lookup x=some .cell
 cells:∀y∈scope.names,y.2=.cell->y.1∈own/\y.1∉capN
 frees:∀y∈scope.names,y.2=.free->y.1∈capN/\y.1∉own
 capf:∀x∈capN,scope.names.lookup x=some .free
 caps:∀x∈capN,env.kindOf x=some .cell\/env.kindOf x=some .free
def Nz (scope:Scope) (own capN:List Str):Bool :=
 decide (scope.kind=.function) && scope.names.all (λy=>decide (y.2=.local->scope.names.lookup y.1=some .local) && decide (y.2=.cell->y.1∈own/\y.1∉capN) && decide (y.2=.free->y.1∈capN/\y.1∉own)) &&
 own.all (λx=>decide (scope.names.lookup x=some .local\/scope.names.lookup x=some .cell)) && capN.all λx=>decide (scope.names.lookup x=some .free)
def zJ (env:Env):List Str->Bool
 | []=>true
 | x :: r=>(match env.kindOf x with | some .cell=>true | some .free=>true | _=>false) && zJ env r
theorem CJ {env:Env}:∀{capN:List Str},zJ env capN=true->∀x∈capN,env.kindOf x=some .cell\/env.kindOf x=some .free
 | [],_,_,h=>nomatch h
 | y :: r,h,x,hx=>by
  unfold zJ at h;rw[dS] at h;rcases aD.mp hx with e | hx
  ·subst e;have h1:=h.1
   split at h1
   ·rename_i e;exact .inl e
   ·rename_i e;exact .inr e
   ·cases h1
  ·exact CJ h.2 x hx
theorem Bk.of (h1:Nz scope own capN=true) (h2:zJ env capN=true):Bk env scope own capN:=by
 unfold Nz at h1;rw[dS,dS,dS,vQ,vQ,vQ] at h1;obtain ⟨⟨⟨a1,a2⟩,a3⟩,a4⟩:=h1
 have a2':∀y∈scope.names,(y.2=.local->scope.names.lookup y.1=some .local)/\(y.2=.cell->y.1∈own/\y.1∉capN)/\(y.2=.free->y.1∈capN/\y.1∉own):=λy hy=>by
  have q:=a2 y hy;rw[dS,dS] at q;exact ⟨of_decide_eq_true q.1.1,of_decide_eq_true q.1.2,of_decide_eq_true q.2⟩
 exact ⟨of_decide_eq_true a1,λy hy=>(a2' y hy).1,λx hx=>of_decide_eq_true (a3 x hx),λy hy=>(a2' y hy).2.1,λy hy=>(a2' y hy).2.2,λx hx=>of_decide_eq_true (a4 x hx),CJ h2⟩
def dk (env:Env):List (Str×NameKind)->List (Str×Addr)->List (Str×Addr)
 | [],acc=>acc
 | (n,k) :: r,acc=>if k == .free then dk env r ((n,(env.cells.lookup n).getD 0) :: acc) else dk env r acc
theorem gi (env:Env):∀(names:List (Str×NameKind)) (acc:List (Str×Addr)),dk env names acc=dk env names []++acc
 | [],_=>rfl
 | (n,k) :: r,acc=>by
  unfold dk
  split
  ·rw[gi env r (_ :: acc),gi env r [_],bX];rfl
  ·exact gi env r acc
theorem og (env:Env):∀(names:List (Str×NameKind)) {x:Str} {c:Addr},(x,c)∈dk env names []->(x,NameKind.free)∈names/\c=(env.cells.lookup x).getD 0
 | [],_,_,h=>nomatch h
 | (n,k) :: r,x,c,h=>by
  unfold dk at h
  split at h
  ·rename_i hk
   have ek:k=.free:=by simpa using hk
   subst ek;rw[gi] at h;rcases ax.mp h with h | h
   ·have q:=og env r h;exact ⟨bM _ q.1,q.2⟩
   ·have e:(x,c)=(n,(env.cells.lookup n).getD 0):=by simpa using h
    cases e;exact ⟨cT,rfl⟩
  ·have q:=og env r h;exact ⟨bM _ q.1,q.2⟩
theorem gV {α:Type}:∀{l:List (Str×α)} {x:Str} {c:α},(x,c)∈l->∃d,l.lookup x=some d
 | (k,v) :: r,x,c,h=>by
  rw[jA];cases hb:x == k with
  | true=>exact ⟨v,rfl⟩
  | false =>
   rcases aD.mp h with e | h
   ·cases e;simp at hb
   ·exact gV h
theorem oh (env:Env):∀(names:List (Str×NameKind)) {x:Str},(x,NameKind.free)∈names->∃c,(x,c)∈dk env names []
 | (n,k) :: r,x,h=>by
  unfold dk;rcases aD.mp h with e | h
  ·cases e;rw[if_pos (by decide),gi];exact ⟨_,bI _ cT⟩
  ·obtain ⟨c,q⟩:=oh env r h
   split
   ·rw[gi];exact ⟨c,fG _ q⟩
   ·exact ⟨c,q⟩
theorem yh (h:∀y∈scope.names,y.2=.free->∃c,env.cells.lookup y.1=some c):closureFor scope env=pure (dk env scope.names []):=by
 have gen:∀(names:List (Str×NameKind)) (acc:List (Str×Addr)) (f:Str×NameKind->List (Str×Addr)->Sem (ForInStep (List (Str×Addr)))),
   (∀name kind cells,f (name,kind) cells=if kind == .free then (do let a <- cellOf env name;pure (.yield ((name,a) :: cells))) else pure (.yield cells)) →
   (∀y∈names,y.2=.free->∃c,env.cells.lookup y.1=some c)->forIn names acc f=pure (dk env names acc):=by
  intro names
  induction names with
  | nil=>intro acc f hf _;rw[z5];rfl
  | cons y r ih =>
   intro acc f hf hh;obtain ⟨n,k⟩:=y;rw[IB,hf];unfold dk;by_cases hk:(k == NameKind.free)=true
   ·obtain ⟨c,hc⟩:=hh (n,k) cT (by simpa using hk);have hc':env.cells.lookup n=some c:=hc;have e:cellOf env n=pure c:=by unfold cellOf;rw[hc']
    rw[if_pos hk,if_pos hk,e,hc'];simp only[pure_bind,Option.getD_some];exact ih _ f hf λy hy=>hh y (bM _ hy)
   ·rw[if_neg hk,if_neg hk];simp only[pure_bind];exact ih _ f hf λy hy=>hh y (bM _ hy)
 simp only[closureFor];rw[gen scope.names [] _ (λname kind cells=>by cases hkc:kind == NameKind.free <;> simp [hkc]) h];rfl
theorem eJ:∀(names:List (Str×NameKind)) (n:Nat) (acc:List (Str×Addr)),cellsFrom n names acc=cellsFrom n names []++acc
 | [],_,_=>rfl
 | (x,k) :: r,n,acc=>by
  unfold cellsFrom
  split
  ·rw[eJ r (n+1) (_ :: acc),eJ r (n+1) [_],bX];rfl
  ·exact eJ r n acc
theorem jy:∀(names:List (Str×NameKind)) (n:Nat) {x:Str} {c:Addr},(x,c)∈cellsFrom n names []->(x,NameKind.cell)∈names
 | [],_,_,_,h=>nomatch h
 | (y,k) :: r,n,x,c,h=>by
  unfold cellsFrom at h
  split at h
  ·rename_i hk
   have ek:k=.cell:=by simpa using hk
   subst ek;rw[eJ] at h;rcases ax.mp h with h | h
   ·exact bM _ (jy r _ h)
   ·have e:(x,c)=(y,n):=by simpa using h
    cases e;exact cT
  ·exact bM _ (jy r _ h)
def uH (env:Env) (scope:Scope) (C:Addr):Env :=
 { scope:=relabel scope env,locals:=C,globals:=env.globals,cells:=cellsFrom (C+1) scope.names (dk env scope.names []),qual:=env.qual,func:=none,code:=env.code,frame:=env.frame,builtins:=env.builtins }
theorem Cr 
  (h:Q (newEnv scope s.heap.objs.size g (cellsFrom (s.heap.objs.size+1) scope.names cl) qual none .none (some env) builtinsNs) { s with heap:=pushCells (s.heap.push { cls:=.type "dict",data:=.dict #[] }) scope.names }) :
  wpAny M A (newFunctionEnv scope g cl [] qual none .none (some env)) Q E s:=by
 simp only[newFunctionEnv,Option.isSome_some,if_true];refine wpAny_bind (wpAny_alloc ?_);refine wpAny_bind (wpAny_layCells _ (λname kind cells=>by cases hkc:kind == NameKind.cell <;> simp [hkc]) _ _ _ _ ?_);rw[show ({ s with heap:=s.heap.push { cls:=.type "dict",data:=.dict #[] } }:Shared).heap.objs.size=s.heap.objs.size+1 from Heap.size_push ..];rw[z5];exact wpAny_bind (wpAny_pure (wpAny_pure h))
theorem sI:∀{k:NameKind},(relabel scope env).names.lookup x=some k->∃k0,scope.names.lookup x=some k0/\(k=k0\/(k0=.free/\k=.cell)):=by
 unfold relabel;show ∀{k:NameKind},(scope.names.map λ(n,k)=>if (k == NameKind.free && env.scope.kind == .function && env.kindOf n == some .cell) then (n,NameKind.cell) else (n,k)).lookup x=some k->_
 induction scope.names with
 | nil=>intro k h;cases h
 | cons y r ih =>
  intro k h;obtain ⟨n,k1⟩:=y;rw[jR,jA] at h;rw[jA];by_cases hc:(k1 == NameKind.free && env.scope.kind == .function && env.kindOf n == some .cell)=true
  ·simp only[hc,if_true] at h;cases hb:x == n with
   | true =>
    simp only[hb] at h
    have e1:k1=.free:=by
     rw[dS,dS] at hc;simpa using hc.1.1
    cases h;exact ⟨k1,rfl,.inr ⟨e1,rfl⟩⟩
   | false=>simp only[hb] at h;exact ih h
  ·have hc':(k1 == NameKind.free && env.scope.kind == .function && env.kindOf n == some .cell)=false:=by simpa using hc
   simp only[hc',gQ,if_false] at h;cases hb:x == n with
   | true=>simp only[hb] at h;cases h;exact ⟨_,rfl,.inl rfl⟩
   | false=>simp only[hb] at h;exact ih h
theorem Cb:scope.names.lookup x=some .free->(relabel scope env).names.lookup x=some .cell\/(relabel scope env).names.lookup x=some .free:=by
 unfold relabel;show _->(scope.names.map λ(n,k)=>if (k == NameKind.free && env.scope.kind == .function && env.kindOf n == some .cell) then (n,NameKind.cell) else (n,k)).lookup x=some .cell\/(scope.names.map λ(n,k)=>if (k == NameKind.free && env.scope.kind == .function && env.kindOf n == some .cell) then (n,NameKind.cell) else (n,k)).lookup x=some .free
 induction scope.names with
 | nil=>intro h;cases h
 | cons y r ih =>
  intro h;obtain ⟨n,k1⟩:=y;rw[jA] at h;rw[jR];by_cases hc:(k1 == NameKind.free && env.scope.kind == .function && env.kindOf n == some .cell)=true
  ·simp only[hc,if_true,jA];cases hb:x == n with
   | true=>exact .inl rfl
   | false=>rw[hb] at h;exact ih h
  ·have hc':(k1 == NameKind.free && env.scope.kind == .function && env.kindOf n == some .cell)=false:=by simpa using hc
   simp only[hc',gQ,if_false,jA];cases hb:x == n with
   | true=>rw[hb] at h;cases h;exact .inr rfl
   | false=>rw[hb] at h;exact ih h
structure Bz where
 s:Shared
 H:Hp
 fp:List Addr
 C:Addr
def vV (X:Cx) (own capN:List Str) (scope:Scope) (Z:Bz):Cx where
 prog:=X.prog
 w:=X.w
 K:=X.K
 mg:=X.mg
 base:=X.base
 A:=X.A
 N:=own++capN
 s₀:=Z.s
 H₀:=Z.H
 env:=uH X.env scope Z.C
 outer:=X.stack
 stack:=X.stack
 ex:=Z.fp
 fn:=λx=>own.contains x
 calm:=true
 pn:=[]
 xe:=λ_ _=>False
section
variable {X:Cx} {pins:List (Addr×Obj)} {σ:St} {own capN:List Str} {scope:Scope} {Z:Bz}
theorem hZ (B:Bk X.env scope own capN) (I:Inv X pins σ Z.H Z.s) (h:(uH X.env scope Z.C).cells.lookup x=some c) :
  (x∈own/\(x,c)∈cellsFrom (Z.C+1) scope.names [])\/(x∈capN/\x∉own/\X.env.cells.lookup x=some c):=by
 have h':(cellsFrom (Z.C+1) scope.names (dk X.env scope.names [])).lookup x=some c:=h;rw[eJ] at h';rcases ax.mp (mem_of_lookup h') with m | m
 ·exact .inl ⟨(B.cells _ (jy _ _ m) rfl).1,m⟩
 ·obtain ⟨m1,e⟩:=og _ _ m;obtain ⟨q1,q2⟩:=B.frees _ m1 rfl;obtain ⟨d,hd⟩:=I.ok.has x (B.caps x q1);rw[hd] at e;exact .inr ⟨q1,q2,by rw[hd,e];rfl⟩
theorem JO (B:Bk X.env scope own capN) (I:Inv X pins σ Z.H Z.s) (hx:x∈capN) (h:X.env.cells.lookup x=some c):(uH X.env scope Z.C).cells.lookup x=some c:=by
 have hm:(x,NameKind.free)∈scope.names:=mem_of_lookup (B.capf x hx);obtain ⟨c1,m1⟩:=oh X.env scope.names hm
 have hs:∃d,(uH X.env scope Z.C).cells.lookup x=some d:=by
  show ∃d,(cellsFrom (Z.C+1) scope.names (dk X.env scope.names [])).lookup x=some d
  rw[eJ];exact gV (bI _ m1)
 obtain ⟨d,hd⟩:=hs;rcases hZ B I hd with ⟨q,m⟩ | ⟨_,_,q⟩
 ·exact absurd hx (B.cells _ (jy _ _ m) rfl).2
 ·rw[h] at q;cases q;exact hd
theorem Fd (h:Heap) (C:Addr) (hC:h.objs.size=C+1) (names:List (Str×NameKind)):CellsOk (pushCells h names) (C+1) (cellsFrom (C+1) names []):=by
 have q:=cellsFrom_ok names h (C+1) [] ⟨λ_ _ hm=>(nomatch hm),List.Pairwise.nil⟩ (by rw[hC];exact av _);rwa [hC] at q
theorem A6 (I:Inv X pins σ Z.H Z.s) (h:X.env.cells.lookup x=some c):@LT.lt Nat instLTNat c Z.s.heap.objs.size:=by
 obtain ⟨v,q⟩:=I.cell x c h;exact q.lt
theorem LX (I:Inv X pins σ Z.H Z.s) (hc:X.calm=true) (B:Bk X.env scope own capN) (hC:Z.s.heap.objs.size<=Z.C) (hcl:CellsOk h1 (Z.C+1) (cellsFrom (Z.C+1) scope.names []))
  (hf:∀b∈Z.fp,jo X pins Z.H b/\@LT.lt Nat instLTNat b Z.s.heap.objs.size):(vV X own capN scope Z).Ok:=by
 refine ⟨I.ok.mod,B.kind,I.ok.glob,I.ok.blt,hC,λx y c h1 h2=>?_,λx hx=>?_,λx c hx h=>?_,λ_=>I.ok.hd hc,I.ok.frames,.inl rfl,λb hb=>⟨?_,λx c h=>?_⟩,I.bs,ar I.ok.bsz I.sz,λb o e hb=>?_,λb hb hz=>?_,I.stack,I.stkFree⟩
 ·rcases hZ B I h1 with ⟨q1,m1⟩ | ⟨q1,n1,m1⟩ <;> rcases hZ B I h2 with ⟨q2,m2⟩ | ⟨q2,n2,m2⟩
  ·exact name_of_addr hcl.apart m1 m2
  ·have l1:=(hcl.empty _ _ m1).2;have l2:=A6 I m2
   lia
  ·have l1:=(hcl.empty _ _ m2).2;have l2:=A6 I m1
   lia
  ·exact I.ok.inj x y c m1 m2
 ·have hx':(relabel scope X.env).names.lookup x=some .cell\/(relabel scope X.env).names.lookup x=some .free:=hx
  have hk:scope.names.lookup x=some .cell\/scope.names.lookup x=some .free:=by
   rcases hx' with h | h
   ·obtain ⟨k0,e,q | ⟨q,_⟩⟩:=sI h
    ·exact .inl (by rw[e,<- q])
    ·exact .inr (by rw[e,q])
   ·obtain ⟨k0,e,q | ⟨_,q⟩⟩:=sI h
    ·exact .inr (by rw[e,<- q])
    ·cases q
  show ∃c,(cellsFrom (Z.C+1) scope.names (dk X.env scope.names [])).lookup x=some c
  rcases hk with h | h
  ·exact tU.mp (wD scope.names (Z.C+1) _ (.inl h))
  ·obtain ⟨c,m⟩:=oh X.env scope.names (mem_of_lookup h);rw[eJ];exact gV (bI _ m)
 ·have ho:x∈own:=by have hx':own.contains x=true:=hx;simpa using hx'
  rcases hZ B I h with ⟨_,m⟩ | ⟨_,n,_⟩
  ·have:=(hcl.empty _ _ m).2;have hC':Z.s.heap.objs.size<=Z.C:=hC;show Z.s.heap.objs.size<=c
   lia
  ·exact absurd ho n
 ·intro e;have e':@Eq Nat b Z.C:=e;have:=(hf b hb).2
  lia
 ·have l:=(hf b hb).2;rcases hZ B I h with ⟨_,m⟩ | ⟨_,_,m⟩
  ·intro e;have e':@Eq Nat c b:=e;have:=(hcl.empty _ _ m).2
   lia
  ·exact (hf b hb).1.2.2.2.2.1 x c m
 ·obtain ⟨_,_,_,f3,_⟩:=(hf b hb).1;rcases f3 with f3 | f3
  ·exact I.ok.noex b o e f3
  ·exact absurd (ba (Heap.lt_size e) (ar I.ok.bsz f3)) (dZ _)
 ·obtain ⟨_,f1,f2,_⟩:=(hf b hb).1;rcases aD.mp (I.stkSub b hz) with e | e
  ·exact f1 e
  ·exact f2 e
def FJ (k:Nat) (cap:List Nat) (σ:St):St:=List.replicate k none++cap.map λj=>(σ[j]?).join
def vK (X:Cx) (capN:List Str) (cap:List Nat):Prop:=cap.map (λj=>X.N[j]?)=capN.map some
theorem vK.get (h:vK X capN cap) {i:Nat} (e:capN[i]?=some x):∃j,cap[i]?=some j/\X.N[j]?=some x:=by
 have q:=congrArg (λl=>l[i]?) h;simp only[aB,e,Option.map_some] at q;cases hc:cap[i]? with
 | none=>rw[hc] at q;cases q
 | some j=>rw[hc] at q;exact ⟨j,rfl,by simpa using q⟩
theorem CK (I:Inv X pins σ Z.H Z.s) (B:Bk X.env scope own capN) (hcap:vK X capN cap)
  (kc:∀x c,X.env.cells.lookup x=some c->∀v,Z.s.heap.IsCell c v->h'.IsCell c v) {i:Nat} (e1:(own++capN)[i]?=some x) (e2:(FJ own.length cap σ)[i]?=some (some v)) :
  ∃u,RelV v u/\Look (uH X.env scope Z.C) h' m x u:=by
 have hi:own.length<=i:=by
  by_cases hi:own.length<=i
  ·exact hi
  ·exfalso
   unfold FJ at e2;rw[dG (by simpa using hi),vP] at e2
   split at e2 <;> cases e2
 rw[cU hi] at e1;unfold FJ at e2;rw[cU (by simpa using hi),dM,aB] at e2;obtain ⟨j,hj,hN⟩:=hcap.get e1;rw[hj] at e2;have e3:(σ[j]?).join=some v:=by simpa using e2
 have e4:σ[j]?=some (some v):=by
  cases q:σ[j]? with
  | none=>rw[q] at e3;cases e3
  | some o=>rw[q] at e3;simp at e3;rw[e3]
 have hx:x∈capN:=ao e1;have hk:=B.caps x hx;obtain ⟨m0,_,hl⟩:=I.loc;obtain ⟨u,r,l⟩:=hl j x v hN e4 (.inr hk);refine ⟨u,r,.inr ⟨Cb (B.capf x hx),?_⟩⟩;rcases l with ⟨hk2,_⟩ | ⟨_,c,hc,z⟩
 ·rcases hk with hk | hk
  ·rw[hk] at hk2;cases hk2
  ·rw[hk] at hk2;cases hk2
 ·exact ⟨c,JO B I hx hc,kc x c hc _ z⟩
theorem Ng (I:Inv X pins σ Z.H Z.s) (h:b∈wm X.stack):@LT.lt Nat instLTNat b Z.s.heap.objs.size:=by
 obtain ⟨_,o,ho,_⟩:=I.stack.mem h;exact Heap.lt_size ho
theorem JM {D:Addr} (I:Inv X pins σ Z.H Z.s) (hc:X.calm=true) (B:Bk X.env scope own capN) (hcap:vK X capN cap) (hC:Z.s.heap.objs.size<=Z.C)
  (hcl:CellsOk h1 (Z.C+1) (cellsFrom (Z.C+1) scope.names [])) (hf:∀b∈Z.fp,jo X pins Z.H b/\@LT.lt Nat instLTNat b Z.s.heap.objs.size)
  (hk:∀b o,Z.s.heap.get? b=some o->h1.get? b=some o) (hn:h1.Ns Z.C λ_=>none) (hD:Z.s.heap.objs.size<=D) (hDC:D≠Z.C) (hoD:h1.get? D=some oD) (hdD:∀v,oD.data≠.cell v) :
  Inv (vV X own capN scope Z) [(D,oD)] (FJ own.length cap σ) Z.H { Z.s with heap:=h1,toks:=t1 }:=by
 refine ⟨LX I hc B hC hcl hf,rfl,I.bare,Un.kept hk,⟨_,hn,λi x v e1 e2 _=>CK I B hcap (λx c _ v z=>z.keeps hk) e1 e2⟩,λx c h=>?_,I.hok.fresh hC,λx c h=>?_,λp hp=>?_,I.hok.kept hk,?_⟩
 ·rcases hZ B I h with ⟨_,m⟩ | ⟨_,_,m⟩
  ·exact ⟨none,(hcl.empty _ _ m).1⟩
  ·obtain ⟨v,q⟩:=I.cell x c m;exact ⟨v,q.keeps hk⟩
 ·rcases hZ B I h with ⟨_,m⟩ | ⟨_,_,m⟩
  ·exact I.hok.fresh (by have:=(hcl.empty _ _ m).2;lia)
  ·exact I.freeC x c m
 ·have e:p=(D,oD):=by simpa [vV] using hp
  subst e;exact ⟨hoD,I.hok.fresh hD,hDC,λz=>dZ _ (ba (Ng I z) hD),hdD⟩
 ·show (FJ own.length cap σ).length=(own++capN).length
  have:=congrArg List.length hcap;simp only[ag] at this;unfold FJ;simp [this]
theorem Io {σ':St} (I:Inv X pins σ Z.H Z.s) (B:Bk X.env scope own capN) (hcap:vK X capN cap) (hf:∀b∈Z.fp,jo X pins Z.H b/\@LT.lt Nat instLTNat b Z.s.heap.objs.size)
  (J:Inv (vV X own capN scope Z) pins' σ' H' s'):Inv (vV X own capN scope Z) pins' (FJ own.length cap σ) H' s':=by
 refine ⟨J.ok,J.os,J.bare,J.base,?_,J.cell,J.free,J.freeC,J.pin,J.hok,?_⟩
 ·obtain ⟨m,hn,_⟩:=J.loc;refine ⟨m,hn,λi x v e1 e2 _=>CK I B hcap (λx c hx v z=>?_) e1 e2⟩;obtain ⟨o,ho,hd⟩:=z;obtain ⟨sl,e⟩:=J.base.any ho (I.freeC x c hx) λz=>(hf c z).1.2.2.2.2.1 x c hx rfl
  exact ⟨_,e,hd⟩
 ·show (FJ own.length cap σ).length=(own++capN).length
  have:=congrArg List.length hcap;simp only[ag] at this;unfold FJ;simp [this]
theorem JN {σ':St} {D:Addr} (I:Inv X pins σ Z.H Z.s) (hf:∀b∈Z.fp,jo X pins Z.H b/\@LT.lt Nat instLTNat b Z.s.heap.objs.size) (hD:Z.s.heap.objs.size<=D)
  (J:Inv (vV X own capN scope Z) [(D,{ cls:=.type "list",data:=.seq its.toArray n })] σ' H' s') (r:cp ys its) (hz:ys.length<=sizeLine) :
  Inv X pins σ (upd H' D (.lst ys)) s':=by
 have pD:=J.pin (D,{ cls:=.type "list",data:=.seq its.toArray n }) (by simp);have ne:∀{b:Addr} {o:Obj},Z.s.heap.get? b=some o->b≠D:=λe z=>by subst z;exact dZ _ (ba (Heap.lt_size e) hD)
 have nt:∀{b:Addr} {u:HO},H' b=some u->b≠D:=λe z=>by rw[z,pD.2.1] at e;cases e
 refine I.call' (ch:=Z.fp) J.os ⟨J.base.keep,J.base.slot,λb o e h hx=>?_,J.base.there,λb xs e=>?_,λb o u e=>?_,λb ps e=>?_⟩ (λb u e=>?_) J.bare λb hb=>?_
 ·rw[a9 (ne e)];exact J.base.free b o e h hx
 ·have q:=J.base.tups b xs e;rw[a9 (nt q)];exact q
 ·have q:=J.base.frzs b o u e;rw[a9 (nt q)];exact q
 ·obtain ⟨more,q⟩:=J.base.tbls b ps e;exact ⟨more,by rw[a9 (nt q)];exact q⟩
 ·by_cases hb:b=D
  ·subst hb;rw[aG] at e;cases e;exact ⟨hz,its,n,r,pD.1⟩
  ·rw[a9 hb] at e;exact (J.hok b u e).stay (λc v _ q=>q) (λc q=>by rw[a9 (nt q)];exact q) λc xs q=>by rw[a9 (nt q)];exact q
 ·obtain ⟨_,f1,_,f3,f4,f5⟩:=(hf b hb).1;exact ⟨f3,f1,f4,f5⟩
end
theorem KJ {t:Sem α} {Q Q':α->Shared->Prop} (h:wpAny M A t Q (λ_ _=>False) s) (hQ:∀a s,Q a s->Q' a s):wpAny M A t Q' E s :=
 wpAny_mono h hQ λ_ _ z=>False.elim z
theorem A4 (I:Nat->Shared->Prop)
  (turn:∀(E:Value->Shared->Prop) n s,I n s->wpAny (model prog w) A (pyNext it) (λr s₁=>match r with
   | none=>R (.ok .next) s₁
   | some v=>wpAny (model prog w) A (letOwnedTupleGo target it v) (λ_ s₂=>wpAny (model prog w) A (assign target env v) (λ_ s₃ =>
     wpAny (model prog w) A (forIn ifs true λc r=>if r=true then do let ok <- isTrue c env (eval c env);pure (ForInStep.yield ok) else pure (ForInStep.yield r)) (λok s₄ =>
      if ok=true then wpAny (model prog w) A (eval elt env) (λx s₅=>wpAny (model prog w) A (call (.builtin "list.append") [acc,x]) (λ_ s₆=>∃m,m < n/\I m s₆) E s₅) E s₄
      else ∃m,m < n/\I m s₄) E s₃) E s₂) E s₁) E s)
  (n:Nat) (h:I n s):codeAny (model prog w) A (.compLoop (.ListComp elt [⟨target,iter,ifs,0⟩] scope pos) 0 it acc env) R s:=by
 refine codeAny_loop rfl I (λn s hI=>?_) n h;show wpAny _ A ((compTurn (.ListComp elt [⟨target,iter,ifs,0⟩] scope pos) 0 it acc env).onRaise (λx=>do noteFrame x env;theTreesLotGoes x)) _ _ s
 refine wpAny_noted ?_;rw[compTurn_list];refine wpAny_bind (wpAny_standAt (wpAny_bind (wpAny_mono (turn _ n s hI) (λr s₁ h₁=>?_) λ_ _ h'=>h')));cases r with
 | none=>exact wpAny_pure h₁
 | some v =>
  refine wpAny_bind (wpAny_mono h₁ (λ_ s₂ h₂=>wpAny_bind (wpAny_mono h₂ (λ_ s₃ h₃=>wpAny_bind (wpAny_mono h₃ (λok s₄ h₄=>?_) λ_ _ h'=>h')) λ_ _ h'=>h')) λ_ _ h'=>h');cases ok with
  | false=>exact wpAny_pure ⟨rfl,h₄⟩
  | true =>
   exact wpAny_bind (wpAny_bind (wpAny_mono h₄ (λx s₅ h₅=>wpAny_bind (wpAny_mono h₅ (λ_ s₆ h₆=>wpAny_pure (wpAny_pure ⟨rfl,h₆⟩)) λ_ _ h'=>h')) λ_ _ h'=>h'))
def PF (X:Cx) (ifs:List Expr) (t:TT):Prop :=
 ∀(pins:List (Addr×Obj)) (s:Shared) (σ:St) (H:Hp) (Q:Bool->Hp->Prop),Inv X pins σ H s->t σ H Q →
  wpAny (model X.prog X.w) X.A (forIn ifs true λc r=>if r=true then do let ok <- isTrue c X.env (eval c X.env);pure (ForInStep.yield ok) else pure (ForInStep.yield r)) (TP X pins σ Q) X.xe s
def Ml:TT:=λ_ H Q=>Q true H
theorem bW:PF X [] Ml:=λ_ _ _ H _ I h=>wpAny_tests_nil ⟨H,I,h⟩
theorem GD (h:PT X c t):PF X [c] t:=λpins s σ H Q I hw=>wpAny_tests_one (h pins s σ H Q I hw)
def oI (σ₀:St) (g:TG) (tf:TT) (te:TE) (x:V) (H:Hp) (NY:V->Hp->Prop) (NN:Hp->Prop):Prop :=
 g x σ₀ H λσ2 H2=>tf σ2 H2 λb H3=>if b=true then te σ2 H3 NY else NN H3
def pR (J:It) (σ₀:St) (g:TG) (tf:TT) (te:TE) (Q:VK) (H1:Hp):Prop :=
 ∃W:Nat->Nat->List V->Hp->Prop,(∃m,W 0 m [] H1)/\∀i m ys H,W i m ys H →
  (J.stop i H/\ys.length<=sizeLine/\∀p,H p=none->Q (.ref p) (upd H p (.lst ys))) \/
  (J.go i H/\ys.length < sizeLine/\∃(NY:V->Hp->Prop) (NN:Hp->Prop),(∀y H',NY y H'->∃m',m' < m/\W (i+1) m' (ys++[y]) H')/\(∀H',NN H'->∃m',m' < m/\W (i+1) m' ys H') /\
   ∀x H',J.yld i H x H'->oI σ₀ g tf te x H' NY NN)
def BB (wi:TI) (k:Nat) (cap:List Nat) (g:TG) (tf:TT) (te:TE):TE:=λσ H Q=>wi σ H λJ H1=>pR J (FJ k cap σ) g tf te Q H1
abbrev lobj (its:List Value) (n:Nat):Obj:={ cls:=.type "list",data:=.seq its.toArray n }
section
variable {X:Cx} {own capN:List Str} {cap:List Nat} {scope:Scope} {elt tg iter:Expr} {ifs:List Expr} {pos:Pos} {wi:TI} {g:TG} {tf:TT} {te:TE}
theorem zH (hc:X.calm=true) (B:Bk X.env scope own capN) (hcap:vK X capN cap)
  (hi:PI X tg iter wi) (hg:∀Z,PG (vV X own capN scope Z) tg g) (hf:∀Z,PF (vV X own capN scope Z) ifs tf) (he:∀Z,PE (vV X own capN scope Z) elt te)
  (hs:∀x,foldedSetIterable iter X.env x=pure x) {σ:St} (I:Inv X pins σ H s) (h:BB wi own.length cap g tf te σ H Q)
  (fin:∀(D C:Addr) (s':Shared) (H':Hp),Inv X pins σ H' s'->jo X pins H' C->(∃m,s'.heap.Ns C m)->Q (.ref D) H'->compPost (model X.prog X.w) X.A X.xe use Qe (.ref D) C (.ok .next) s') :
  wpAny (model X.prog X.w) X.A (comprehension (.ListComp elt [⟨tg,iter,ifs,0⟩] scope pos) scope X.env fpos (newList []) false (eval iter X.env) use) Qe X.xe s:=by
 refine wpAny_comprehension_free (use:=use) rfl hs (yh λy hy hk=>I.ok.has y.1 (B.caps _ (B.frees y hy hk).1)) B.kind B.locs ?_;refine eY (hi pins s σ H _ I h) λv s1 h1=>eY h1 λitv s2 h2=>?_
 obtain ⟨it,fp,tn,J,H2,e,I2,T,st2,f2,W,⟨m0,w0⟩,turn⟩:=h2;subst e;have hfp:∀b∈fp,jo X pins H2 b/\@LT.lt Nat instLTNat b s2.heap.objs.size:=λb hb=>⟨f2 b hb,let ⟨_,e,_⟩:=T.obj _ _ st2 b hb;Heap.lt_size e⟩
 refine wpAny_newObj_type (Cr ?_) (bH _);have es:(s2.heap.push { cls:=.type "list",data:=.seq ([]:List Value).toArray }).objs.size=s2.heap.objs.size+1:=Heap.size_push ..
 show codeAny _ _ (.compStart _ 0 (.ref it) (.ref s2.heap.objs.size) { newEnv scope (s2.heap.push { cls:=.type "list",data:=.seq ([]:List Value).toArray }).objs.size X.env.globals (cellsFrom ((s2.heap.push { cls:=.type "list",data:=.seq ([]:List Value).toArray }).objs.size+1) scope.names (dk X.env scope.names [])) X.env.qual none .none (some X.env) builtinsNs with scope:=relabel scope X.env })
  (compPost (model X.prog X.w) X.A X.xe use Qe (.ref s2.heap.objs.size) (s2.heap.push { cls:=.type "list",data:=.seq ([]:List Value).toArray }).objs.size)
  { s2 with heap:=pushCells ((s2.heap.push { cls:=.type "list",data:=.seq ([]:List Value).toArray }).push { cls:=.type "dict",data:=.dict #[] }) scope.names }
 have hk1:∀b o,(s2.heap.push { cls:=.type "list",data:=.seq ([]:List Value).toArray }).get? b=some o->(pushCells ((s2.heap.push { cls:=.type "list",data:=.seq ([]:List Value).toArray }).push { cls:=.type "dict",data:=.dict #[] }) scope.names).get? b=some o :=
  λb o e=>pushCells_keeps _ _ _ _ (Heap.get?_push_of_some _ e)
 have hk:∀b o,s2.heap.get? b=some o->(pushCells ((s2.heap.push { cls:=.type "list",data:=.seq ([]:List Value).toArray }).push { cls:=.type "dict",data:=.dict #[] }) scope.names).get? b=some o:=λb o e=>hk1 b o (Heap.get?_push_of_some _ e)
 have hoD:=hk1 s2.heap.objs.size _ (Heap.get?_push_size s2.heap (o:={ cls:=.type "list",data:=.seq ([]:List Value).toArray }) rfl);have hn:=(Heap.Ns.new (s2.heap.push { cls:=.type "list",data:=.seq ([]:List Value).toArray }) (.type "dict")).keeps (pushCells_keeps scope.names _);have hcl:=Fd ((s2.heap.push { cls:=.type "list",data:=.seq ([]:List Value).toArray }).push { cls:=.type "dict",data:=.dict #[] }) (s2.heap.objs.size+1) (by rw[Heap.size_push,es]) scope.names;rw[es] at hn ⊢;generalize pushCells ((s2.heap.push { cls:=.type "list",data:=.seq ([]:List Value).toArray }).push { cls:=.type "dict",data:=.dict #[] }) scope.names=h3 at hk hoD hn hcl ⊢;have Z:Bz:=⟨s2,H2,fp,s2.heap.objs.size+1⟩
 have I3:Inv (vV X own capN scope ⟨s2,H2,fp,s2.heap.objs.size+1⟩) [(s2.heap.objs.size,lobj [] 0)] (FJ own.length cap σ) H2 { s2 with heap:=h3 } :=
  JM (Z:=⟨s2,H2,fp,s2.heap.objs.size+1⟩) (t1:=s2.toks) I2 hc B hcap (oB _) hcl hfp hk hn (av _) (b9 (gC _)) hoD (λv z=>nomatch z)
 have st3:tn 0 h3:=T.keep _ _ _ st2 λb _ o e=>hk b o e
 have loop:codeAny (model X.prog X.w) X.A (.compLoop (.ListComp elt [⟨tg,iter,ifs,0⟩] scope pos) 0 (.ref it) (.ref s2.heap.objs.size) (uH X.env scope (s2.heap.objs.size+1))) (compPost (model X.prog X.w) X.A X.xe use Qe (.ref s2.heap.objs.size) (s2.heap.objs.size+1)) { s2 with heap:=h3 }:=by
  refine A4 (λm s'=>∃i ys σ' H' its n,Inv (vV X own capN scope ⟨s2,H2,fp,s2.heap.objs.size+1⟩) [(s2.heap.objs.size,lobj its n)] σ' H' s'/\tn i s'.heap/\(∀b∈fp,H' b=none)/\cp ys its/\W i m ys H') ?_ m0
   ⟨0,[],_,H2,[],0,I3,st3,λb hb=>(f2 b hb).1,.nil,w0⟩
  rintro E n s4 ⟨i,ys,σ4,H4,its,k,I4,st4,fr4,rv,w4⟩
  have fpo:∀{pp:List (Addr×Obj)} {H':Hp},(∀p∈pp,p.1=s2.heap.objs.size)->(∀b∈fp,H' b=none)->∀b∈fp,jo (vV X own capN scope ⟨s2,H2,fp,s2.heap.objs.size+1⟩) pp H' b:=λ{pp H'} hpp hn b hb=>by
   obtain ⟨e1,e2⟩:=I4.ok.exf b hb;refine ⟨hn b hb,e1,I4.ok.exfs b hb,.inl hb,e2,λp hp=>?_⟩;have hp':p∈pp:=by simpa [vV] using hp
   have l:=(hfp b hb).2;rw[hpp p hp'];exact λz=>dZ _ (by rw[<- z] at l;exact l)
  have pinD:∀{its:List Value} {n:Nat},∀p∈[(s2.heap.objs.size,lobj its n)],p.1=s2.heap.objs.size:=λp hp=>by simp at hp;rw[hp]
  rcases turn i n ys H4 w4 with ⟨stop,hz,q⟩ | ⟨go,hlt,NY,NN,hNY,hNN,step⟩
  ·refine eY (T.done (vV X own capN scope ⟨s2,H2,fp,s2.heap.objs.size+1⟩) rfl rfl rfl rfl i _ s4 σ4 H4 E I4 (fpo pinD fr4) st4 stop) λr s5 ⟨hr,I5⟩=>?_
   subst hr;have pD:=I5.pin (s2.heap.objs.size,lobj its k) (by simp);have I6:=JN (Z:=⟨s2,H2,fp,s2.heap.objs.size+1⟩) I2 hfp (av _) I5 rv hz
   have hC:upd H4 s2.heap.objs.size (.lst ys) (s2.heap.objs.size+1)=none:=by
    rw[a9 (EI (gC _))];exact I5.free
   obtain ⟨m,hm,_⟩:=I5.loc;exact fin _ _ s5 _ I6 (I2.fpOk (oB _) hC) ⟨m,hm⟩ (q _ pD.2.1)
  ·refine eY (T.item (vV X own capN scope ⟨s2,H2,fp,s2.heap.objs.size+1⟩) rfl rfl rfl rfl i _ s4 σ4 H4 E I4 (fpo pinD fr4) st4 go) λr s5 ⟨u,hr,h5⟩=>?_
   subst hr;refine eY h5 λ_ s6 ⟨x,H6,I6,r6,y6,st6,fr6⟩=>?_
   have I6':=(Io (Z:=⟨s2,H2,fp,s2.heap.objs.size+1⟩) I2 B hcap hfp I6).pinned (fpo pinD fr6) (T.obj _ _ st6)
   have back:∀{σ7:St} {H7:Hp} {s7:Shared},Inv (vV X own capN scope ⟨s2,H2,fp,s2.heap.objs.size+1⟩) ([(s2.heap.objs.size,lobj its k)]++xx fp s6.heap) σ7 H7 s7 →
     Inv (vV X own capN scope ⟨s2,H2,fp,s2.heap.objs.size+1⟩) [(s2.heap.objs.size,lobj its k)] σ7 H7 s7/\tn (i+1) s7.heap/\∀b∈fp,H7 b=none:=λ{σ7 H7 s7} I7=>by
    refine ⟨I7.unpinned,T.keep _ _ _ st6 λb hb o e=>(I7.pin (b,o) (bI _ (bI _ (nU hb e)))).1,λb hb=>?_⟩;obtain ⟨o,e,d⟩:=T.obj _ _ st6 b hb;exact (I7.pin (b,o) (bI _ (bI _ (nU hb e)))).2.1
   refine KJ (hg _ _ s6 _ H6 x u _ I6' r6 (step x H6 y6)) λ_ s7 ⟨σ7,H7,I7,q7⟩=>?_
   refine KJ (hf _ _ s7 σ7 H7 _ I7 q7) λok s8 ⟨H8,I8,q8⟩=>?_
   cases ok with
   | false =>
    rw[if_neg br] at q8 ⊢;obtain ⟨m',hm,w8⟩:=hNN H8 q8;obtain ⟨J1,J2,J3⟩:=back I8;exact ⟨m',hm,i+1,ys,σ7,H8,its,k,J1,J2,J3,rv,w8⟩
   | true =>
    rw[if_pos rfl] at q8 ⊢;refine KJ (he _ _ s8 σ7 H8 _ I8 q8) λz s9 ⟨y,H9,I9,r9,q9⟩=>?_
    obtain ⟨J1,J2,J3⟩:=back I9;obtain ⟨m',hm,w9⟩:=hNY y H9 q9;have pD:=J1.pin (s2.heap.objs.size,lobj its k) (by simp);have hl:=rv.length;refine call_meets F.slot_list_append ⟨_,pD.1,rfl⟩ F.entry_list_append (F.args_list_append_2 _ _) (PySem.list_append s2.heap.objs.size its.toArray k z (by rw[aL];lia)) ⟨pD.1,?_⟩;have e9:=jz pD.1 (λa=>a.push z);have e9':(its.toArray.push z)=(its++[z]).toArray:=by simp
    rw[e9'] at e9;obtain ⟨n',e9⟩:∃n',(s9.heap.update s2.heap.objs.size (Obj.mapSeq λa=>a.push z)).get? s2.heap.objs.size=some (lobj (its++[z]) n'):=⟨_,e9⟩
    have J4:Inv (vV X own capN scope ⟨s2,H2,fp,s2.heap.objs.size+1⟩) [] σ7 H9 { s9 with heap:=s9.heap.update s2.heap.objs.size (Obj.mapSeq λa=>a.push z),toks:=s9.toks } :=
     (J1.pins_of (pins':=[]) λp hp=>nomatch hp).turned (λb o hb e=>(Heap.get?_update_other s9.heap _ (Ne.symm hb)).trans e) pD.2.1 pD.2.2.1 (.inr (av _)) (λx c hx z=>by
      rcases hZ (Z:=⟨s2,H2,fp,s2.heap.objs.size+1⟩) B I2 hx with ⟨_,m⟩ | ⟨_,_,m⟩
      ·have:=(hcl.empty _ _ m).2;have z':@Eq Nat c s2.heap.objs.size:=z
       lia
      ·have:=A6 (Z:=⟨s2,H2,fp,s2.heap.objs.size+1⟩) I2 m;rw[z] at this;exact dZ _ this) λp hp=>by simp [vV] at hp
    have nfp:∀b∈fp,b≠s2.heap.objs.size:=λb hb z=>by have:=(hfp b hb).2;rw[z] at this;exact dZ _ this
    refine ⟨m',hm,i+1,ys++[y],σ7,H9,its++[z],n',J4.pins_of λp hp=>?_,T.keep _ _ _ J2 λb hb o e=>(Heap.get?_update_other s9.heap _ (Ne.symm (nfp b hb))).trans e,J3,rv.append (.cons r9 .nil),w9⟩;have ep:p=(s2.heap.objs.size,lobj (its++[z]) n'):=by simpa using hp
    rw[ep];exact ⟨e9,pD.2.1,pD.2.2.1,pD.2.2.2.1,λv z=>nomatch z⟩
 exact codeAny_compStart_list loop (T.self _ _ _ _ _ st3 loop)
theorem bT (own capN:List Str) (cap:List Nat) (hi:PI X tg iter wi) (hg:∀Z,PG (vV X own capN scope Z) tg g) (hf:∀Z,PF (vV X own capN scope Z) ifs tf) (he:∀Z,PE (vV X own capN scope Z) elt te)
  (h1:Nz scope own capN=true:=by decide +kernel) (h2:zJ X.env capN=true:=by rfl) (hcap:vK X capN cap:=by rfl) (hc:X.calm=true:=by rfl) (hs:∀x,foldedSetIterable iter X.env x=pure x:=by intro _;rfl) :
  PE X (.ListComp elt [⟨tg,iter,ifs,0⟩] scope pos) (BB wi own.length cap g tf te):=by
 intro pins s σ H Q I h;rw[eval_ListComp];refine zH (use:=none) hc (Bk.of h1 h2) hcap hi hg hf he hs I h λD C s' H' I' fC hm q=>?_
 obtain ⟨m,hm⟩:=hm;refine ⟨m,hm,λh' hs'=>?_⟩;obtain ⟨f0,f1,f2,f3,f4,f5⟩:=fC;exact ⟨.ref D,H',I'.turned (t':=s'.toks) (λb o hb e=>(hs'.2 b hb).trans e) f0 f1 f3 f4 f5,rfl,q⟩
theorem gM (i:Nat) (own capN:List Str) (cap:List Nat) {x:Str} {pos' spos:Pos} (hN:X.N.Nodup) (hi':X.N[i]?=some x) (hx:X.env.scope.names.lookup x=some .local) (hi:PI X tg iter wi) (hg:∀Z,PG (vV X own capN scope Z) tg g) (hf:∀Z,PF (vV X own capN scope Z) ifs tf) (he:∀Z,PE (vV X own capN scope Z) elt te)
  (h1:Nz scope own capN=true:=by decide +kernel) (h2:zJ X.env capN=true:=by rfl) (hcap:vK X capN cap:=by rfl) (hc:X.calm=true:=by rfl) (hs:∀x,foldedSetIterable iter X.env x=pure x:=by intro _;rfl)
  (hsw:swapsWith (.ListComp elt [⟨tg,iter,ifs,0⟩] scope pos) (some (.Name x pos')) spos.line X.env=pure true:=by rfl) :
  PS X (.Assign [.Name x pos'] (.ListComp elt [⟨tg,iter,ifs,0⟩] scope pos) spos) (II (BB wi own.length cap g tf te) (Ep i)):=by
 intro pins s σ H D I h;rw[exec_Assign_Name_used _ _ _ _ hsw];refine wpAny_bind (wpAny_standAt (wpAny_bind ?_));rw[arm_evalThenUse_ListComp];refine wpAny_bind (zH (Q:=λv H1=>D.nx (σ.set i (some v)) H1) (use:=some _) hc (Bk.of h1 h2) hcap hi hg hf he hs I h λL C s' H' I' fC hm q=>?_);obtain ⟨m,hm⟩:=hm;obtain ⟨f0,f1,f2,f3,f4,f5⟩:=fC;refine wpAny_assign_Name (yT I' hN hi' (.inl hx) (v:=.ref L) rfl (λs'' I'' ⟨a,sb,ha⟩=>?_) (.inr hx))
 have hCa:C≠a:=by
  rcases ha with e | e
  ·rw[e];exact f1
  ·exact (f4 x a e).symm
 refine ⟨m,hm.at' λo e=>(sb.2 C hCa).trans e,λh' hs'=>?_⟩;have I3:=I''.turned (h':=h') (t':=s''.toks) (λb o hb e=>(hs'.2 b hb).trans e) f0 f1 f3 f4 f5;exact wpAny_pure (wpAny_pure ⟨_,H',I3,q⟩)
end
section
variable {K:FG9} {a:Addr} {xs:List V} {g:TG} {tf:TT} {te:TE} {Q:VK} {σ₀:St} {H:Hp}
theorem dO (Pv:Nat->List V->Hp->Prop) (hz:xs.length<=sizeLine) (h0:Pv 0 [] H) (hl:∀i ys H,i<=xs.length->Pv i ys H->bD K H a xs)
  (hs:∀i x ys H,xs[i]?=some x->ys.length<=i->Pv i ys H->oI σ₀ g tf te x H (λy H'=>Pv (i+1) (ys++[y]) H') (λH'=>Pv (i+1) ys H'))
  (hd:∀ys H,ys.length<=xs.length->Pv xs.length ys H->∀p,H p=none->Q (.ref p) (upd H p (.lst ys))):pR (JW K a) σ₀ g tf te Q H:=by
 refine ⟨λi m ys H=>m=xs.length - i/\i<=xs.length/\ys.length<=i/\Pv i ys H,⟨xs.length,by simp,bH _,bH _,h0⟩,?_⟩;rintro i m ys H ⟨rfl,hi,hy,p⟩;have q:=hl i ys H hi p;by_cases hlt:i < xs.length
 ·refine .inr ⟨⟨xs,xs[i],q,by simp [hlt]⟩,by lia,λy H'=>Pv (i+1) (ys++[y]) H',λH'=>Pv (i+1) ys H',λy H' p'=>⟨xs.length - (i+1),by lia,rfl,hlt,by rw[az,cA];lia,p'⟩,λH' p'=>⟨xs.length - (i+1),by lia,rfl,hlt,by lia,p'⟩,λx H' y=>?_⟩;obtain ⟨e,y⟩:=y;subst e;exact hs i x ys _ (y xs q) hy p
 ·have e:i=xs.length:=by lia
  subst e;exact .inl ⟨⟨xs,q,av _⟩,by lia,hd ys H hy p⟩
theorem oa {lo:Int} (Pv:Nat->List V->Hp->Prop) (hz:n<=sizeLine) (h0:Pv 0 [] H)
  (hs:∀i ys H,i < n->ys.length<=i->Pv i ys H->oI σ₀ g tf te (.int (lo+i)) H (λy H'=>Pv (i+1) (ys++[y]) H') (λH'=>Pv (i+1) ys H'))
  (hd:∀ys H,ys.length<=n->Pv n ys H->∀p,H p=none->Q (.ref p) (upd H p (.lst ys))):pR (CT lo n) σ₀ g tf te Q H:=by
 refine ⟨λi m ys H=>m=n - i/\i<=n/\ys.length<=i/\Pv i ys H,⟨n,by simp,bH _,bH _,h0⟩,?_⟩;rintro i m ys H ⟨rfl,hi,hy,p⟩;by_cases hlt:i < n
 ·refine .inr ⟨hlt,by lia,λy H'=>Pv (i+1) (ys++[y]) H',λH'=>Pv (i+1) ys H',λy H' p'=>⟨n - (i+1),by lia,rfl,hlt,by rw[az,cA];lia,p'⟩,λH' p'=>⟨n - (i+1),by lia,rfl,hlt,by lia,p'⟩,λx H' y=>?_⟩;obtain ⟨e,y⟩:=y;subst e y;exact hs i ys _ hlt hy p
 ·have e:i=n:=by lia
  subst e;exact .inl ⟨av _,by lia,hd ys H hy p⟩
end
open Nm
def fR (i j:Int):Prop:=L8 i j\/∃m n,Sz m i/\Sz n j/\m+n<=1000000
def mI (i j:Int):Prop:=j≠0/\Sz 8999 j
theorem yj (h:Sz k i):Builtin.Int.intBits i<=k:=by
 unfold Builtin.Int.intBits;by_cases e:i=0
 ·subst e;simp
 ·have e':(i == 0)=false:=by simpa using e
  rw[e'];have hn:i.natAbs≠0:=by lia
  have:=(Nat.log2_lt hn).mpr h;simp only[gQ,if_false]
  lia
theorem fR.ok (h:fR i j):IntMulOk i j:=by
 rcases h with h | ⟨m,n,h1,h2,h3⟩
 ·exact h.ok
 ·have e:(2:Nat)^20=1048576:=by decide
  exact .of_bits (by have:=yj h1;lia) (by have:=yj h2;lia)
section
variable {X:Cx} {a b:Expr} {ta tb:TE} {pos:Pos}
theorem cH:wC X (binaryOp .Mult) (rI fR λi j=>.int (i*j)):=Ny λ_ _ _ _ _ _ _ hc q=>mul_int q hc.ok
theorem gK:wC X (binaryOp .FloorDiv) (rI mI λi j=>.int (i.fdiv j)):=Ny λi j _ _ _ _ _ hc q=>by
 refine floordiv_int hc.1 q (.inl (PyProof.noPylong_of_log2 ?_));have hn:j.natAbs≠0:=by have:=hc.1;lia
 have:=(Nat.log2_lt hn).mpr hc.2
 lia
def Mo (t u:TS):TS:=λD σ H=>∃N:St->Hp->Prop,t { D with nx:=N } σ H/\∀σ' H',N σ' H'->u D σ' H'
theorem fB {st:Stmt} (h1:PS X st t) (h2:Bj X rest u):Bj X (st :: rest) (Mo t u):=by
 intro pins s σ H D I h;obtain ⟨N,h,k⟩:=h;refine wpAny_execs_cons (eY (h1 pins s σ H { D with nx:=N } I h) λf s1 q=>?_);cases f with
 | next =>
  obtain ⟨σ',H',I',q⟩:=q;exact h2 pins s1 σ' H' D I' (k _ _ q)
 | ret v=>exact q
 | brk=>exact q
 | cont=>exact q
def Kg (K:FG9):V->V->Hp->VK->Prop:=λo i H Q=>∃p xs k v,o=.ref p/\i=.int k/\bD K H p xs/\FE xs k=some v/\Q v H
theorem HI:Nk X (Kg X.K):=by
 intro pins s σ H o i ov iv Q I ro ri h;obtain ⟨p,xs,k,z,rfl,rfl,hq,he,q⟩:=h;cases ro;obtain ⟨t,rfl⟩:=ri;obtain ⟨its,r,pl,hz⟩:=I.list hq;obtain ⟨j,h1,h2,h3,h4,h5⟩:=A8 he;obtain ⟨w,ew,rw'⟩:=r.get h2;have hl:=r.length;have hn:=xQ;have fin:EP X pins σ Q w s:=⟨z,H,I,rw',q⟩;by_cases h0:0<=k
 ·have hj:k.toNat=j:=by
   rw[seqIndex_of h0 h5] at h1;exact bR h1
  exact wpAny_getItem_list pl.isList h0 (by lia) (by rw[hj];simpa using ew) fin
 ·have hj:(k+(its.toArray.size:Int)).toNat=j:=by
   rw[seqIndex_neg (by lia) h4] at h1;rw[aL,<- hl];exact bR h1
  exact wpAny_getItem_list_neg pl.isList (by lia) (by rw[aL] <;> lia) (by lia) (by rw[hj];simpa using ew) fin
def E6 (K:FG9) (T:String):V->Hp->VK->Prop:=λx H Q=>∃t b,rS K H x t/\PySem.W.kitOne K t (.type T)=some b/\Q (.bl b) H
theorem uv {c:Str} {T:String} {p p2:Pos} (hg:Gl X "isinstance") (hm:X.mg "isinstance"=none) (hb:bootBuiltins c=some (.type T)) (hmc:X.mg c=none) (ha:PE X a ta) (hgc:Gl X c:=by rfl) (hn:c≠"__name__":=by decide)
  (hd:(c == ("__debug__":Str))=false:=by decide) (he:starEach [a,.Name c p2] X.env=[(false,eval a X.env),(false,eval (.Name c p2) X.env)]:=by rfl)
  (hpl:(backTo pos (starEach [.Name c p2] X.env)).any (·.1)=false:=by rfl) (he2:starEach [.Name c p2] X.env=[(false,eval (.Name c p2) X.env)]:=by rfl):PE X (.Call (.Name "isinstance" p) [a,.Name c p2] [] pos) (Mc (E6 X.K T) ta):=by
 intro pins s σ H Q I h;refine wpAny_Call_Name_kw (gW I hg hm PyProof.Rows.boot_isinstance ?_);have hA:PA X [a,.Name c p2] (ie ta (ie (tC (.ty T)) wN)):=ae ha (ae (Ed hgc hmc hb rfl hn hd) ai he2) (by rw[he,he2])
 have hq:ie ta (ie (tC (.ty T)) wN) σ H (λvs H1=>∃x,vs=[x,.ty T]/\E6 X.K T x H1 Q):=by
  show ta σ H λx H1=>∃x',[x,V.ty T]=[x',V.ty T]/\E6 X.K T x' H1 Q
  have e:(λx H1=>∃x',[x,V.ty T]=[x',V.ty T]/\E6 X.K T x' H1 Q)=λx H1=>E6 X.K T x H1 Q:=by
   funext x H1;apply propext;constructor
   ·rintro ⟨x',e,q⟩;cases e;exact q
   ·intro q;exact ⟨x,rfl,q⟩
  rw[e];exact h
 refine PyProof.Rows.callWith_builtin1 (eY (hA pos pins s σ H _ I hq) λus s1 ⟨vs,H1,I1,r1,x,e,q1⟩=>?_) (by rw[he,he2]) hpl;subst e;obtain ⟨u,w',rfl,ru,rt⟩:=vals2 r1;cases rt;obtain ⟨t,bb,ty,ek,q⟩:=q1;exact uD I1 ru ty ek λtk=>⟨.bl bb,H1,I1.tok tk,rfl,q⟩
end
structure Kind (α:Type) [DecidableEq α] where
 R:FG9->Hp->V->α->Prop
 d:Nat
 inj:∀{X:Cx} {pins:List (Addr×Obj)} {σ:St} {H:Hp} {s:Shared} {x:V} {a b:α},Inv X pins σ H s->R X.K H x a->R X.K H x b->a=b
 rc:∀{X:Cx} {pins:List (Addr×Obj)} {σ:St} {H:Hp} {s:Shared} {x y:V} {v u:Value} {a b:α} {A:Around},Inv X pins σ H s->RelV x v->RelV y u->R X.K H x a->R X.K H y b->A.units+d < cLine->SeqAt.RcAt A s v u (decide (a=b))
 ne:∀{X:Cx} {pins:List (Addr×Obj)} {σ:St} {H:Hp} {s:Shared} {x y:V} {v u:Value} {a b:α} {A:Around},Inv X pins σ H s->RelV x v->RelV y u->R X.K H x a->R X.K H y b->A.units+d < cLine->SeqAt.RcNeAt A s v u (!decide (a=b))
 eq:∀{X:Cx} {pins:List (Addr×Obj)} {σ:St} {H:Hp} {s:Shared} {x y:V} {v u:Value} {a b:α} {A:Around},Inv X pins σ H s->RelV x v->RelV y u->R X.K H x a->R X.K H y b->A.units+d < cLine->SeqAt.EqAt A s v u (decide (a=b))
def Fn:Kind Int where
 R:=λ_ _ x i=>x=.int i
 d:=0
 inj:=λ_ h1 h2=>by rw[h1] at h2;cases h2;rfl
 rc:=λ{X pins σ H s x y v u a b A} I rx ry h1 h2 _=>by
  subst h1 h2;obtain ⟨t,rfl⟩:=rx;obtain ⟨t',rfl⟩:=ry;have q:=SeqAt.RcAt.int_int (A:=A) (s:=s) a t b t';rwa [cP] at q
 ne:=λ{X pins σ H s x y v u a b A} I rx ry h1 h2 _=>by
  subst h1 h2;obtain ⟨t,rfl⟩:=rx;obtain ⟨t',rfl⟩:=ry;have q:=SeqAt.RcNeAt.int_int (A:=A) (s:=s) a t b t';rwa [cP] at q
 eq:=λ{X pins σ H s x y v u a b A} I rx ry h1 h2 _=>by
  subst h1 h2;obtain ⟨t,rfl⟩:=rx;obtain ⟨t',rfl⟩:=ry;have q:=SeqAt.EqAt.int_int (A:=A) (s:=s) a t b t';rwa [cP] at q
theorem jc {α β:Type} {F:α->β->Prop}:∀{l1:List α} {l2:List β} {i:Nat} (_:Paired F l1 l2) (h1:i < l1.length) (h2:i < l2.length),F l1[i] l2[i]
 | _,_,_,.nil,h1,_=>absurd h1 (Nat.not_lt_zero _)
 | _,_,0,.cons r _,_,_=>r
 | _,_,i+1,.cons _ t,h1,h2=>jc (i:=i) t (Nat.lt_of_succ_lt_succ h1) (Nat.lt_of_succ_lt_succ h2)
theorem j9 {α β:Type} {F:α->β->Prop} (hF:∀a b x,F a x->F b x->a=b):∀{l1 l2:List α} {l:List β},Paired F l1 l->Paired F l2 l->l1=l2
 | _,_,_,.nil,.nil=>rfl
 | _,_,_,.cons r t,.cons r' t'=>by rw[hF _ _ _ r r',j9 hF t t']
theorem sU {α:Type} [DecidableEq α] (as bs:List α) (h:as.length=bs.length):(List.range as.length).all (λj=>decide (as[j]?=bs[j]?))=decide (as=bs):=by
 rw[oE,vQ,decide_eq_true_iff];constructor
 ·intro q;apply iS;intro i;by_cases hi:i < as.length
  ·exact of_decide_eq_true (q i (zZ.mpr hi))
  ·rw[bp (by lia),bp (by lia)]
 ·rintro rfl i _;simp
section
variable {α:Type} [DecidableEq α] (k:Kind α)
theorem Kind.items {X:Cx} {pins:List (Addr×Obj)} {σ:St} {H:Hp} {s:Shared} {A:Around} (I:Inv X pins σ H s) (hA:A.units+k.d < cLine) {xs ys:List V} {us ws:List Value} {as bs:List α}
  (rx:cp xs us) (ry:cp ys ws) (ha:Paired (λa x=>k.R X.K H x a) as xs) (hb:Paired (λa x=>k.R X.K H x a) bs ys) :
  ∀j (h1:j < us.toArray.size) (h2:j < ws.toArray.size),SeqAt.EqAt A s us.toArray[j] ws.toArray[j] (decide (as[j]?=bs[j]?)):=λj h1 h2=>by
 have l1:j < us.length:=by simpa using h1
 have l2:j < ws.length:=by simpa using h2
 have e1:=rx.length;have e2:=ry.length;have e3:=ha.length;have e4:=hb.length;obtain ⟨u,hu,ru⟩:=rx.get (i:=j) (x:=xs[j]'(by lia)) (by simp);obtain ⟨w,hw,rw'⟩:=ry.get (i:=j) (x:=ys[j]'(by lia)) (by simp);have q:=k.eq (A:=A) I ru rw' (jc ha (by lia) (by lia)) (jc hb (by lia) (by lia)) hA
 have eu:us.toArray[j]=u:=by
  have:=hu;rw[af l1] at this;simpa using this
 have ew:ws.toArray[j]=w:=by
  have:=hw;rw[af l2] at this;simpa using this
 rw[eu,ew,af (show j < as.length by lia),af (show j < bs.length by lia)];have e5:decide (some as[j]=some bs[j])=decide (as[j]=bs[j]):=by simp
 rw[e5];exact q
theorem Aa {α:Type} [DecidableEq α] (as bs:List α) {n m:Nat} (h1:as.length=n) (h2:bs.length=m):((List.range (min n m)).all (λj=>decide (as[j]?=bs[j]?)) && n == m)=decide (as=bs):=by
 subst h1 h2;by_cases e:as.length=bs.length
 ·rw[show min as.length bs.length=as.length by lia,sU as bs e];simp [e]
 ·have h1:(as.length == bs.length)=false:=by simpa using e
  rw[h1,Bool.and_false];exact (decide_eq_false λz=>e (by rw[z])).symm
def NO:Kind (List α) where
 R:=λK H x as=>∃p xs,x=.ref p/\kz K H p xs/\Paired (λa x=>k.R K H x a) as xs
 d:=k.d+1
 inj:=λ{X pins σ H s x a b} I h1 h2=>by
  obtain ⟨p,xs,rfl,hp,pa⟩:=h1;obtain ⟨q,ys,e,hq,pb⟩:=h2;cases e;have e:=I.tuple_inj hp hq;subst e;exact j9 (F:=λa x=>k.R X.K H x a) (λa b x=>k.inj I) pa pb
 rc:=λ{X pins σ H s x y v u a b A} I rx ry h1 h2 hA=>by
  obtain ⟨p,xs,rfl,hp,pa⟩:=h1;obtain ⟨q,ys,rfl,hq,pb⟩:=h2;cases rx;cases ry;obtain ⟨us,r1,t1,_⟩:=I.tuple hp;obtain ⟨ws,r2,t2,_⟩:=I.tuple hq;have z:=SeqAt.RcAt.tuples (A:=A) (e:=λj=>decide (a[j]?=b[j]?)) (show s.heap.IsTuple p us.toArray from t1) (show s.heap.IsTuple q ws.toArray from t2) (by lia) (k.items (A:=A.in1) I (by show A.units+1+k.d < cLine;lia) r1 r2 pa pb);rwa [Aa a b (by rw[pa.length,r1.length];simp) (by rw[pb.length,r2.length];simp)] at z
 ne:=λ{X pins σ H s x y v u a b A} I rx ry h1 h2 hA=>by
  obtain ⟨p,xs,rfl,hp,pa⟩:=h1;obtain ⟨q,ys,rfl,hq,pb⟩:=h2;cases rx;cases ry;obtain ⟨us,r1,t1,_⟩:=I.tuple hp;obtain ⟨ws,r2,t2,_⟩:=I.tuple hq;have z:=SeqAt.RcNeAt.tuples (A:=A) (e:=λj=>decide (a[j]?=b[j]?)) (show s.heap.IsTuple p us.toArray from t1) (show s.heap.IsTuple q ws.toArray from t2) (by lia) (k.items (A:=A.in1) I (by show A.units+1+k.d < cLine;lia) r1 r2 pa pb);rwa [Aa a b (by rw[pa.length,r1.length];simp) (by rw[pb.length,r2.length];simp)] at z
 eq:=λ{X pins σ H s x y v u a b A} I rx ry h1 h2 hA=>by
  obtain ⟨p,xs,rfl,hp,pa⟩:=h1;obtain ⟨q,ys,rfl,hq,pb⟩:=h2;cases rx;cases ry;by_cases e:p=q
  ·subst e;have e:=I.tuple_inj hp hq;subst e;rw[j9 (F:=λa x=>k.R X.K H x a) (λa b x=>k.inj I) pa pb,decide_eq_true rfl];exact SeqAt.EqAt.same _
  ·obtain ⟨us,r1,t1,_⟩:=I.tuple hp;obtain ⟨ws,r2,t2,_⟩:=I.tuple hq;have z:=SeqAt.RcAt.tuples (A:=A) (e:=λj=>decide (a[j]?=b[j]?)) (show s.heap.IsTuple p us.toArray from t1) (show s.heap.IsTuple q ws.toArray from t2) (by lia) (k.items (A:=A.in1) I (by show A.units+1+k.d < cLine;lia) r1 r2 pa pb);rw[Aa a b (by rw[pa.length,r1.length];simp) (by rw[pb.length,r2.length];simp)] at z;exact .of_refs e z
theorem Dz {X:Cx} {pins:List (Addr×Obj)} {σ:St} {H:Hp} {s:Shared} {p q:Addr} {xs ys:List V} {a b:List α} {A:Around} (I:Inv X pins σ H s) (hp:bD X.K H p xs) (hq:bD X.K H q ys)
  (pa:Paired (λa x=>k.R X.K H x a) a xs) (pb:Paired (λa x=>k.R X.K H x a) b ys) (hA:A.units+(k.d+1) < cLine) :
  SeqAt.RcAt A s (.ref p) (.ref q) (decide (a=b))/\SeqAt.RcNeAt A s (.ref p) (.ref q) (!decide (a=b)):=by
 obtain ⟨us,r1,t1,_⟩:=I.list hp;obtain ⟨ws,r2,t2,_⟩:=I.list hq;have l1:=r1.length;have l2:=r2.length;have l3:=pa.length;have l4:=pb.length;by_cases e:us.length=ws.length
 ·have it:=k.items (A:=A.in1) I (by show A.units+1+k.d < cLine;lia) r1 r2 pa pb;have z:=SeqAt.RcAt.lists (A:=A) (e:=λj=>decide (a[j]?=b[j]?)) t1.isList t2.isList (by simpa using e) (by lia) it;have z2:=SeqAt.RcNeAt.lists (A:=A) (e:=λj=>decide (a[j]?=b[j]?)) t1.isList t2.isList (by simpa using e) (by lia) it;have e1:us.toArray.size=a.length:=by rw[aL];lia
  rw[e1,sU a b (by lia)] at z z2;exact ⟨z,z2⟩
 ·have hne:¬a=b:=λz=>e (by have:=congrArg List.length z;lia)
  rw[decide_eq_false hne];exact ⟨SeqAt.RcAt.lists_lengths t1.isList t2.isList (by simpa using e) (by lia),SeqAt.RcNeAt.lists_lengths t1.isList t2.isList (by simpa using e) (by lia)⟩
def Fm:Kind (List α) where
 R:=λK H x as=>∃p xs,x=.ref p/\bD K H p xs/\Paired (λa x=>k.R K H x a) as xs
 d:=k.d+1
 inj:=λ{X pins σ H s x a b} I h1 h2=>by
  obtain ⟨p,xs,rfl,hp,pa⟩:=h1;obtain ⟨q,ys,e,hq,pb⟩:=h2;cases e;have e:=I.list_inj hp hq;subst e;exact j9 (F:=λa x=>k.R X.K H x a) (λa b x=>k.inj I) pa pb
 rc:=λ{X pins σ H s x y v u a b A} I rx ry h1 h2 hA=>by
  obtain ⟨p,xs,rfl,hp,pa⟩:=h1;obtain ⟨q,ys,rfl,hq,pb⟩:=h2;cases rx;cases ry;exact (Dz k I hp hq pa pb hA).1
 ne:=λ{X pins σ H s x y v u a b A} I rx ry h1 h2 hA=>by
  obtain ⟨p,xs,rfl,hp,pa⟩:=h1;obtain ⟨q,ys,rfl,hq,pb⟩:=h2;cases rx;cases ry;exact (Dz k I hp hq pa pb hA).2
 eq:=λ{X pins σ H s x y v u a b A} I rx ry h1 h2 hA=>by
  obtain ⟨p,xs,rfl,hp,pa⟩:=h1;obtain ⟨q,ys,rfl,hq,pb⟩:=h2;cases rx;cases ry;by_cases e:p=q
  ·subst e;have e:=I.list_inj hp hq;subst e;rw[j9 (F:=λa x=>k.R X.K H x a) (λa b x=>k.inj I) pa pb,decide_eq_true rfl];exact SeqAt.EqAt.same _
  ·exact .of_refs e (Dz k I hp hq pa pb hA).1
def Kind.via {β:Type} [DecidableEq β] (f:β->α) (fi:∀a b,f a=f b->a=b) (R':FG9->Hp->V->β->Prop) (im:∀{K H x b},R' K H x b->k.R K H x (f b)):Kind β where
 R:=R'
 d:=k.d
 inj:=λI h1 h2=>fi _ _ (k.inj I (im h1) (im h2))
 rc:=λ{X pins σ H s x y v u a b A} I rx ry h1 h2 hA=>by
  have z:=k.rc (A:=A) I rx ry (im h1) (im h2) hA;rwa [decide_eq_decide.mpr (show f a=f b↔a=b from ⟨fi a b,λe=>by rw[e]⟩)] at z
 ne:=λ{X pins σ H s x y v u a b A} I rx ry h1 h2 hA=>by
  have z:=k.ne (A:=A) I rx ry (im h1) (im h2) hA;rwa [decide_eq_decide.mpr (show f a=f b↔a=b from ⟨fi a b,λe=>by rw[e]⟩)] at z
 eq:=λ{X pins σ H s x y v u a b A} I rx ry h1 h2 hA=>by
  have z:=k.eq (A:=A) I rx ry (im h1) (im h2) hA;rwa [decide_eq_decide.mpr (show f a=f b↔a=b from ⟨fi a b,λe=>by rw[e]⟩)] at z
end
def CO (K:FG9) (H:Hp) (x:V) (n:Int×Int):Prop:=∃p,x=.ref p/\kz K H p [.int n.1,.int n.2]
def MZ:Kind (Int×Int):=(NO Fn).via (λn=>[n.1,n.2]) (λa b e=>by cases a;cases b;simp at e;rw[e.1,e.2]) CO λ⟨p,e,h⟩=>⟨p,_,e,h,.cons rfl (.cons rfl .nil)⟩
def NL (K:FG9):R2:=λx y H Q=>∃(α:Type) (_:DecidableEq α) (k:Kind α) (a b:α),k.d<=50/\k.R K H x a/\k.R K H y b/\Q (.bl (decide (a=b))) H
def MU (K:FG9):R2:=λx y H Q=>∃(α:Type) (_:DecidableEq α) (k:Kind α) (a b:α),k.d<=50/\k.R K H x a/\k.R K H y b/\Q (.bl (!decide (a=b))) H
theorem Dl (hu:X.A.units+50 < cLine):wC X (compareOp .Eq) (NL X.K):=by
 intro pins s σ H x y v u Q I rx ry h;obtain ⟨α,_,k,a,b,hd,ha,hb,q⟩:=h;exact k.rc (A:=X.A) I rx ry ha hb (by lia) _ _ _ _ ⟨.bl (decide (a=b)),H,I,rfl,q⟩
theorem m7 (hu:X.A.units+50 < cLine):wC X (compareOp .NotEq) (MU X.K):=by
 intro pins s σ H x y v u Q I rx ry h;obtain ⟨α,_,k,a,b,hd,ha,hb,q⟩:=h;exact k.ne (A:=X.A) I rx ry ha hb (by lia) _ _ _ _ ⟨.bl (!decide (a=b)),H,I,rfl,q⟩
theorem uE (hr:jm k A):A.units+50 < cLine:=by have:=hr.units;lia
def Inner (H:Hp) (p q:Addr):Prop:=∃a b c:Int,H p=some (.lst [.int a,.int b,.int c,.ref q])
def cC (p:Addr) (H H':Hp):Prop:=(∀b o,H b=some o->b≠p->H' b=some o)/\∀q,Inner H p q->Inner H' p q
theorem cC.refl (H:Hp):cC p H H:=⟨λ_ _ h _=>h,λ_ h=>h⟩
theorem cC.trans (a:cC p H H1) (b:cC p H1 H2):cC p H H2:=⟨λc o h n=>b.1 c o (a.1 c o h n) n,λq h=>b.2 q (a.2 q h)⟩
theorem Inner.inj (h:Inner H p q) (h':Inner H p q'):q=q':=by
 obtain ⟨a,b,c,e⟩:=h;obtain ⟨a',b',c',e'⟩:=h';rw[e] at e';have:=HO.lst.inj (bR e');simp at this;exact this.2.2.2
theorem cC.set (h:H p=some (.lst [.int a,.int b,.int c,.ref q])):cC p H (upd H p (.lst [.int a',.int b',.int c',.ref q])) :=
 ⟨λb u h n=>by rw[a9 n];exact h,λq' h'=>by
  rw[(Inner.inj ⟨a,b,c,h⟩ h').symm];exact ⟨a',b',c',aG⟩⟩
theorem aE.upto (h:aE H H'):cC p H H':=⟨λb o e _=>h b o e,λq ⟨a,b,c,e⟩=>⟨a,b,c,h _ _ e⟩⟩
theorem aE.new (h:H p=Option.none):aE H (upd H p o):=λb u e=>by rw[a9 (dW e h)];exact e
theorem aE.sqt {K:FG9} (e:aE H H') (h:kz K H a xs):kz K H' a xs:=by
 rcases h with (h | ⟨o,h⟩) | h
 ·exact .inl (.inl (e _ _ h))
 ·exact .inl (.inr ⟨o,e _ _ h⟩)
 ·exact .inr h
theorem aE.num {K:FG9} (e:aE H H') (h:CO K H x n):CO K H' x n:=by obtain ⟨p,q,r⟩:=h;exact ⟨p,q,e.sqt r⟩
section
variable {σ:St} {H:Hp} {D:Ends}
theorem aT {t:TS} (e:σ0=σ) (h:t D σ H):t D σ0 H:=by rw[e];exact h
theorem KZ (h:t { D with nx:=u D } σ H):Mp t u D σ H:=h
theorem Ja (h:D.nx σ H):J5 D σ H:=h
theorem Ld {g:TG} (h:te σ H λx H1=>g x σ H1 D.nx):II te g D σ H:=h
theorem Gw (h:Q (σ.set i (some v)) H):Ep i v σ H Q:=h
theorem K0 (h:te σ H D.rt):Mq te D σ H:=h
theorem K8 (h:c σ H λb H1=>if b=true then t D σ H1 else u D σ H1):Mw c t u D σ H:=h
theorem Jj (h:te σ H λ_ H1=>D.nx σ H1):J9 te D σ H:=h
theorem K1 (h:ta σ H λvs H1=>∃v w,vs=[v,w]/\D.nx ((σ.set i (some v)).set j (some w)) H1):Ms i j ta D σ H:=h
theorem Jn 
  (h:to σ H λo H1=>ti σ H1 λi H2=>tget o i H2 λx H3=>te σ H3 λy H4=>tip x y H4 λz H5=>tset o i z H5 λH6=>D.nx σ H6):Ka to ti te tget tip tset D σ H:=h
theorem K7 (h:Q (.int (f i j)) H):ipI f (.int i) (.int j) H Q:=⟨i,j,rfl,rfl,h⟩
theorem La {g:TG} (h:wi σ H λJ H1=>∃W:Nat->Nat->St->Hp->Prop,(∃m,W 0 m σ H1)/\∀i m σ H,W i m σ H →
  (J.stop i H/\D.nx σ H)\/(J.go i H/\∃N:St->Hp->Prop,(∀σ' H',N σ' H'->∃m',m' < m/\W (i+1) m' σ' H')/\∀x H',J.yld i H x H'->g x σ H' λσ2 H2=>tb { D with nx:=N,ct:=N,bk:=D.nx } σ2 H2)):Mx wi g tb D σ H:=h
variable {Q:VK} {QA:List V->Hp->Prop} {QB:Bool->Hp->Prop}
theorem KU (e:σ[i]?=some (some v)) (h:Q v H):KL i σ H Q:=⟨v,e,h⟩
theorem NI (h:Q v H):tC v σ H Q:=h
theorem MP (h:ta σ H λx H1=>tb σ H1 λy H2=>r x y H2 Q):Mt r ta tb σ H Q:=h
theorem MJ (h:ta σ H λx H1=>r x H1 Q):Mc r ta σ H Q:=h
theorem MS {g:Int->Int->V} (h:Q (g i j) H):Kf g (.int i) (.int j) H Q:=⟨i,j,rfl,rfl,h⟩
theorem fj {g:Int->Int->V} (hc:C i j) (h:Q (g i j) H):rI C g (.int i) (.int j) H Q:=⟨i,j,rfl,rfl,hc,h⟩
theorem NJ {g:Int->V} (h:Q (g i) H):rU g (.int i) H Q:=⟨i,rfl,h⟩
theorem Lc (h:Q (.bl (decide (i=j))) H):rEq (.int i) (.int j) H Q:=⟨rfl,by
 have e:decide (V.int i=V.int j)=decide (i=j):=by simp
 rw[e];exact h⟩
theorem K5 (h:Q (.bl (!decide (i=j))) H):NK (.int i) (.int j) H Q:=⟨rfl,by
 have e:decide (V.int i=V.int j)=decide (i=j):=by simp
 rw[e];exact h⟩
theorem K4 (h:Q (.bl (!decide (i=j))) H):NK (.str i) (.str j) H Q:=⟨rfl,by
 have e:decide (V.str i=V.str j)=decide (i=j):=by simp
 rw[e];exact h⟩
theorem IW (h:t σ H λx H'=>∃k,x=.bl k/\QB k H'):JY t σ H QB:=h
theorem MK (h:t σ H λx H'=>∃k,x=.bl k/\QB k H'):tB t σ H QB:=h
theorem Le (h:t σ H λc H1=>if c=true then u σ H1 QB else QB false H1):Mz t u σ H QB:=h
theorem MO (h:t σ H λc H1=>if c=true then QB true H1 else u σ H1 QB):tOr t u σ H QB:=h
theorem K2 (h:t σ H λc H1=>QB (!c) H1):Mu t σ H QB:=h
theorem Jo (h:t σ H λx H1=>∃c,x=.bl c/\if c=true then u σ H1 Q else Q (.bl false) H1):Kb t u σ H Q:=h
theorem IZ (h:t σ H λx H1=>∃c,x=.bl c/\Q (.bl (!c)) H1):J0 t σ H Q:=h
theorem K9 (h:c σ H λb H1=>if b=true then ta σ H1 Q else tb σ H1 Q):tIf c ta tb σ H Q:=h
theorem KS (h:QB true H):Ml σ H QB:=h
theorem K3 (h:QA [] H):wN σ H QA:=h
theorem Jk (h:ta σ H λx H1=>tr σ H1 λxs H2=>QA (x :: xs) H2):ie ta tr σ H QA:=h
theorem Jm (h:t σ H λvs H1=>sp vs H1 Q E):FZ sp [] E t σ H Q:=by
 have e:(λvs H1=>sp (vs++[]) H1 Q E)=λvs H1=>sp vs H1 Q E:=by funext vs H1;rw[jY]
 show t σ H λvs H1=>sp (vs++[]) H1 Q E
 rw[e];exact h
theorem MQ (h:t σ H λvs H1=>r vs H1 Q):NH r t σ H Q:=h
theorem Dj {K:FG9} (hx:kz K H p xs) (e:FE xs i=some v) (h:Q v H):Lj K (.ref p) (.int i) H Q:=⟨p,xs,i,v,rfl,rfl,hx,e,h⟩
theorem bV {K:FG9} (hx:bD K H p xs) (e:FE xs i=some v) (h:Q v H):Lk K (.ref p) (.int i) H Q:=⟨p,xs,i,v,rfl,rfl,hx,e,h⟩
theorem Ji {K:FG9} (hx:bD K H p xs) (e:FE xs i=some v) (h:Q v H):Kg K (.ref p) (.int i) H Q:=⟨p,xs,i,v,rfl,rfl,hx,e,h⟩
theorem dC (hx:H p=some (.lst xs)) (e:Iv xs.length i=some j) (ey:xs.set j v=ys) (h:QH (upd H p (.lst ys))):Ke (.ref p) (.int i) v H QH:=⟨p,xs,i,j,rfl,rfl,hx,e,by rw[ey];exact h⟩
theorem Jg (h:to σ H λo H1=>ti σ H1 λi H2=>t o i v H2 λH3=>QS σ H3):Nd to ti t v σ H QS:=h
theorem Gx (h:t v σ H λσ' H'=>u r σ' H' QS):Kq t u (v :: r) σ H QS:=⟨v,r,rfl,h⟩
theorem Jh (h:QS σ H):Nf [] σ H QS:=⟨rfl,h⟩
theorem Jf {K:FG9} (hx:kz K H a xs) (hl:xs.length=n) (h:t xs σ H QS):LP K n t (.ref a) σ H QS:=⟨a,xs,rfl,hx,hl,h⟩
theorem MM (h:te σ H λx H1=>tl σ H1 λl H2=>th σ H2 λu H3=>r x l u H3 Q):tSl r te tl th σ H Q:=h
theorem E5 (h:QO none H):DU σ H QO:=h
theorem IY (h:t σ H λx H1=>∃i,x=.int i/\QO (some i) H1):JZ t σ H QO:=h
variable {R:It->Hp->Prop} {K:FG9}
theorem Gu (h:tl σ H λx H1=>∃a,x=.ref a/\(∃xs,bD K H1 a xs)/\R (JW K a) H1):HE K tl σ H R:=h
theorem Je (h:tl σ H λx H1=>∃a,x=.ref a/\(∃xs,kz K H1 a xs)/\R (Mf K a) H1):Na K tl σ H R:=h
theorem Gs (h:ta σ H λvs H1=>∃j:Int,vs=[.int j]/\-(2^62)<=j/\j < 2^62/\R (CT 0 j.toNat) H1):Km ta σ H R:=h
theorem Gr (h:ta σ H λvs H1=>∃i j:Int,vs=[.int i,.int j]/\(-(2^62)<=i/\i < 2^62/\-(2^62)<=j/\j < 2^62)/\R (CT i (j - i).toNat) H1):Kl ta σ H R:=h
theorem Jl {g:TG} (e:FJ k cap σ=σ₀) (h:wi σ H λJ H1=>pR J σ₀ g tf te Q H1):BB wi k cap g tf te σ H Q:=by
 unfold BB;rw[e];exact h
theorem IV {g:TG} {NY:V->Hp->Prop} (h:g x σ H λσ2 H2=>tf σ2 H2 λb H3=>if b=true then te σ2 H3 NY else NN H3):oI σ g tf te x H NY NN:=h
theorem MR (h:to σ H λx H1=>NG K T x H1/\t σ H1 λxs H2=>r x xs H2 Q):tBM K T r to t σ H Q:=h
def Nn (Q:VK) (xs:List V) (H:Hp):Prop:=xs.length<=sizeLine/\∀p,H p=none->Q (.ref p) (upd H p (.tup xs))
def Nq (Q:VK) (xs:List V) (H:Hp):Prop:=xs.length<=sizeLine/\∀p,H p=none->Q (.ref p) (upd H p (.lst xs))
theorem KW (h:t σ H (Nn Q)):Mm t σ H Q:=h
theorem K6 (h:t σ H (Nq Q)):Mv t σ H Q:=h
theorem ig (h:Nat.ble n 1000=true):n<=sizeLine:=aR (bB (Nat.le_of_ble_eq_true h))
theorem bN {xs:List V} (h:∀p H',aE H H'->H' p=some (.tup xs)->Q (.ref p) H') (hl:Nat.ble xs.length 1000=true:=by rfl):Nn Q xs H :=
 ⟨ig hl,λp hp=>h p _ (aE.new hp) aG⟩
theorem dj {xs:List V} (h:∀p H',aE H H'->H p=none->H' p=some (.lst xs)->Q (.ref p) H') (hl:Nat.ble xs.length 1000=true:=by rfl):Nq Q xs H :=
 ⟨ig hl,λp hp=>h p _ (aE.new hp) hp aG⟩
theorem M7 {A B:Prop} (h:B):if (!true)=true then A else B:=Jy h
theorem M8 {A B:Prop} (h:A):if (!false)=true then A else B:=M6 h
def WB (tb:TS) (D:Ends) (Pv:St->Hp->Prop) (μ:St->Hp->Nat) (n:Nat) (σ:St) (H:Hp):Prop:=∃N:St->Hp->Prop,(∀σ' H',N σ' H'->∃m',m' < n/\(m'=μ σ' H'/\Pv σ' H'))/\tb { D with nx:=N,ct:=N,bk:=D.nx } σ H
theorem MI (h:tb { D with nx:=λσ' H'=>Pv σ' H'/\μ σ' H' < n,ct:=λσ' H'=>Pv σ' H'/\μ σ' H' < n,bk:=D.nx } σ H):WB tb D Pv μ n σ H :=
 ⟨_,λσ' H' ⟨p,l⟩=>⟨_,l,rfl,p⟩,h⟩
theorem DS (Pv:St->Hp->Prop) (μ:St->Hp->Nat) (h0:Pv σ H) (hs:∀σ H,Pv σ H->c σ H λb H1=>if b=true then WB tb D Pv μ (μ σ H) σ H1 else D.nx σ H1):FX c tb D σ H:=by
 refine ⟨λm σ H=>m=μ σ H/\Pv σ H,⟨_,rfl,h0⟩,?_⟩;rintro m σ H ⟨rfl,p⟩;exact hs σ H p
end
def fD (H:Hp) (p:Addr):Prop:=∃(q:Addr) (a b c:Int) (cs:List Int),H p=some (.lst [.int a,.int b,.int c,.ref q])/\H q=some (.lst (cs.map V.int))/\0<=a/\0<=c/\c<=(cs.length:Int)/\∀x∈cs,(0:Int)<=x
theorem FD {H:Hp} {cs:List Int} (hp:H p=some (.lst [.int a,.int b,.int c,.ref q])) (hq:H q=some (.lst (cs.map V.int))):q≠p:=λe=>by
 rw[e,hp] at hq;have h:=HO.lst.inj (bR hq);cases cs with
 | nil=>cases h
 | cons x1 cs=>cases cs with
  | nil=>cases h
  | cons x2 cs=>cases cs with
   | nil=>cases h
   | cons x3 cs=>cases cs with
    | nil=>cases h
    | cons x4 cs=>simp at h
theorem fD.same (h:fD H p) (e:aE H H'):fD H' p:=by obtain ⟨q,a,b,c,cs,h1,h2,r⟩:=h;exact ⟨q,a,b,c,cs,e _ _ h1,e _ _ h2,r⟩
theorem cC.tup {H H':Hp} {p r:Addr} {xs:List V} (u:cC p H H') (B:fD H p) (h:H r=some (.tup xs)):H' r=some (.tup xs):=by
 obtain ⟨q,a,b,c,cs,h1,_⟩:=B;exact u.1 r _ h λe=>by rw[e,h1] at h;cases h
theorem cC.other (u:cC p H H') (n:r≠p) (h:H r=some o):H' r=some o:=u.1 r _ h n
theorem fD.inner (h:fD H p):∃q,Inner H p q/\∃xs,H q=some (.lst xs):=by obtain ⟨q,a,b,c,cs,h1,h2,_⟩:=h;exact ⟨q,⟨a,b,c,h1⟩,_,h2⟩
theorem fD.upd (h:fD H p) (hi:Inner H p q) (n1:r≠p) (n2:r≠q):fD (L2.upd H r o) p:=by
 obtain ⟨q',a,b,c,cs,h1,h2,z⟩:=h;have e:q'=q:=Inner.inj ⟨a,b,c,h1⟩ hi;subst e;exact ⟨q',a,b,c,cs,by rw[a9 n1.symm];exact h1,by rw[a9 n2.symm];exact h2,z⟩
theorem Inner.upd (hi:Inner H p q) (n1:r≠p):Inner (L2.upd H r o) p q:=by obtain ⟨a,b,c,h⟩:=hi;exact ⟨a,b,c,by rw[a9 n1.symm];exact h⟩
def IQ:Sp:=λvs H Q _=>∃p n,vs=[.ref p,.int n]/\fD H p/\0 < n/\n < 2^64/\∀v H',0<=v->v < n->fD H' p->cC p H H'->Q (.int v) H'
inductive F8 (K:FG9) (vs:List V) (H:Hp) (Q:VK) (E9:XK):Prop
 | mk (a:Addr) (ns:List Int):vs=[.ref a]->bD K H a (ns.map V.int)->ns.length<=63->(∀p H',H p=none->fD H' p->aE H H'->Q (.ref p) H')->F8 K vs H Q E9
inductive wZ (K:FG9) (vs:List V) (H:Hp) (Q:VK) (E9:XK):Prop
 | mk (a:Addr) (ns:List Int):vs=[.ref a]->bD K H a (ns.map V.int)->ns.length<=63->(∀H',Q (.bl true) H')->wZ K vs H Q E9
def KP:Sp:=λvs H Q _=>∃t b,vs=[.int t,.int b]/\0 < b/\Sz 8999 b/\∀r H',aE H H'->H' r=some (.tup [.int (lo t b),.int (hi t b)])->Q (.ref r) H'
def MC:Sp:=λvs H Q _=>∃a b,vs=[.int a,.int b]/\Q (.int (g a b)) H
def EX:Sp:=λvs H Q _=>∃t b,vs=[.int t,.int b]/\b≠0/\Sz 8999 b/\∀r H',aE H H'->H' r=some (.tup [.int (lo (if b < 0 then -t else t) (if b < 0 then -b else b)),.int (hi (if b < 0 then -t else t) (if b < 0 then -b else b))])->Q (.ref r) H'
def Ks (a b c d:Int):Int:=a*d+c*b
def HU (a b c d:Int):Int:=a*d - c*b
def HS (a _b c _d:Int):Int:=a*c
def D5 (K:FG9) (f:Int->Int->Int->Int->Int):Sp:=λvs H Q _=>∃p q a b c d,vs=[.ref p,.ref q]/\kz K H p [.int a,.int b]/\kz K H q [.int c,.int d]/\0 < b/\0 < d/\Sz 4000 a/\Sz 4000 b/\Sz 4000 c/\Sz 4000 d /\
 ∀r H',aE H H'->H' r=some (.tup [.int (lo (f a b c d) (b*d)),.int (hi (f a b c d) (b*d))])->Q (.ref r) H'
def IT (K:FG9):Sp:=λvs H Q _=>∃p q a b c d,vs=[.ref p,.ref q]/\kz K H p [.int a,.int b]/\kz K H q [.int c,.int d]/\0 < b/\0 < d/\c≠0/\Sz 4000 a/\Sz 4000 b/\Sz 4000 c/\Sz 4000 d /\
 ∀r H',aE H H'->H' r=some (.tup [.int (lo (if c < 0 then 0 - a*d else a*d) (if c < 0 then 0 - b*c else b*c)),.int (hi (if c < 0 then 0 - a*d else a*d) (if c < 0 then 0 - b*c else b*c))])->Q (.ref r) H'
theorem cx {α β:Type} {F:α->β->Prop}:∀{l1 l1':List α} {l2 l2':List β},Paired F l1 l2->Paired F l1' l2'->Paired F (l1++l1') (l2++l2')
 | _,_,_,_,.nil,h=>h
 | _,_,_,_,.cons r t,h=>.cons r (cx t h)
theorem cR {h:Heap} (ha:h.get? a=some o) (hb:h.get? b=some u) (hc:o.cls≠u.cls):a≠b:=λe=>by
 subst e;rw[ha] at hb;cases hb;exact hc rfl
theorem j4 (h:a≠b):Value.type a≠Value.type b:=λe=>h (by injection e)
theorem yR {z TI TO i1 i2 l1 l2:Addr} (hz:IsZip h z TI TO f0) (hTI:IsPair h TI (.ref i1) (.ref i2)) (hTO:IsPair h TO a b)
  (h1:h.IsListIter i1 l1 k1) (h2:h.IsListIter i2 l2 k2) (hl1:h.IsList l1 xs) (hl2:h.IsList l2 ys) (hT:TI≠TO) (hi:i1≠i2):ZipApart z TI TO i1 i2 l1 l2:=by
 obtain ⟨o1,g1,c1,_⟩:=h1;obtain ⟨o2,g2,c2,_⟩:=h2;obtain ⟨p1,q1,d1,_⟩:=hl1;obtain ⟨p2,q2,d2,_⟩:=hl2;refine ⟨cR hTI hz ?_,cR hTO hz ?_,cR g1 hz ?_,cR g2 hz ?_,hT,cR hTI g1 ?_,cR hTI g2 ?_,cR hTO g1 ?_,cR hTO g2 ?_,hi,cR q1 hz ?_,cR q1 hTO ?_,cR q1 g1 ?_,cR q1 g2 ?_,cR q2 hz ?_,cR q2 hTO ?_,cR q2 g1 ?_,cR q2 g2 ?_⟩
 all_goals first
  | (rw[d1];first | (rw[c1];exact j4 (by decide)) | (rw[c2];exact j4 (by decide)) | exact j4 (by decide))
  | (rw[d2];first | (rw[c1];exact j4 (by decide)) | (rw[c2];exact j4 (by decide)) | exact j4 (by decide))
  | (rw[c1];exact j4 (by decide))
  | (rw[c2];exact j4 (by decide))
  | exact j4 (by decide)
def NC (K : FG9) (l1 l2 : Addr) : It :=
  ⟨λi H => ∃ xs ys x y, bD K H l1 xs /\ bD K H l2 ys /\ xs[i]? = some x /\ ys[i]? = some y,
   λi H v H' => ∃ p x y, v = .ref p /\ H p = none /\ H' = upd H p (.tup [x, y]) /\ (∀ xs, bD K H l1 xs → xs[i]? = some x) /\ ∀ ys, bD K H l2 ys → ys[i]? = some y,
   λi H => ∃ xs ys, bD K H l1 xs /\ bD K H l2 ys /\ (xs.length ≤ i \/ ys.length ≤ i)⟩
def tnZ (z TI TO i1 i2 l1 l2:Addr) (i:Nat) (h:Heap):Prop:=IsZip h z TI TO .none/\IsPair h TI (.ref i1) (.ref i2)/\(∃a b,IsPair h TO a b)/\h.IsListIter i1 l1 i/\h.IsListIter i2 l2 i
theorem FV {P:Program} {w:World} {K:FG9} {elts:List Expr} {kk:Nat} {tpos:Pos} (z TI TO i1 i2 l1 l2:Addr) (hT:TI≠TO) (hi:i1≠i2):Turn P w K (.Tuple elts kk tpos) (NC K l1 l2) [z,TI,TO,i1,i2] z (tnZ z TI TO i1 i2 l1 l2) where
 mem:=by simp
 obj:=λi h st b hb=>by
  obtain ⟨hz,hTI,⟨a,c,hTO⟩,⟨o1,g1,c1,d1⟩,⟨o2,g2,c2,d2⟩⟩:=st;simp only[aD,aO,or_false] at hb;rcases hb with rfl | rfl | rfl | rfl | rfl
  ·exact ⟨_,hz,λv q=>nomatch q⟩
  ·exact ⟨_,hTI,λv q=>nomatch q⟩
  ·exact ⟨_,hTO,λv q=>nomatch q⟩
  ·exact ⟨o1,g1,λv q=>by rw[d1] at q;cases q⟩
  ·exact ⟨o2,g2,λv q=>by rw[d2] at q;cases q⟩
 keep:=λi h h' st k=>by
  obtain ⟨hz,hTI,⟨a,c,hTO⟩,h1,h2⟩:=st;exact ⟨k z (by simp) _ hz,k TI (by simp) _ hTI,⟨a,c,k TO (by simp) _ hTO⟩,h1.at λo e=>k i1 (by simp) o e,h2.at λo e=>k i2 (by simp) o e⟩
 item:=by
  intro X hP hw hK hc i pins s σ H E I hf st hg;subst hP hw hK;obtain ⟨hz,hTI,⟨a,c,hTO⟩,h1,h2⟩:=st;obtain ⟨xs,ys,x,y,qx,qy,ex,ey⟩:=hg;obtain ⟨us,rx,px,_⟩:=I.list qx;obtain ⟨ws,ry,py,_⟩:=I.list qy;obtain ⟨u,eu,ru⟩:=rx.get ex;obtain ⟨v,ev,rv⟩:=ry.get ey;have D:=yR hz hTI hTO h1 h2 px.isList py.isList hT hi;refine wpAny_pyNext_zip_item D hz hTI hTO h1 h2 px.isList py.isList (x:=u) (y:=v) (by simpa using eu) (by simpa using ev) λh' a1 a2 a3 a4 a5 a6 hk=>?_
  refine ⟨_,rfl,wpAny_letOwnedTupleGo_zip a1 λh'' hz'' hs=>?_⟩;have hT0:H s.heap.objs.size=none:=I.hok.fresh (av _);have zne:s.heap.objs.size≠z:=EI (Heap.lt_size hz)
  have up:∀b o,b∉[z,TO,i1,i2]->s.heap.get? b=some o->h''.get? b=some o:=λb o hb e=>by
   simp only[aD,aO,or_false,not_or] at hb;exact (hs.2 b hb.1).trans (hk b o hb.1 hb.2.1 hb.2.2.1 hb.2.2.2 e)
  have fx:∀b∈[z,TO,i1,i2],jo X pins H b:=λb hb=>hf b (by
   simp only[aD,aO,or_false] at hb ⊢;rcases hb with rfl | rfl | rfl | rfl <;> simp)
  have nx:∀b o,H b=some o->b∉[z,TO,i1,i2]:=λb o e hb=>by
   have:=(fx b hb).1;rw[this] at e;cases e
  have nT:∀{b:Addr} {o:HO},H b=some o->b≠s.heap.objs.size:=λe q=>by rw[q,hT0] at e;cases e
  have tup:h''.get? s.heap.objs.size=some { cls:=.type "tuple",data:=.seq #[u,v] }:=(hs.2 _ zne).trans a5
  have I2:Inv X pins σ (upd H s.heap.objs.size (.tup [x,y])) { s with heap:=h'' }:=by
   refine I.step (g':=s.gens) (d':=s.drawn) (t':=s.toks) (ch:=[z,TO,i1,i2]) (λb hb=>?_) (λb o _ _ hb e _=>up b o hb e) (λb o _ _ hb e _=>⟨o.slots,up b o hb e⟩) (λb o hb e n=>?_)
    (λb o hb e=>⟨o,up b o hb e⟩) (λb q e=>by rw[a9 (nT e)];exact e) (λb o q e=>by rw[a9 (nT e)];exact e) (λb q e=>⟨#[],by rw[a9 (nT e),e];simp⟩) (λm hm=>?_) (λb o e=>?_) I.bare
   ·obtain ⟨_,f1,_,f3,f4,f5⟩:=fx b hb;exact ⟨f3,f1,f4,f5⟩
   ·rw[a9 (b9 (Heap.lt_size e))];exact n
   ·obtain ⟨o,es,ep,ho,r⟩:=hm;exact ⟨o,es,ep,up _ o (λz=>(fx _ z).2.1 rfl) ho,r⟩
   ·by_cases hb:b=s.heap.objs.size
    ·subst hb;rw[aG] at e;cases e;exact ⟨ig rfl,[u,v],.cons ru (.cons rv .nil),⟨_,tup,rfl,_,rfl⟩⟩
    ·rw[a9 hb] at e;refine (I.hok b o e).stay (λc v' hc q=>up c v' ?_ q) (λc q=>by rw[a9 (nT q)];exact q) λc xs q=>by rw[a9 (nT q)];exact q
     rcases hc with rfl | hc
     ·exact nx _ _ e
     ·exact nx _ _ hc
  refine ⟨.ref s.heap.objs.size,_,I2,rfl,⟨_,x,y,rfl,hT0,rfl,λxs' q=>by rw[I.list_inj q qx];exact ex,λys' q=>by rw[I.list_inj q qy];exact ey⟩,?_,λb hb=>?_⟩
  ·refine ⟨hz'',(hs.2 _ D.TIz).trans (hk _ _ D.TIz D.TITO D.TIi1 D.TIi2 hTI),⟨_,_,(hs.2 _ D.TOz).trans a2⟩,a3.at λo e=>(hs.2 _ D.i1z).trans e,a4.at λo e=>(hs.2 _ D.i2z).trans e⟩
  ·obtain ⟨o,e,_⟩:∃o,s.heap.get? b=some o/\True:=by
    obtain ⟨o1,g1,_⟩:=h1;obtain ⟨o2,g2,_⟩:=h2;simp only[aD,aO,or_false] at hb;rcases hb with rfl | rfl | rfl | rfl | rfl
    ·exact ⟨_,hz,trivial⟩
    ·exact ⟨_,hTI,trivial⟩
    ·exact ⟨_,hTO,trivial⟩
    ·exact ⟨_,g1,trivial⟩
    ·exact ⟨_,g2,trivial⟩
   rw[a9 (b9 (Heap.lt_size e))];exact (hf b hb).1
 done:=by
  intro X hP hw hK hc i pins s σ H E I hf st hg;subst hP hw hK;obtain ⟨hz,hTI,⟨a,c,hTO⟩,h1,h2⟩:=st;obtain ⟨xs,ys,qx,qy,hend⟩:=hg;obtain ⟨us,rx,px,_⟩:=I.list qx;obtain ⟨ws,ry,py,_⟩:=I.list qy;have lx:=rx.length;have ly:=ry.length;have D:=yR hz hTI hTO h1 h2 px.isList py.isList hT hi
  refine wpAny_pyNext_zip_end (I.ok.hd hc) D hz hTI hTO h1 h2 px.isList py.isList (by
   rcases hend with q | q
   ·exact .inl (by simp;lia)
   ·exact .inr (by simp;lia)) λh' hk=>⟨rfl,?_⟩
  have up:∀b o,b∉[z,TO,i1,i2]->s.heap.get? b=some o->h'.get? b=some o:=λb o hb e=>by
   simp only[aD,aO,or_false,not_or] at hb;exact hk b o hb.1 hb.2.1 hb.2.2.1 hb.2.2.2 e
  have fx:∀b∈[z,TO,i1,i2],jo X pins H b:=λb hb=>hf b (by
   simp only[aD,aO,or_false] at hb ⊢;rcases hb with rfl | rfl | rfl | rfl <;> simp)
  have nx:∀b o,H b=some o->b∉[z,TO,i1,i2]:=λb o e hb=>by
   have:=(fx b hb).1;rw[this] at e;cases e
  refine I.step (g':=s.gens) (d':=s.drawn) (t':=s.toks) (ch:=[z,TO,i1,i2]) (λb hb=>?_) (λb o _ _ hb e _=>up b o hb e) (λb o _ _ hb e _=>⟨o.slots,up b o hb e⟩) (λb o hb e n=>n)
   (λb o hb e=>⟨o,up b o hb e⟩) (λb q e=>e) (λb o q e=>e) (λb q e=>⟨#[],by rw[e];simp⟩) (λm hm=>?_) (λb o e=>?_) I.bare
  ·obtain ⟨_,f1,_,f3,f4,f5⟩:=fx b hb;exact ⟨f3,f1,f4,f5⟩
  ·obtain ⟨o,es,ep,ho,r⟩:=hm;exact ⟨o,es,ep,up _ o (λz=>(fx _ z).2.1 rfl) ho,r⟩
  ·refine (I.hok b o e).stay (λc v' hc q=>up c v' ?_ q) (λc q=>q) λc xs q=>q
   rcases hc with rfl | hc
   ·exact nx _ _ e
   ·exact nx _ _ hc
 self:=λ_ _ _ _ _ st h=>wpAny_pyIter_zip st.1 h
section
variable {X:Cx}
def LM (K:FG9) (ta:TA):TI:=λσ H R=>ta σ H λvs H1=>∃l1 l2,vs=[.ref l1,.ref l2]/\(∃xs,bD K H1 l1 xs)/\(∃ys,bD K H1 l2 ys)/\R (NC K l1 l2) H1
theorem v7 {a b:Expr} {ta:TA} {p pos tpos:Pos} {elts:List Expr} {kk:Nat} (hg:Gl X "zip") (hm:X.mg "zip"=none) (ha:PA X [a,b] ta) (hs:starEach [a,b] X.env=[(false,eval a X.env),(false,eval b X.env)]:=by rfl) (hs2:starEach [b] X.env=[(false,eval b X.env)]:=by rfl) :
  PI X (.Tuple elts kk tpos) (.Call (.Name "zip" p) [a,b] [] pos) (LM X.K ta):=by
 intro pins s σ H R I h;refine Call_ (gW I hg hm boot_zip (PyProof.Rows.callWith_type1 (eY (ha pos pins s σ H _ I h) λus s1 ⟨vs,H1,I1,r1,q1⟩=>?_) (by rw[hs,hs2]) (by rw[hs2];rfl)));obtain ⟨l1,l2,e,⟨xs,qx⟩,⟨ys,qy⟩,q⟩:=q1;subst e;obtain ⟨u,v,rfl,ru,rv⟩:=vals2 r1;cases ru;cases rv;obtain ⟨us,rx,px,_⟩:=I1.list qx;obtain ⟨ws,ry,py,_⟩:=I1.list qy;refine call_zip_2 px.isList py.isList λh' a1 a2 a3 a4 a5 a6 hk=>wpAny_pyIter_zip a1 ?_
 have I2:Inv X pins σ H1 { s1 with heap:=h' }:=I1.kept (t':=s1.toks) hk;refine ⟨_,[s1.heap.objs.size+4,s1.heap.objs.size+2,s1.heap.objs.size+3,s1.heap.objs.size,s1.heap.objs.size+1],_,_,H1,rfl,I2,FV (s1.heap.objs.size+4) (s1.heap.objs.size+2) (s1.heap.objs.size+3) s1.heap.objs.size (s1.heap.objs.size+1) l1 l2 (b9 (gC _)) (b9 (gC _)),⟨a1,a2,⟨_,_,a3⟩,a4,a5⟩,λb hb=>?_,q⟩
 have hb':s1.heap.objs.size<=b:=by
  simp only[aD,aO,or_false] at hb;rcases hb with rfl | rfl | rfl | rfl | rfl <;> first | exact vN _ _ | exact av _
 exact I1.fpOk hb' (I1.hok.fresh hb')
theorem yi (hc:X.calm=true):mH X (.builtin "all") (λxs H Q=>∃(p:Addr) (bs:List Bool),xs=[.ref p]/\bD X.K H p (bs.map V.bl)/\Q (.bl (bs.all id)) H):=by
 intro pins s σ H xs us Q I r h;obtain ⟨p,bs,rfl,hp,q⟩:=h;obtain ⟨u,rfl,ru⟩:=vals1 r;cases ru;obtain ⟨vs,rv,pl,hz⟩:=I.list hp
 have hb:PyProof.Rows.LSm.BoolsAre vs bs:=by
  clear q hp pl hz
  induction bs generalizing vs with
  | nil=>cases rv;exact .nil
  | cons b bs ih =>
   rw[jR] at rv;cases rv with
   | cons r1 r2=>cases r1;exact .cons b (ih _ r2)
 have hlt:p < s.heap.objs.size:=by obtain ⟨_,e,_⟩:=pl.isList;exact Heap.lt_size e
 refine call_all_walk (wpAny_pyIter_list pl.isList ?_)
 refine ⟨s.heap.objs.size,[s.heap.objs.size,p],[s.heap.objs.size],vs.toArray.size,_,_,λi=>(bs[i]?).getD true,rfl,Walks.list (A:=X.A.in1) (I.ok.hd hc) _ p (b9 hlt) vs.toArray,
  ⟨⟨_,Heap.get?_push_size _ rfl,rfl,rfl⟩,pl.isList.push _⟩,λi v s' Q' E' hP hQ=>?_,λh' tk hk=>?_⟩
 ·obtain ⟨b,e,rfl⟩:=hb.get i v (by simpa using hP);simp only[e,Option.getD_some] at hQ;exact wpAny_truthy_bool hQ
 ·have e:((List.range vs.toArray.size).all λi=>(bs[i]?).getD true)=bs.all id:=by
   rw[aL,hb.length];exact PyProof.Rows.LSm.range_all bs
  rw[e];exact ⟨.bl _,H,I.kept (t':=tk) (PyProof.Rows.LSm.kept_iter hk),rfl,q⟩
theorem Im (hc:X.calm=true):mH X (.builtin "sum") (λxs H Q=>∃(p:Addr) (ns:List Int),xs=[.ref p]/\bD X.K H p (ns.map V.int)/\Q (.int ns.sum) H):=by
 intro pins s σ H xs us Q I r h;obtain ⟨p,ns,rfl,hp,q⟩:=h;obtain ⟨u,rfl,ru⟩:=vals1 r;cases ru;obtain ⟨vs,rv,pl,_⟩:=I.list hp;have hi:IntsAre vs ns:=intsAre_of rv;obtain ⟨xs,hx⟩:=hi.allInts.items;have hl':s.heap.IsList p (intItems xs):=hx ▸ pl.isList;refine sum_intListG (I.ok.hd hc) hl' λh' tk t' hk=>?_
 have e1:ns=xs.toList.map (·.1):=by
  rw[<- nums_intItems,<- hx];exact (show numsOf vs.toArray.toList=ns from hi.numsOf).symm
 have e2:preSum (numAt xs) xs.size=ns.sum:=by
  rw[preSum_eq,aJ (by simp),e1]
 rw[e2];exact ⟨.int _,H,I.kept (t':=tk) hk,⟨_,rfl⟩,q⟩
end
section
variable {K:FG9} {l1 l2:Addr} {xs ws:List V} {g:TG} {tf:TT} {te:TE} {Q:VK} {σ₀:St} {H:Hp}
theorem tz (Pv:Nat->List V->Hp->Prop) (hz:xs.length<=sizeLine) (hw:ws.length=xs.length) (h0:Pv 0 [] H) (hl:∀i ys H,i<=xs.length->Pv i ys H->bD K H l1 xs/\bD K H l2 ws)
  (hs:∀i x y ys H p,xs[i]?=some x->ws[i]?=some y->ys.length<=i->Pv i ys H->H p=none->oI σ₀ g tf te (.ref p) (upd H p (.tup [x,y])) (λy H'=>Pv (i+1) (ys++[y]) H') (λH'=>Pv (i+1) ys H'))
  (hd:∀ys H,ys.length<=xs.length->Pv xs.length ys H->∀p,H p=none->Q (.ref p) (upd H p (.lst ys))):pR (NC K l1 l2) σ₀ g tf te Q H:=by
 refine ⟨λi m ys H=>m=xs.length - i/\i<=xs.length/\ys.length<=i/\Pv i ys H,⟨xs.length,by simp,bH _,bH _,h0⟩,?_⟩;rintro i m ys H ⟨rfl,hi,hy,p⟩;obtain ⟨q1,q2⟩:=hl i ys H hi p;by_cases hlt:i < xs.length
 ·refine .inr ⟨⟨xs,ws,xs[i],ws[i]'(by lia),q1,q2,by simp [hlt],by simp⟩,by lia,λy H'=>Pv (i+1) (ys++[y]) H',λH'=>Pv (i+1) ys H',λy H' p'=>⟨xs.length - (i+1),by lia,rfl,hlt,by rw[az,cA];lia,p'⟩,λH' p'=>⟨xs.length - (i+1),by lia,rfl,hlt,by lia,p'⟩,λx H' y=>?_⟩;obtain ⟨r,x',y',rfl,hr,rfl,e1,e2⟩:=y;exact hs i x' y' ys _ r (e1 xs q1) (e2 ws q2) hy p hr
 ·have e:i=xs.length:=by lia
  subst e;exact .inl ⟨⟨xs,ws,q1,q2,.inl (av _)⟩,by lia,hd ys H hy p⟩
end
section
variable {X:Cx}
theorem pW (K:FG9) (n:Nat) {es:List Expr} {k:Nat} {pos:Pos} {t:Iw} (h:Nj X es t) (hK:X.K=K:=by rfl) (hc:X.calm=true:=by rfl)
  (hn:(assignEach es X.env).length=n:=by rfl) (hst:(assignEach es X.env).findIdx? (·.1)=none:=by rfl):PG X (.Tuple es k pos) (LP K n t):=by subst hK;exact uu hc h hn hst
theorem p6 (K:FG9) (hK:X.K=K):Nr X (Lj K):=by subst hK;exact bJ
theorem fv (K:FG9) (hK:X.K=K):Nr X (Lk K):=by subst hK;exact bC
theorem Ef (K:FG9) (hK:X.K=K) (hu:X.A.units+50 < cLine):wC X (compareOp .NotEq) (MU K):=by subst hK;exact m7 hu
theorem xy (K:FG9) {tg l:Expr} {tl:TE} (hl:PE X l tl) (hK:X.K=K:=by rfl):PI X tg l (HE K tl):=by subst hK;exact cb hl
theorem Gd (K:FG9) (hK:X.K=K):NV X (Lf K):=by subst hK;exact Ah
end
theorem du {X:Cx} {e e':Expr} {es:List Expr} {te:TE} {t:TA} (h:e=e') (ha:PE X e' te) (hr:PA X es t) (hs:∀l,starEach (e' :: l) X.env=(false,eval e' X.env) :: starEach l X.env:=by intro _;rfl):PA X (e :: es) (ie te t):=by subst h;exact ae ha hr (hs _)
section
variable {σ:St} {H:Hp} {D:Ends} {Q:VK}
theorem lY (hl:H l=some (.lst xs)) (hz:xs.length < sizeLine) (h:Q .non (upd H l (.lst (xs++[y])))):D8 (.ref l) [y] H Q:=⟨l,xs,y,rfl,rfl,hl,hz,h⟩
theorem Jd {K:FG9} (h:ta σ H λvs H1=>∃l1 l2,vs=[.ref l1,.ref l2]/\(∃xs,bD K H1 l1 xs)/\(∃ys,bD K H1 l2 ys)/\R (NC K l1 l2) H1):LM K ta σ H R:=h
theorem m6 (h1:H l=some (.lst xs)) (h2:H b=some (.lst zs)) (hz:xs.length+zs.length<=sizeLine) (h:∀p H',aE H H'->H p=none->H' p=some (.lst (xs++zs))->Q (.ref p) H'):MV (.ref l) (.ref b) H Q :=
 ⟨l,b,xs,zs,rfl,rfl,h1,h2,hz,λp hp=>h p _ (aE.new hp) hp aG⟩
theorem Gn {K:FG9} {lo hi:Option Int} (h1:bD K H a xs) (h:∀p H',aE H H'->H p=none->H' p=some (.lst (qe xs lo hi))->Q (.ref p) H'):Lf K (.ref a) lo hi H Q :=
 ⟨a,xs,rfl,h1,λp hp=>h p _ (aE.new hp) hp aG⟩
theorem iM {xs:List α} {i:Int} (h0:0<=i) (h1:i < xs.length):∃v,FE xs i=some v/\v∈xs/\xs[i.toNat]?=some v:=by
 have hj:i.toNat < xs.length:=by lia
 refine ⟨xs[i.toNat],?_,aS hj,by simp [hj]⟩;have:=cX (xs:=xs) (j:=i.toNat) (v:=xs[i.toNat]) (by simp [hj]);rwa [Int.toNat_of_nonneg h0] at this
end
theorem cJ {α β:Type} {F:α->β->Prop}:∀{l1:List α} {l2:List β} {y:β},Paired F l1 l2->y∈l2->∃x∈l1,F x y
 | _,_,_,.nil,h=>nomatch h
 | _,_,_,.cons r t,h=>by
  rcases aD.mp h with rfl | h
  ·exact ⟨_,cT,r⟩
  ·obtain ⟨x,hx,q⟩:=cJ t h;exact ⟨x,bM _ hx,q⟩
theorem cG {F:α->β->Prop} {l1:List α} {l2:List β} {i:Nat} {y:β} (h:Paired F l1 l2) (e:l2[i]?=some y):∃x,l1[i]?=some x/\F x y:=by
 have hl:=h.length;have hi:i < l2.length:=(aF.mp e).1;refine ⟨l1[i]'(by lia),by simp,?_⟩;have:=jc h (i:=i) (by lia) hi;have e2:l2[i]=y:=(aF.mp e).2;rwa [e2] at this
def tQ (n:Int×Int):Prop:=0 < n.2/\Int.gcd n.1 n.2=1/\Sz 8000 n.1/\Sz 8000 n.2
theorem take_snoc {α:Type} {l:List α} {v:α} (h:l[i]?=some v):l.take (i+1)=l.take i++[v]:=by rw[List.take_add_one,h];rfl
theorem aE.after (s:aE H H') (h:H r=Option.none):aE H (upd H' r o):=λb u e=>by rw[a9 (dW e h)];exact s b u e
theorem cC.after (s:cC b H H') (h:H r=Option.none):cC b H (upd H' r o):=⟨λc u e n=>by rw[a9 (dW e h)];exact s.1 c u e n,λq hi=>(s.2 q hi).upd λz=>by obtain ⟨_,_,_,e⟩:=hi;rw[<- z,h] at e;cases e⟩
theorem cC.same (s:cC b H H') (e:aE H' H''):cC b H H'':=s.trans e.upto
theorem A9 {α:Type} {Pr:α->Prop} {l:List α} {a:α} (h:∀n∈l,Pr n) (ha:Pr a):∀n∈l++[a],Pr n:=λn hn=>by
 rcases ax.mp hn with hn | hn
 ·exact h n hn
 ·have e:n=a:=by simpa using hn
  rw[e];exact ha
abbrev yu (h:Heap) (z TI TO:Addr) (f0 f1:Value):Prop:=h.get? z=some { cls:=.type "zip",dict:=none,data:=.fields #[f0,f1,.bool false,.ref TI,.ref TO],slots:=#[] }
section
variable {prog:Program} {w:World} {A:Around} {E:Value->Shared->Prop} {s:Shared}
theorem DK (e:s.heap.get? a=some o) (h:Q (some o) s):wpAny (model prog w) A (loadIfAlive a) Q E s:=by
 intro Γ p hp;show Sem.wp _ _ (.loadIfAlive a .pure) _ _ _ _
 simp only[Sem.wp_loadIfAlive,e];exact wpAny_pure h Γ p hp
theorem xC {z TI TO T:Addr} (zr:yu s.heap z TI TO (rawInt T) (.bool b1)) (al:s.heap.get? T=some o)
  (h:∀h',yu h' z TI TO (rawInt T) (.bool true)->Heap.SameBut z s.heap h'->Q false { s with heap:=h' }):wpAny (model prog w) A (Builtin.SmallTypes.ownedTupleIsFree (.ref z)) Q E s:=by
 unfold Builtin.SmallTypes.ownedTupleIsFree;refine wpAny_bind (wpAny_field zr rfl (x:=rawInt T) rfl ?_);refine wpAny_bind (DK (a:=T) al ?_);refine wpAny_bind (wpAny_field zr rfl (x:=.bool b1) rfl ?_);cases b1 with
 | true=>exact wpAny_pure (h _ zr (.refl ..))
 | false=>exact wpAny_bind (wpAny_setField_rec zr (by simp) λh' zr' sb=>wpAny_pure (h h' zr' sb))
theorem Fj {z TI TO T i1 i2 l1 l2:Addr} {Q:Value->Shared->Prop} (D:ZipApart z TI TO i1 i2 l1 l2) (zr:yu s.heap z TI TO (rawInt T) (.bool b1)) (al:s.heap.get? T=some o)
  (pt:IsPair s.heap TI (.ref i1) (.ref i2)) (j1:s.heap.IsListIter i1 l1 k1) (j2:s.heap.IsListIter i2 l2 k2) (m1:s.heap.IsList l1 us) (m2:s.heap.IsList l2 ws) (eu:us[k1]?=some u) (ev:ws[k2]?=some v)
  (hQ:∀h',yu h' z TI TO (rawInt T) (.bool true)->h'.IsListIter i1 l1 (k1+1)->h'.IsListIter i2 l2 (k2+1)->IsPair h' s.heap.objs.size u v->(∀c o,c≠z->c≠i1->c≠i2->s.heap.get? c=some o->h'.get? c=some o)->Q (.ref s.heap.objs.size) { s with heap:=h' }) :
  wpAny (model prog w) A (Builtin.«zip.__next__» ⟨[.ref z],[]⟩) (λfin s'=>∃v,fin=.done (.ret v)/\Q v s') E s:=by
 change wpAny _ _ (field (Value.ref z) 2 >>= _) _ _ s
 refine wpAny_bind (wpAny_field zr rfl (x:=.bool false) rfl ?_)
 change wpAny _ _ (field (Value.ref z) 3 >>= _) _ _ s
 refine wpAny_bind (wpAny_field zr rfl (x:=.ref TI) rfl (wpAny_bind (wpAny_seqItems pt rfl ?_)))
 change wpAny _ _ (Builtin.SmallTypes.ownedTupleIsFree (Value.ref z) >>= _) _ _ s
 refine wpAny_bind (xC zr al λg1 zr1 sb1=>?_);simp only[gQ,if_false];refine wpAny_bind ?_;rw[<- Array.forIn_toList];simp only[IB,z5];have j1':=j1.extBut sb1.extBut D.i1z;have m1':=m1.extBut sb1.extBut D.l1z;refine wpAny_bind (wpAny_bind (wpAny_holding ?_))
 change wpAny _ _ (Builtin.SmallTypes.nextOf (Value.ref i1) >>= _) _ _ _
 refine wpAny_bind (wpAny_nextOf_list_item j1' m1' eu λg2 j1a sb2=>wpAny_pure ?_);refine wpAny_pure ?_;have j2':=(j2.extBut sb1.extBut D.i2z).extBut sb2.extBut D.i12.symm;have m2':=(m2.extBut sb1.extBut D.l2z).extBut sb2.extBut D.l2i1;refine wpAny_bind (wpAny_bind (wpAny_holding ?_))
 change wpAny _ _ (Builtin.SmallTypes.nextOf (Value.ref i2) >>= _) _ _ _
 refine wpAny_bind (wpAny_nextOf_list_item j2' m2' ev λg3 j2a sb3=>wpAny_pure ?_);refine wpAny_pure (wpAny_pure ?_);refine wpAny_bind (wpAny_newTuple (hsz:=ig rfl) ?_);have sz:g3.objs.size=s.heap.objs.size:=by rw[sb3.1,sb2.1,sb1.1]
 have up:∀c o,c≠z->c≠i1->c≠i2->s.heap.get? c=some o->g3.get? c=some o:=λc o c1 c2 c3 e=>sb3.extBut _ _ c3 (sb2.extBut _ _ c2 (sb1.extBut _ _ c1 e))
 have zr3:yu g3 z TI TO (rawInt T) (.bool true):=sb3.extBut _ _ D.i2z.symm (sb2.extBut _ _ D.i1z.symm zr1);refine wpAny_pure ⟨_,rfl,?_⟩
 change Q (.ref g3.objs.size) { s with heap:=g3.push { cls:=.type "tuple",data:=.seq #[u,v] } }
 have last:=hQ (g3.push { cls:=.type "tuple",data:=.seq #[u,v] }) (Heap.get?_push_of_some _ zr3) ((j1a.extBut sb3.extBut D.i12).at λo e=>Heap.get?_push_of_some _ e) (j2a.at λo e=>Heap.get?_push_of_some _ e)
  (by rw[<- sz];exact Heap.get?_push_size _ rfl) λc o c1 c2 c3 e=>Heap.get?_push_of_some _ (up c o c1 c2 c3 e)
 rw[sz];exact last
theorem GV {z TI TO T i1 i2 l1 l2:Addr} (hh:A.handled=none) (D:ZipApart z TI TO i1 i2 l1 l2) (zr:yu s.heap z TI TO (rawInt T) (.bool b1)) (al:s.heap.get? T=some o)
  (pt:IsPair s.heap TI (.ref i1) (.ref i2)) (j1:s.heap.IsListIter i1 l1 k1) (m1:s.heap.IsList l1 us) (eu:us[k1]?=none)
  (hE:∀h' e,(∀c o,c≠z->c≠i1->c≠i2->s.heap.get? c=some o->h'.get? c=some o)->(∃o,h'.get? e=some o/\o.cls=.type "StopIteration")->E (.ref e) { s with heap:=h' }) :
  wpAny (model prog w) A (Builtin.«zip.__next__» ⟨[.ref z],[]⟩) Q E s:=by
 change wpAny _ _ (field (Value.ref z) 2 >>= _) _ _ s
 refine wpAny_bind (wpAny_field zr rfl (x:=.bool false) rfl ?_)
 change wpAny _ _ (field (Value.ref z) 3 >>= _) _ _ s
 refine wpAny_bind (wpAny_field zr rfl (x:=.ref TI) rfl (wpAny_bind (wpAny_seqItems pt rfl ?_)))
 change wpAny _ _ (Builtin.SmallTypes.ownedTupleIsFree (Value.ref z) >>= _) _ _ s
 refine wpAny_bind (xC zr al λg1 zr1 sb1=>?_);simp only[gQ,if_false];refine wpAny_bind ?_;rw[<- Array.forIn_toList];simp only[IB,z5];refine wpAny_bind (wpAny_bind (wpAny_holding ?_))
 change wpAny _ _ (Builtin.SmallTypes.nextOf (Value.ref i1) >>= _) _ _ _
 exact wpAny_bind (wpAny_nextOf_list_end hh (j1.extBut sb1.extBut D.i1z) (m1.extBut sb1.extBut D.l1z) eu λg2 e xb he=>hE g2 e (λc o c1 c2 _ q=>xb _ _ c2 (sb1.extBut _ _ c1 q)) he)
theorem Fh {z TI TO T i1 i2 l1 l2:Addr} (D:ZipApart z TI TO i1 i2 l1 l2) (zr:yu s.heap z TI TO (rawInt T) (.bool b1)) (al:s.heap.get? T=some o)
  (pt:IsPair s.heap TI (.ref i1) (.ref i2)) (j1:s.heap.IsListIter i1 l1 k1) (j2:s.heap.IsListIter i2 l2 k2) (m1:s.heap.IsList l1 us) (m2:s.heap.IsList l2 ws) (eu:us[k1]?=some u) (ev:ws[k2]?=some v)
  (hQ:∀h',yu h' z TI TO (rawInt T) (.bool true)->h'.IsListIter i1 l1 (k1+1)->h'.IsListIter i2 l2 (k2+1)->IsPair h' s.heap.objs.size u v->(∀c o,c≠z->c≠i1->c≠i2->s.heap.get? c=some o->h'.get? c=some o)->Q (some (.ref s.heap.objs.size)) { s with heap:=h' }) :
  wpAny (model prog w) A (pyNext (.ref z)) Q E s:=by
 have ty:s.TypeIs (.ref z) "zip":=⟨_,zr,rfl⟩;unfold pyNext;refine wpAny_bind (wpAny_attempt (wpAny_callSpecial?_slot (name:=Str.ofString "__next__") ty mK (wpAny_call_entry mK ty PySem.F.entry_zip_next ?_ (Nw _))));exact Fj D zr al pt j1 j2 m1 m2 eu ev λh' a1 a2 a3 a4 a5=>wpAny_pure (hQ h' a1 a2 a3 a4 a5)
theorem Fg {z TI TO T i1 i2 l1 l2:Addr} (hh:A.handled=none) (D:ZipApart z TI TO i1 i2 l1 l2) (zr:yu s.heap z TI TO (rawInt T) (.bool b1)) (al:s.heap.get? T=some o)
  (pt:IsPair s.heap TI (.ref i1) (.ref i2)) (j1:s.heap.IsListIter i1 l1 k1) (m1:s.heap.IsList l1 us) (eu:us[k1]?=none)
  (hQ:∀h',(∀c o,c≠z->c≠i1->c≠i2->s.heap.get? c=some o->h'.get? c=some o)->Q none { s with heap:=h' }):wpAny (model prog w) A (pyNext (.ref z)) Q E s:=by
 have ty:s.TypeIs (.ref z) "zip":=⟨_,zr,rfl⟩;unfold pyNext;refine wpAny_bind (wpAny_attempt (wpAny_callSpecial?_slot (name:=Str.ofString "__next__") ty mK (wpAny_call_entry mK ty PySem.F.entry_zip_next ?_ (Nw _))));refine GV hh D zr al pt j1 m1 eu λh' e kk ⟨oe,he,hc⟩=>?_
 exact wpAny_bind (wpAny_isInstance (T:="StopIteration") (b:=true) ⟨oe,he,hc⟩ isSubtype_stop (wpAny_pure (hQ _ kk)))
end
section
variable {X:Cx} {pins:List (Addr×Obj)} {σ:St} {H:Hp} {s:Shared}
theorem Inv.moved {ch:List Addr} (I:Inv X pins σ H s) (fx:∀b∈ch,jo X pins H b) (up:∀b o,b∉ch->s.heap.get? b=some o->h'.get? b=some o) (hg:AllBare g') :
  Inv X pins σ H { s with heap:=h',gens:=g',drawn:=d',toks:=t' }:=by
 have nx:∀b o,H b=some o->b∉ch:=λb o e hb=>by have:=(fx b hb).1;rw[this] at e;cases e
 refine I.step (ch:=ch) (λb hb=>?_) (λb o _ _ hb e _=>up b o hb e) (λb o _ _ hb e _=>⟨o.slots,up b o hb e⟩) (λb o hb e n=>n) (λb o hb e=>⟨o,up b o hb e⟩) (λb q e=>e) (λb o q e=>e) (λb q e=>⟨#[],by rw[e];simp⟩) (λm hm=>?_) (λb o e=>?_) hg
 ·obtain ⟨_,f1,_,f3,f4,f5⟩:=fx b hb;exact ⟨f3,f1,f4,f5⟩
 ·obtain ⟨o,es,ep,ho,r⟩:=hm;exact ⟨o,es,ep,up _ o (λz=>(fx _ z).2.1 rfl) ho,r⟩
 ·refine (I.hok b o e).stay (λc v' hc q=>up c v' ?_ q) (λc q=>q) λc xs q=>q
  rcases hc with rfl | hc
  ·exact nx _ _ e
  ·exact nx _ _ hc
theorem Inv.track (I:Inv X pins σ H s) (fp:jo X pins H p) (new:fy X.prog X.w (upd H p o) s.heap p o):Inv X pins σ (upd H p o) s:=by
 have nt:∀{b:Addr} {u:HO},H b=some u->b≠p:=λe z=>by rw[z,fp.1] at e;cases e
 refine I.step (h':=s.heap) (g':=s.gens) (d':=s.drawn) (t':=s.toks) (ch:=[p]) (λb hb=>?_) (λb o _ _ _ e _=>e) (λb o _ _ _ e _=>⟨o.slots,e⟩) (λb o hb e n=>?_) (λb o _ e=>⟨o,e⟩) (λb q e=>by rw[a9 (nt e)];exact e) (λb o q e=>by rw[a9 (nt e)];exact e)
  (λb q e=>⟨#[],by rw[a9 (nt e),e];simp⟩) (λm hm=>hm) (λb u e=>?_) I.bare
 ·have e:b=p:=by simpa using hb
  subst e;obtain ⟨_,f1,_,f3,f4,f5⟩:=fp;exact ⟨f3,f1,f4,f5⟩
 ·rw[a9 λz=>hb (by simp [z])];exact n
 ·by_cases hb:b=p
  ·subst hb;rw[aG] at e;cases e;exact new
  ·rw[a9 hb] at e;exact (I.hok b u e).stay (λc v _ q=>q) (λc q=>by rw[a9 (nt q)];exact q) λc xs q=>by rw[a9 (nt q)];exact q
end
def Kw (H:Hp) (p:V×V) (x:V):Prop:=∃T,x=.ref T/\H T=some (.tup [p.1,p.2])
theorem Kw.same (h:Kw H p x) (e:aE H H'):Kw H' p x:=by obtain ⟨T,q,g⟩:=h;exact ⟨T,q,e _ _ g⟩
def Zst (h:Heap) (z TI TO:Addr) (base:Nat):Prop:=(∃a b,IsPair h TO a b)/\(IsZip h z TI TO .none\/∃(T:Addr) (b1:Bool) (o:Obj),yu h z TI TO (rawInt T) (.bool b1)/\h.get? T=some o/\@LE.le Nat instLENat base T)
theorem z7 {z TI TO i1 i2 l1 l2:Addr} (hz:yu h z TI TO f0 f1) (hTI:IsPair h TI (.ref i1) (.ref i2)) (hTO:IsPair h TO a b) (h1:h.IsListIter i1 l1 k1) (h2:h.IsListIter i2 l2 k2) (hl1:h.IsList l1 xs) (hl2:h.IsList l2 ys) (hT:TI≠TO) (hi:i1≠i2):ZipApart z TI TO i1 i2 l1 l2:=by
 obtain ⟨o1,g1,c1,_⟩:=h1;obtain ⟨o2,g2,c2,_⟩:=h2;obtain ⟨p1,q1,d1,_⟩:=hl1;obtain ⟨p2,q2,d2,_⟩:=hl2;have zt:Value.type "zip"≠.type "tuple":=j4 (by decide);have it:Value.type "list_iterator"≠.type "tuple":=j4 (by decide);have iz:Value.type "list_iterator"≠.type "zip":=j4 (by decide);have lz:Value.type "list"≠.type "zip":=j4 (by decide);have lt:Value.type "list"≠.type "tuple":=j4 (by decide);have li:Value.type "list"≠.type "list_iterator":=j4 (by decide)
 exact ⟨cR hTI hz zt.symm,cR hTO hz zt.symm,cR g1 hz (by rw[c1];exact iz),cR g2 hz (by rw[c2];exact iz),hT,cR hTI g1 (by rw[c1];exact it.symm),cR hTI g2 (by rw[c2];exact it.symm),cR hTO g1 (by rw[c1];exact it.symm),cR hTO g2 (by rw[c2];exact it.symm),hi,
  cR q1 hz (by rw[d1];exact lz),cR q1 hTO (by rw[d1];exact lt),cR q1 g1 (by rw[d1,c1];exact li),cR q1 g2 (by rw[d1,c2];exact li),cR q2 hz (by rw[d2];exact lz),cR q2 hTO (by rw[d2];exact lt),cR q2 g1 (by rw[d2,c1];exact li),cR q2 g2 (by rw[d2,c2];exact li)⟩
section
variable {X:Cx} {pins:List (Addr×Obj)} {σ:St}
theorem jo.heap (f:jo X pins H b) (e:H' b=none):jo X pins H' b:=⟨e,f.2⟩
structure Bc where
 z:Addr
 TI:Addr
 TO:Addr
 i1:Addr
 i2:Addr
 S:Addr
 base:Nat
def Bc.all (a:Bc):List Addr:=[a.z,a.TI,a.TO,a.i1,a.i2,a.S]
structure Bc.Ok (a:Bc):Prop where
 tt:a.TI≠a.TO
 ii:a.i1≠a.i2
 Sz:a.S≠a.z
 STI:a.S≠a.TI
 STO:a.S≠a.TO
 Si1:a.S≠a.i1
 Si2:a.S≠a.i2
 lt:∀b∈a.all,@LT.lt Nat instLTNat b a.base
structure JV (X:Cx) (pins:List (Addr×Obj)) (σ:St) (H1:Hp) (a:Bc) (l1 l2:Addr) (i:Nat) (H:Hp) (s:Shared):Prop where
 inv:Inv X pins σ H s
 same:aE H1 H
 fps:∀b∈a.all,jo X pins H b
 sz:a.base<=s.heap.objs.size
 zst:Zst s.heap a.z a.TI a.TO a.base
 pt:IsPair s.heap a.TI (.ref a.i1) (.ref a.i2)
 j1:s.heap.IsListIter a.i1 l1 i
 j2:s.heap.IsListIter a.i2 l2 i
variable {a:Bc} {l1 l2:Addr} {H1 H:Hp} {s:Shared} {i:Nat} {xs ys:List V}
theorem JV.push (L:JV X pins σ H1 a l1 l2 i H s) (O:a.Ok) (k:∀b o,b≠a.S->s.heap.get? b=some o->h'.get? b=some o) (hz:h'.objs.size=s.heap.objs.size):JV X pins σ H1 a l1 l2 i H { s with heap:=h' }:=by
 refine ⟨L.inv.moved (g':=s.gens) (d':=s.drawn) (t':=s.toks) (ch:=[a.S]) (λb hb=>?_) (λb o hb e=>k b o (λz=>hb (by simp [z])) e) L.inv.bare,L.same,L.fps,by show a.base<=h'.objs.size;rw[hz];exact L.sz,?_,k _ _ O.STI.symm L.pt,L.j1.at λo e=>k _ o O.Si1.symm e,L.j2.at λo e=>k _ o O.Si2.symm e⟩
 ·have e:b=a.S:=by simpa using hb
  rw[e];exact L.fps _ (by simp [Bc.all])
 ·obtain ⟨⟨c,d,z0⟩,z4⟩:=L.zst;refine ⟨⟨c,d,k _ _ O.STO.symm z0⟩,?_⟩;rcases z4 with z1 | ⟨T,b1,o,z1,z2,z3⟩
  ·exact .inl (k _ _ O.Sz.symm z1)
  ·refine .inr ⟨T,b1,o,k _ _ O.Sz.symm z1,k _ _ (λe=>?_) z2,z3⟩;have:=O.lt a.S (by simp [Bc.all]);rw[<- e] at this;exact absurd this (Nat.not_lt.mpr z3)
theorem FN (O:a.Ok) (q1:bD X.K H1 l1 xs) (q2:bD X.K H1 l2 ys) (ex:xs[i]?=some x) (ey:ys[i]?=some y) (L:JV X pins σ H1 a l1 l2 i H s)
  (hQ:∀s',JV X pins σ H1 a l1 l2 (i+1) (upd H s.heap.objs.size (.tup [x,y])) s'->(∀c o,c∉[a.z,a.TO,a.i1,a.i2]->s.heap.get? c=some o->s'.heap.get? c=some o)->H s.heap.objs.size=none->Q (some (.ref s.heap.objs.size)) s'):wpAny (model X.prog X.w) A' (pyNext (.ref a.z)) Q E s:=by
 obtain ⟨I,sm,fps,sz,zst,pt,j1,j2⟩:=id L;obtain ⟨us,ru,pu,_⟩:=I.list (sm.seq q1);obtain ⟨ws,rw',pw,_⟩:=I.list (sm.seq q2);obtain ⟨u,eu,r1⟩:=ru.get ex;obtain ⟨v,ev,r2⟩:=rw'.get ey;have fx:∀b∈[a.z,a.TO,a.i1,a.i2],jo X pins H b:=λb hb=>fps b (by simp only[Bc.all,aD,aO,or_false] at hb ⊢;rcases hb with e | e | e | e <;> simp [e])
 have hT0:H s.heap.objs.size=none:=I.hok.fresh (av _);have fT:jo X pins H s.heap.objs.size:=I.fpOk (av _) hT0;have lt:∀b∈a.all,b≠s.heap.objs.size:=λb hb e=>by have:=O.lt b hb;rw[e] at this;exact absurd this (Nat.not_lt.mpr sz)
 have fin:∀h',(∀c o,c∉[a.z,a.TO,a.i1,a.i2]->s.heap.get? c=some o->h'.get? c=some o)->IsPair h' s.heap.objs.size u v->IsPair h' a.TI (.ref a.i1) (.ref a.i2)->h'.IsListIter a.i1 l1 (i+1)->h'.IsListIter a.i2 l2 (i+1)->Zst h' a.z a.TI a.TO a.base →
   Q (some (.ref s.heap.objs.size)) { s with heap:=h' }:=λh' up pr pt' j1' j2' zst'=>by
  have I2:Inv X pins σ H { s with heap:=h' }:=I.moved (g':=s.gens) (d':=s.drawn) (t':=s.toks) fx up I.bare;have I3:Inv X pins σ (upd H s.heap.objs.size (.tup [x,y])) { s with heap:=h' }:=I2.track fT ⟨ig rfl,[u,v],.cons r1 (.cons r2 .nil),⟨_,pr,rfl,_,rfl⟩⟩;refine hQ _ ⟨I3,sm.trans (aE.new hT0),λb hb=>(fps b hb).heap (by rw[a9 (lt b hb)];exact (fps b hb).1),?_,zst',pt',j1',j2'⟩ up hT0;exact ar sz (aR (Heap.lt_size pr))
 obtain ⟨⟨c,d,z0⟩,z4⟩:=zst;rcases z4 with z1 | ⟨T,b1,o,z1,z2,z3⟩
 ·have D:=z7 z1 pt z0 j1 j2 pu.isList pw.isList O.tt O.ii;refine wpAny_pyNext_zip_item D z1 pt z0 j1 j2 pu.isList pw.isList (x:=u) (y:=v) (by simpa using eu) (by simpa using ev) λh' a1 a2 a3 a4 a5 a6 hk=>?_
  have up:∀c o,c∉[a.z,a.TO,a.i1,a.i2]->s.heap.get? c=some o->h'.get? c=some o:=λc o hc e=>by
   simp only[aD,aO,or_false,not_or] at hc;exact hk c o hc.1 hc.2.1 hc.2.2.1 hc.2.2.2 e
  exact fin h' up a5 (hk _ _ D.TIz D.TITO D.TIi1 D.TIi2 pt) a3 a4 ⟨⟨_,_,a2⟩,.inr ⟨s.heap.objs.size,false,_,a1,a5,sz⟩⟩
 ·have D:=z7 z1 pt z0 j1 j2 pu.isList pw.isList O.tt O.ii;refine Fh D z1 z2 pt j1 j2 pu.isList pw.isList (u:=u) (v:=v) (by simpa using eu) (by simpa using ev) λh' a1 a3 a4 a5 hk=>?_
  have up:∀c o,c∉[a.z,a.TO,a.i1,a.i2]->s.heap.get? c=some o->h'.get? c=some o:=λc o hc e=>by
   simp only[aD,aO,or_false,not_or] at hc;exact hk c o hc.1 hc.2.2.1 hc.2.2.2 e
  have Tn:∀b∈a.all,T≠b:=λb hb e=>by have:=O.lt b hb;rw[<- e] at this;exact absurd this (Nat.not_lt.mpr z3)
  exact fin h' up a5 (hk _ _ D.TIz D.TIi1 D.TIi2 pt) a3 a4 ⟨⟨_,_,hk _ _ D.TOz D.TOi1 D.TOi2 z0⟩,.inr ⟨T,true,o,a1,hk _ _ (Tn _ (by simp [Bc.all])) (Tn _ (by simp [Bc.all])) (Tn _ (by simp [Bc.all])) z2,z3⟩⟩
theorem FL (hh:A'.handled=none) (O:a.Ok) (q1:bD X.K H1 l1 xs) (q2:bD X.K H1 l2 ys) (hi:xs.length<=i) (L:JV X pins σ H1 a l1 l2 i H s)
  (hQ:∀s',Inv X pins σ H s'->(∀c o,c∉[a.z,a.TO,a.i1,a.i2]->s.heap.get? c=some o->s'.heap.get? c=some o)->Q none s'):wpAny (model X.prog X.w) A' (pyNext (.ref a.z)) Q E s:=by
 obtain ⟨I,sm,fps,sz,zst,pt,j1,j2⟩:=id L;obtain ⟨us,ru,pu,_⟩:=I.list (sm.seq q1);obtain ⟨ws,rw',pw,_⟩:=I.list (sm.seq q2);have lx:=ru.length;have none1:us.toArray[i]?=none:=by simp;lia
 have fx:∀b∈[a.z,a.TO,a.i1,a.i2],jo X pins H b:=λb hb=>fps b (by simp only[Bc.all,aD,aO,or_false] at hb ⊢;rcases hb with e | e | e | e <;> simp [e])
 have fin:∀h',(∀c o,c∉[a.z,a.TO,a.i1,a.i2]->s.heap.get? c=some o->h'.get? c=some o)->Q none { s with heap:=h' }:=λh' up=>hQ _ (I.moved (g':=s.gens) (d':=s.drawn) (t':=s.toks) fx up I.bare) up
 obtain ⟨⟨c,d,z0⟩,z4⟩:=zst;rcases z4 with z1 | ⟨T,b1,o,z1,z2,z3⟩
 ·have D:=z7 z1 pt z0 j1 j2 pu.isList pw.isList O.tt O.ii;refine wpAny_pyNext_zip_end hh D z1 pt z0 j1 j2 pu.isList pw.isList (.inl none1) λh' hk=>fin h' λc o hc e=>?_
  simp only[aD,aO,or_false,not_or] at hc;exact hk c o hc.1 hc.2.1 hc.2.2.1 hc.2.2.2 e
 ·have D:=z7 z1 pt z0 j1 j2 pu.isList pw.isList O.tt O.ii;refine Fg hh D z1 z2 pt j1 pu.isList none1 λh' hk=>fin h' λc o hc e=>?_
  simp only[aD,aO,or_false,not_or] at hc;exact hk c o hc.1 hc.2.2.1 hc.2.2.2 e
theorem FP (hh:A'.handled=none) (O:a.Ok) (hz:xs.length<=sizeLine) (hl:ys.length=xs.length) (q1:bD X.K H1 l1 xs) (q2:bD X.K H1 l2 ys)
  (fin:∀s' H' ts acc c,Inv X pins σ H' s'->aE H1 H'->jo X pins H' a.S->s'.heap.get? a.S=some (lobj acc c)->cp ts acc->Paired (Kw H') (xs.zip ys) ts->R (.ok (.ret .none)) s') :
  ∀(k i:Nat) (s:Shared) (H:Hp) (ts:List V) (acc:List Value) (c:Nat),xs.length - i=k->i<=xs.length->JV X pins σ H1 a l1 l2 i H s->s.heap.get? a.S=some (lobj acc c)->cp ts acc->Paired (Kw H) ((xs.zip ys).take i) ts →
   codeAny (model X.prog X.w) A' (.builtin "list.extend.loop" ⟨[.ref a.S,.ref a.z,.none],[]⟩) R s:=by
 have Sn:a.S∉[a.z,a.TO,a.i1,a.i2]:=λh=>by
  simp only[aD,aO,or_false] at h;rcases h with e | e | e | e
  ·exact O.Sz e
  ·exact O.STO e
  ·exact O.Si1 e
  ·exact O.Si2 e
 intro k
 induction k with
 | zero =>
  intro i s H ts acc c hk hi L gS rv prs;have e:i=xs.length:=by lia
  refine codeAny_builtin L9 ?_;rw[Around.under_plainId jJ _]
  change wpAny _ A'.in1 (pyNext (Value.ref a.z) >>= _) _ _ s
  refine wpAny_bind (FL hh O q1 q2 (by lia) L λs' I' up=>wpAny_pure (fin s' H ts acc c I' L.same (L.fps _ (by simp [Bc.all])) (up _ _ Sn gS) rv ?_));rwa [aJ (by rw[yz];lia)] at prs
 | succ k ih =>
  intro i s H ts acc c hk hi L gS rv prs;have hlt:i < xs.length:=by lia
  have lt:=prs.length;have la:=rv.length;refine codeAny_builtin L9 ?_;rw[Around.under_plainId jJ _]
  change wpAny _ A'.in1 (pyNext (Value.ref a.z) >>= _) _ _ s
  refine wpAny_bind (FN O q1 q2 (x:=xs[i]) (y:=ys[i]'(by lia)) (by simp [hlt]) (by simp) L λs' L' up hT=>?_);have gS':=up _ _ Sn gS
  change wpAny _ A'.in1 (updateSeq a.S (·.push (Value.ref s.heap.objs.size)) >>= _) _ _ s'
  have small:acc.length<=sizeLine:=by
   rw[bY,yz] at lt
   lia
  refine wpAny_bind (wpAny_updateSeq gS' rfl (wpAny_pure ⟨plainId_quiet jJ _,?_⟩) (by rw[aL];exact small) (by
   show (acc.toArray.push (Value.ref s.heap.objs.size)).size<=sizeLine+1
   rw[Array.size_push,aL]
   lia))
  have gS2:=jz gS' (λb=>b.push (Value.ref s.heap.objs.size));have e2:(acc.toArray.push (Value.ref s.heap.objs.size))=(acc++[Value.ref s.heap.objs.size]).toArray:=by simp
  rw[e2] at gS2;refine ih (i+1) _ (upd H s.heap.objs.size (.tup [xs[i],ys[i]'(by lia)])) (ts++[.ref s.heap.objs.size]) (acc++[.ref s.heap.objs.size]) _ (by lia) hlt (L'.push O (λb o hb e=>(Heap.get?_update_other _ _ (Ne.symm hb)).trans e) (Heap.size_update ..)) gS2 (rv.append (show cp [V.ref s.heap.objs.size] [Value.ref s.heap.objs.size] from .cons rfl .nil)) ?_;have zp:(xs.zip ys)[i]?=some (xs[i],ys[i]'(by lia)):=by simp [Ma,hlt]
  rw[take_snoc zp];exact (Paired.imp' (λ_ _ z=>z.same (aE.new hT)) prs).snoc ⟨_,rfl,aG⟩
theorem CZ:typeLookup (.type "zip") "__len__"=pure Option.none:=by rw[typeLookup_type,builtinLookup_eq_fast];kernel_rfl
theorem Bv:typeLookup (.type "zip") "__length_hint__"=pure Option.none:=by rw[typeLookup_type,builtinLookup_eq_fast];kernel_rfl
theorem FO (hh:A'.handled=none) (O:a.Ok) (hz:xs.length<=sizeLine) (hl:ys.length=xs.length) (q1:bD X.K H1 l1 xs) (q2:bD X.K H1 l2 ys) (L:JV X pins σ H1 a l1 l2 0 H s) (gS:s.heap.get? a.S=some (lobj [] 0)) (z0:IsZip s.heap a.z a.TI a.TO .none)
  (fin:∀s' H' ts acc c,Inv X pins σ H' s'->aE H1 H'->jo X pins H' a.S->s'.heap.get? a.S=some (lobj acc c)->cp ts acc->Paired (Kw H') (xs.zip ys) ts->R (.ok (.ret .none)) s') :
  wpAny (model X.prog X.w) A'.in1 (Builtin.«list.__init__» ⟨[.ref a.S,.ref a.z],[]⟩) (λfl s'=>match fl with | .done f=>R (.ok f) s' | .again c'=>c'.quiet=true/\codeAny (model X.prog X.w) A' c' R s') (λe s'=>R (.error e) s') s:=by
 change wpAny _ A'.in1 (do let old <- Builtin.List.listItems (Value.ref a.S);Builtin.List.listUpdate (Value.ref a.S) (λ_=>#[]);letGo old.toList.reverse;Builtin.List.listExtendWith (Value.ref a.S) (Value.ref a.z) Value.none) _ _ s
 refine wpAny_bind ?_;unfold Builtin.List.listItems;refine wpAny_bind (wpAny_seqItems gS rfl (wpAny_pure ?_))
 change wpAny _ A'.in1 (updateSeq a.S (λ_=>#[]) >>= λ_=>letGo (#[]:Array Value).toList.reverse >>= λ_=>Builtin.List.listExtendWith (Value.ref a.S) (Value.ref a.z) Value.none) _ _ s
 refine wpAny_bind (wpAny_updateSeq gS rfl ?_);have g1:=jz gS (λ_=>(#[]:Array Value));obtain ⟨n1,g1⟩:∃n1,(s.heap.update a.S (Obj.mapSeq λ_=>(#[]:Array Value))).get? a.S=some (lobj [] n1):=⟨_,g1⟩;have L1:=L.push (h':=s.heap.update a.S (Obj.mapSeq λ_=>(#[]:Array Value))) O (λb o hb e=>(Heap.get?_update_other _ _ (Ne.symm hb)).trans e) (Heap.size_update ..);have z1:IsZip (s.heap.update a.S (Obj.mapSeq λ_=>(#[]:Array Value))) a.z a.TI a.TO .none:=(Heap.get?_update_other _ _ O.Sz).trans z0;refine wpAny_bind (wpAny_letGo ?_);unfold Builtin.List.listExtendWith;have ty:Shared.TypeIs { s with heap:=s.heap.update a.S (Obj.mapSeq λ_=>(#[]:Array Value)) } (.ref a.z) "zip":=⟨_,z1,rfl⟩;refine wpAny_bind (wpAny_typeOf ty ?_);have h1:Builtin.List.listSameRef (.ref a.S) (.ref a.z)=false:=by simp [Builtin.List.listSameRef,O.Sz]
 have h2:(Value.type "zip" == Value.type "list")=false:=by decide
 have h3:(Value.type "zip" == Value.type "tuple")=false:=by decide
 simp only[h1,h2,h3,Bool.or_false,gQ,if_false];refine wpAny_bind (wpAny_pyIter_zip z1 (wpAny_bind (wpAny_holding ?_)));unfold Builtin.List.listLengthHint;refine wpAny_bind (wpAny_specialOf ty CZ ?_)
 change wpAny _ A'.in1 (specialOf (Value.ref a.z) (Str.ofString "__length_hint__") >>= _) _ _ _
 refine wpAny_bind (wpAny_specialOf ty Bv (wpAny_pure ?_))
 change wpAny _ A'.in1 (rule "list.extend.makes-room" >>= λ_=>Builtin.List.listTouch (Value.ref a.S) >>= λ_=>again (.builtin "list.extend.loop" ⟨[Value.ref a.S,Value.ref a.z,Value.none],[]⟩)) _ _ _
 refine wpAny_bind (wpAny_rule (wpAny_bind ?_))
 change wpAny _ A'.in1 (updateSeq a.S (·.push Value.none) >>= λ_=>updateSeq a.S (·.pop)) _ _ _
 refine wpAny_bind (wpAny_updateSeq g1 rfl ?_);have g2:=jz g1 (λb=>b.push Value.none);obtain ⟨n2,g2⟩:∃n2,((s.heap.update a.S (Obj.mapSeq λ_=>(#[]:Array Value))).update a.S (Obj.mapSeq λb=>b.push Value.none)).get? a.S=some (lobj [Value.none] n2):=⟨_,g2⟩;have L2:=L1.push (h':=(s.heap.update a.S (Obj.mapSeq λ_=>(#[]:Array Value))).update a.S (Obj.mapSeq λb=>b.push Value.none)) O (λb o hb e=>(Heap.get?_update_other _ _ (Ne.symm hb)).trans e) (Heap.size_update ..);refine wpAny_updateSeq g2 rfl ?_ (ig rfl);have g3:=jz g2 (λb=>b.pop);have L3:=L2.push (h':=((s.heap.update a.S (Obj.mapSeq λ_=>(#[]:Array Value))).update a.S (Obj.mapSeq λb=>b.push Value.none)).update a.S (Obj.mapSeq λb=>b.pop)) O (λb o hb e=>(Heap.get?_update_other _ _ (Ne.symm hb)).trans e) (Heap.size_update ..);exact wpAny_pure ⟨plainId_quiet jJ _,FP hh O hz hl q1 q2 fin _ 0 _ H [] [] _ rfl (bH _) L3 g3 .nil .nil⟩
end
section
variable {X:Cx}
theorem KD (n:Nat):Bc.Ok ⟨n+4,n+2,n+3,n,n+1,n+5,n+5+1⟩:=by
 have ne:∀p q:Nat,p≠q->@Ne Addr p q:=λ_ _ h=>h
 refine ⟨ne (n+2) (n+3) (by lia),ne n (n+1) (by lia),ne (n+5) (n+4) (by lia),ne (n+5) (n+2) (by lia),ne (n+5) (n+3) (by lia),ne (n+5) n (by lia),ne (n+5) (n+1) (by lia),λb hb=>?_⟩;have hb':b∈[n+4,n+2,n+3,n,n+1,n+5]:=hb;show @LT.lt Nat instLTNat b (n+5+1)
 simp only[aD,aO,or_false] at hb';rcases hb' with e | e | e | e | e | e <;> (rw[e];exact ba (gC _) (by lia))
def BA (K:FG9) (ta:TA):TE:=λσ H Q=>ta σ H λvs H1=>∃(l1 l2:Addr) (xs ys:List V),vs=[.ref l1,.ref l2]/\bD K H1 l1 xs/\bD K H1 l2 ys/\ys.length=xs.length /\
 ∀L ts H',aE H1 H'->H1 L=none->H' L=some (.lst ts)->Paired (Kw H') (xs.zip ys) ts->Q (.ref L) H'
theorem Dk {e1 e2:Expr} {ta:TA} {p p2 pos pos2:Pos} (hg:Gl X "list") (hm:X.mg "list"=none) (hg2:Gl X "zip") (hm2:X.mg "zip"=none) (ha:PA X [e1,e2] ta) (hc:X.calm=true:=by rfl)
  (hs:starEach [e1,e2] X.env=[(false,eval e1 X.env),(false,eval e2 X.env)]:=by rfl) (hs2:starEach [e2] X.env=[(false,eval e2 X.env)]:=by rfl)
  (hs3:starEach [Expr.Call (.Name "zip" p2) [e1,e2] [] pos2] X.env=[(false,eval (.Call (.Name "zip" p2) [e1,e2] [] pos2) X.env)]:=by rfl) :
  PE X (.Call (.Name "list" p) [.Call (.Name "zip" p2) [e1,e2] [] pos2] [] pos) (BA X.K ta):=by
 intro pins s σ H Q I h;refine wpAny_Call_Name_kw (gW I hg hm boot_list ?_);refine PyProof.Rows.callWith_type1 ?_ (by rw[hs3];rfl) rfl;rw[hs3];show wpAny _ _ (spliced ((false,eval (.Call (.Name "zip" p2) [e1,e2] [] pos2) X.env) :: [])) _ _ s
 refine Calls.spliced_cons ?_;refine Call_ (gW I hg2 hm2 boot_zip (PyProof.Rows.callWith_type1 (eY (ha pos2 pins s σ H _ I h) λus s1 ⟨vs,H1,I1,r1,q1⟩=>?_) (by rw[hs,hs2]) (by rw[hs2];rfl)));obtain ⟨l1,l2,xs,ys,e,qx,qy,hl,q⟩:=q1;subst e;obtain ⟨u,v,rfl,ru,rv⟩:=vals2 r1;cases ru;cases rv;obtain ⟨us,rx,px,hz⟩:=I1.list qx;obtain ⟨ws,ry,py,_⟩:=I1.list qy;refine call_zip_2 px.isList py.isList λh' a1 a2 a3 a4 a5 a6 hk=>?_
 refine Calls.spliced_nil ?_;have I2:Inv X pins σ H1 { s1 with heap:=h' }:=I1.kept (t':=s1.toks) hk;have up:∀b o,h'.get? b=some o->(h'.push { cls:=.type "list",data:=.seq #[] }).get? b=some o:=λb o e=>Heap.get?_push_of_some _ e
 have O:Bc.Ok ⟨s1.heap.objs.size+4,s1.heap.objs.size+2,s1.heap.objs.size+3,s1.heap.objs.size,s1.heap.objs.size+1,h'.objs.size,h'.objs.size+1⟩:=by
  rw[a6];exact KD s1.heap.objs.size
 have old:∀b∈(Bc.mk (s1.heap.objs.size+4) (s1.heap.objs.size+2) (s1.heap.objs.size+3) s1.heap.objs.size (s1.heap.objs.size+1) h'.objs.size (h'.objs.size+1)).all,s1.heap.objs.size<=b:=λb hb=>by
  rw[a6] at hb;simp only[Bc.all,aD,aO,or_false] at hb;rcases hb with rfl | rfl | rfl | rfl | rfl | rfl <;> first | exact vN _ _ | exact av _
 have gS:(h'.push { cls:=.type "list",data:=.seq #[] }).get? h'.objs.size=some (lobj [] 0):=Heap.get?_push_size _ rfl;refine callType_codes (Q₁:=λob t=>ob=.ref h'.objs.size/\t={ s1 with heap:=h'.push { cls:=.type "list",data:=.seq #[] } }) PySem.F.called_list (PySem.F.typeCall_list_1 _) PySem.F.entry_list_init (code_list_new _ ⟨rfl,rfl⟩) λob t ht=>?_
 obtain ⟨rfl,rfl⟩:=ht;refine ⟨⟨_,gS,rfl⟩,PySem.F.args_list_init_2 _ _,?_⟩
 have L:JV X pins σ H1 ⟨s1.heap.objs.size+4,s1.heap.objs.size+2,s1.heap.objs.size+3,s1.heap.objs.size,s1.heap.objs.size+1,h'.objs.size,h'.objs.size+1⟩ l1 l2 0 H1 { s1 with heap:=h'.push { cls:=.type "list",data:=.seq #[] } } :=
  ⟨I2.kept (t':=s1.toks) up,aE.refl _,λb hb=>I1.fpOk (old b hb) (I1.hok.fresh (old b hb)),by rw[Heap.size_push];exact av _,⟨⟨_,_,up _ _ a3⟩,.inl (up _ _ a1)⟩,up _ _ a2,a4.at λo e=>up _ o e,a5.at λo e=>up _ o e⟩
 refine FO (A':=X.A.in1) (I.ok.hd hc) O hz hl qx qy L gS (up _ _ a1) λs' H' ts acc c I' sm fS gS' vs' prs=>⟨rfl,?_⟩
 have nS:H1 h'.objs.size=none:=I1.hok.fresh (old _ (by simp [Bc.all]));have lt:=prs.length;rw[yz] at lt;exact ⟨.ref h'.objs.size,_,I'.track (o:=.lst ts) fS ⟨by lia,acc,c,vs',gS'⟩,rfl,q _ ts _ (sm.trans (aE.new fS.1)) nS aG (Paired.imp' (λ_ _ z=>z.same (aE.new fS.1)) prs)⟩
end
end L2
namespace Nm
def uB:List Int->Int->Int
 | [],m=>m
 | b :: r,m=>uB r (m*(b / g m b))
theorem sR (hm:0 < m) (hb:0 < b):0 < m*(b / g m b):=iX hm (AW (t:=m) hb)
theorem AQ:b∣m*(b / g m b):=by
 have h1:=xP m b;refine ⟨lo m b,?_⟩;have h2:b / g m b*g m b=b:=uF m b
 calc m*(b / g m b)=lo m b*g m b*(b / g m b):=by rw[h1]
  _=lo m b*(b / g m b*g m b):=by rw[c8,eO (g m b)]
  _=b*lo m b:=by rw[h2,eO]
theorem xR:∀{bs:List Int} {m:Int},0 < m->(∀b∈bs,0 < b)->0 < uB bs m
 | [],_,hm,_=>hm
 | b :: r,m,hm,h=>xR (bs:=r) (sR hm (h b cT)) λc hc=>h c (bM _ hc)
theorem Cu:∀{bs:List Int} {m:Int},m∣uB bs m
 | [],_=>EM _
 | b :: r,m=>Int.dvd_trans (Int.dvd_mul_right m _) (Cu (bs:=r))
theorem Ct:∀{bs:List Int} {m b:Int},b∈bs->b∣uB bs m
 | c :: r,m,b,h=>by
  rcases aD.mp h with rfl | h
  ·exact Int.dvd_trans AQ (Cu (bs:=r))
  ·exact Ct (bs:=r) h
end Nm
namespace L2
open PySem PySem.Spec PyProof.Rows Nm
def Be (K:FG9) (H:Hp) (p:Addr) (ns:List (Int×Int)):Prop:=∃xs,H p=some (.lst xs)/\Paired (λn x=>CO K H x n) ns xs
theorem Be.same {K:FG9} (h:Be K H p ns) (e:aE H H'):Be K H' p ns:=by obtain ⟨xs,g,q⟩:=h;exact ⟨xs,e _ _ g,Paired.imp' (λ_ _ z=>e.num z) q⟩
def Cd (K:FG9) (T:String):V->Hp->VK->Prop:=λx H Q=>E6 K T x H Q\/∃a xs b,x=.ref a/\kz K H a xs/\PySem.W.kitOne K (.type "tuple") (.type T)=some b/\Q (.bl b) H
theorem zl:∀{bs:List Int} {m b:Int},uB (bs++[b]) m=uB bs m*(b / g (uB bs m) b)
 | [],_,_=>rfl
 | c :: r,m,b=>zl (bs:=r)
def eK (ns:List (Int×Int)) (B:Int):List Int:=ns.map λn=>n.1*(B / n.2)
def fH (ns:List (Int×Int)):Int:=uB (ns.map (·.2)) 1
def HY (ns ms:List (Int×Int)):Int:=(List.zipWith (λx y=>x*y) (eK ns (fH ns)) (eK ms (fH ms))).sum
theorem pM (h:n∈ns):n.2∣fH ns:=Ct (aA.mpr ⟨n,h,rfl⟩)
theorem Di {K:FG9} (h:ta σ H λvs H1=>∃(l1 l2:Addr) (xs ys:List V),vs=[.ref l1,.ref l2]/\bD K H1 l1 xs/\bD K H1 l2 ys/\ys.length=xs.length /\
 ∀L ts H',aE H1 H'->H1 L=none->H' L=some (.lst ts)->Paired (Kw H') (xs.zip ys) ts->Q (.ref L) H'):BA K ta σ H Q:=h
theorem NQ (hb:0 < b) (h:Sz k b):Sz k (g m b):=h.le (by
 have h1:(g m b).natAbs=Int.gcd m b:=by unfold g;simp
 rw[h1];exact fM (by lia) (by have:=eG (a:=m) (b:=b);exact dN.mpr this |> λz=>by simpa using z))
theorem ID {ts us:List Int} {i:Nat} (h:((ts.map V.int).zip (us.map V.int))[i]?=some pq):∃t u,ts[i]?=some t/\us[i]?=some u/\pq=(.int t,.int u):=by
 rw[Ma,aB,aB] at h;obtain ⟨h1,h2⟩:=h;cases e1:ts[i]? with
 | none=>rw[e1] at h1;cases h1
 | some t =>
  cases e2:us[i]? with
  | none=>rw[e2] at h2;cases h2
  | some u =>
   rw[e1] at h1;rw[e2] at h2;refine ⟨t,u,rfl,rfl,?_⟩;cases pq;simp at h1 h2;rw[h1,h2]
def EZ (K:FG9):Sp:=λvs H Q _=>∃x n,vs=[x]/\CO K H x n/\tQ n/\∀H',aE H H'->Q (.bl true) H'
inductive tX (K:FG9) (vs:List V) (H:Hp) (Q:VK) (E9:XK):Prop
 | mk (p:Addr) (ns:List (Int×Int)):vs=[.ref p,.int ns.length]->Be K H p ns->ns.length<=1000->(∀n∈ns,tQ n)->(∀H',aE H H'->Q (.bl true) H')->tX K vs H Q E9
theorem v8 {X:Cx} {a:Expr} {ta:TE} {pos:Pos} {c:Str} {T:String} {p p2:Pos} (hg:Gl X "isinstance") (hm:X.mg "isinstance"=none) (hb:bootBuiltins c=some (.type T)) (hmc:X.mg c=none) (ha:PE X a ta) (hgc:Gl X c:=by rfl) (hn:c≠"__name__":=by decide)
  (hd:(c == ("__debug__":Str))=false:=by decide) (he:starEach [a,.Name c p2] X.env=[(false,eval a X.env),(false,eval (.Name c p2) X.env)]:=by rfl)
  (hpl:(backTo pos (starEach [.Name c p2] X.env)).any (·.1)=false:=by rfl) (he2:starEach [.Name c p2] X.env=[(false,eval (.Name c p2) X.env)]:=by rfl):PE X (.Call (.Name "isinstance" p) [a,.Name c p2] [] pos) (Mc (Cd X.K T) ta):=by
 intro pins s σ H Q I h;refine wpAny_Call_Name_kw (gW I hg hm PyProof.Rows.boot_isinstance ?_);have hA:PA X [a,.Name c p2] (ie ta (ie (tC (.ty T)) wN)):=ae ha (ae (Ed hgc hmc hb rfl hn hd) ai he2) (by rw[he,he2])
 have hq:ie ta (ie (tC (.ty T)) wN) σ H (λvs H1=>∃x,vs=[x,.ty T]/\Cd X.K T x H1 Q):=by
  show ta σ H λx H1=>∃x',[x,V.ty T]=[x',V.ty T]/\Cd X.K T x' H1 Q
  have e:(λx H1=>∃x',[x,V.ty T]=[x',V.ty T]/\Cd X.K T x' H1 Q)=λx H1=>Cd X.K T x H1 Q:=by
   funext x H1;apply propext;constructor
   ·rintro ⟨x',e,q⟩;cases e;exact q
   ·intro q;exact ⟨x,rfl,q⟩
  rw[e];exact h
 refine PyProof.Rows.callWith_builtin1 (eY (hA pos pins s σ H _ I hq) λus s1 ⟨vs,H1,I1,r1,x,e,q1⟩=>?_) (by rw[he,he2]) hpl;subst e;obtain ⟨u,w',rfl,ru,rt⟩:=vals2 r1;cases rt;rcases q1 with ⟨t,bb,ty,ek,q⟩ | ⟨ad,xs,bb,rfl,hs,ek,q⟩
 ·exact uD I1 ru ty ek λtk=>⟨.bl bb,H1,I1.tok tk,rfl,q⟩
 ·cases ru;obtain ⟨its,_,⟨o,g1,g2,_⟩,_⟩:=I1.tuple hs;exact cK PySem.W.kitx_tuple I1.kIn ⟨o,g1,g2⟩ ek (λz=>nomatch z) λtk=>⟨.bl bb,H1,I1.tok tk,rfl,q⟩
theorem Gq (h:H l=some (.lst [x])) (hk:k<=1000) (q:∀p H',aE H H'->H p=none->H' p=some (.lst (List.replicate k x))->Q (.ref p) H'):MT (.ref l) (.int k) H Q :=
 ⟨l,k,[x],rfl,rfl,h,by lia,by lia,aR (bB (by simp;lia)),λp hp=>q p _ (aE.new hp) hp (by rw[aG];simp)⟩
theorem LS {k:Nat} (h:k<=xs.length):qe xs none (some (k:Int))=xs.take k:=by
 unfold qe;rw[HT.xr,HT.Au,Nat.min_eq_left h];simp
theorem Ik {k:Nat}:qe xs (some (k:Int)) none=xs.drop k:=by
 unfold qe;rw[HT.xr,HT.Au];by_cases h:k<=xs.length
 ·rw[Nat.min_eq_left h,aJ (by simp)]
 ·rw[Nat.min_eq_right (by lia),List.drop_of_length_le (by lia),List.drop_of_length_le (by lia)];simp
theorem rH {α β:Type} {F:α->β->Prop} {x:α} {y:β} (h:F x y):∀m:Nat,Paired F (List.replicate m x) (List.replicate m y)
 | 0=>.nil
 | m+1=>.cons h (rH h m)
theorem dY (h:a < n):Iv n (a:Int)=some a:=by
 unfold Iv;rw[if_pos (by lia),if_pos (by lia),Int.toNat_natCast]
theorem Ii {k:Nat}:qe xs none (some (k:Int))=xs.take k:=by
 by_cases h:k<=xs.length
 ·exact LS h
 ·unfold qe;rw[HT.xr,HT.Au,Nat.min_eq_right (by lia),aJ (by simp),aJ (by lia)];rfl
theorem uO {α β:Type} {F:α->β->Prop}:∀{l1:List α} {l2:List β} (_:Paired F l1 l2) (k:Nat),Paired F (l1.take k) (l2.take k)
 | _,_,.nil,k=>by simp;exact .nil
 | _,_,.cons h r,0=>.nil
 | _,_,.cons h r,k+1=>.cons h (uO r k)
def Jp (K:FG9):List V->Hp->VK->Prop:=λxs H Q=>∃p ys,xs=[.ref p]/\(bD K H p ys\/kz K H p ys)/\∀l,H l=none->Q (.ref l) (upd H l (.lst ys))
theorem lV (K:FG9) (hK:X.K=K):mH X (.type "list") (Jp K):=by subst hK;exact oi
theorem aE.none (s:aE H H') (h:H' l=Option.none):H l=Option.none:=by
 cases e:H l with
 | none=>rfl
 | some o=>have:=s _ _ e;rw[h] at this;cases this
def Ky (K:FG9) (H:Hp) (p:Addr) (rows:List (List (Int×Int))):Prop:=∃xs,H p=some (.lst xs)/\Paired (λns x=>∃q,x=V.ref q/\Be K H q ns) rows xs
theorem F0 (h:b.natAbs<=1000000):Sz 20 b:=bc h (by decide)
theorem cC.none (u:cC b H H') (B:fD H' b) (h:H' l=Option.none):H l=Option.none:=by
 cases e:H l with
 | none=>rfl
 | some o =>
  by_cases z:l=b
  ·obtain ⟨_,_,_,_,_,e2,_⟩:=B;rw[<- z,h] at e2;cases e2
  ·have:=u.1 l o e z;rw[h] at this;cases this
inductive w5 (K:FG9) (vs:List V) (H:Hp) (Q:VK) (E9:XK):Prop
 | mk (p:Addr) (rows:List (List (Int×Int))) (m:Nat):vs=[.ref p,.int rows.length,.int m]->Ky K H p rows->rows.length<=1000->m<=1000->((∀ns∈rows,ns.length=m/\∀n∈ns,tQ n))->(∀H',aE H H'->Q (.bl true) H')->w5 K vs H Q E9
end L2
namespace Nm
def nm (q:Rat):Int×Int:=(q.num,(q.den:Int))
theorem fO (q:Rat):0 < (nm q).2:=by have:=q.den_pos;show 0 < (q.den:Int);lia
theorem AM (q:Rat):Int.gcd (nm q).1 (nm q).2=1:=q.reduced
theorem Lv (h:nm p=nm q):p=q:=by
 have h1:p.num=q.num:=congrArg Prod.fst h;have h2:(p.den:Int)=q.den:=congrArg Prod.snd h;exact Rat.ext h1 (by lia)
theorem jV (q:Rat):(q.num:Rat)=q*(q.den:Rat):=by
 have h:=Rat.num_divInt_den q;rw[Rat.divInt_eq_div] at h
 have hd:((q.den:Int):Rat)≠0:=by
  intro z;have z:=vL.mp z;have:=q.den_pos
  lia
 have e:((q.den:Int):Rat)=(q.den:Rat):=bx _
 calc (q.num:Rat)=(q.num:Rat) / ((q.den:Int):Rat)*((q.den:Int):Rat):=(Rat.div_mul_cancel hd).symm
  _=q*(q.den:Rat):=by rw[h,e]
theorem MX (hb:0 < b) (hg:Int.gcd a b=1) (e:q*(b:Rat)=(a:Rat)):(a,b)=nm q:=by
 have h1:a*(q.den:Int)=q.num*b:=by
  apply de.mp;rw[aU,aU,<- e,jV,bx];grind
 obtain ⟨e1,e2⟩:=uniq hb (fO q) hg (AM q) h1;exact Prod.ext e1 e2
theorem nV {t b:Int} (hb:0 < b) (e:q*(b:Rat)=(t:Rat)):(lo t b,hi t b)=nm q:=by
 refine MX (AW hb) (xN (by lia)) ?_;have h:=xO t b;have hb':(b:Rat)≠0:=λz=>by have:=vL.mp z;lia
 have h2:((lo t b:Int):Rat)*(b:Rat)=(t:Rat)*((hi t b:Int):Rat):=by rw[<- aU,h,aU]
 rw[<- e] at h2;have h3:(q*((hi t b:Int):Rat) - ((lo t b:Int):Rat))*(b:Rat)=0:=by grind
 rcases Rat.mul_eq_zero.mp h3 with h4 | h4
 ·grind
 ·exact absurd h4 hb'
def Fr (M V:Nat) (q:Rat):Prop:=∃z:Int,q*(M:Rat)=(z:Rat)/\z.natAbs<=V*M
theorem Fr.mono (h:Fr M V q) (l:V<=V'):Fr M V' q:=by obtain ⟨z,e,b⟩:=h;exact ⟨z,e,ar b (aN _ l)⟩
theorem Fr.scale (h:Fr M V q) (k:Nat):Fr (M*k) V q:=by
 obtain ⟨z,e,b⟩:=h;refine ⟨z*k,?_,?_⟩
 ·rw[yx,aU,<- e,bx,Rat.mul_assoc]
 ·rw[d5,cI,<- cE];exact aN _ b
theorem Fr.scaleL (h:Fr M V q) (k:Nat):Fr (k*M) V q:=by rw[cB];exact h.scale k
theorem Fr.dvd (h:Fr M V q) (d:M∣N):Fr N V q:=by obtain ⟨k,rfl⟩:=d;exact h.scale k
theorem Fr.add (h:Fr M V p) (h':Fr M W q):Fr M (V+W) (p+q):=by
 obtain ⟨z,e,b⟩:=h;obtain ⟨z',e',b'⟩:=h';refine ⟨z+z',by rw[Iy,<- e,<- e',Rat.add_mul],?_⟩;rw[Iq];have:=Int.natAbs_add_le z z'
 lia
theorem Fr.neg (h:Fr M V q):Fr M V (-q):=by
 obtain ⟨z,e,b⟩:=h;exact ⟨-z,by rw[eH,<- e,Rat.neg_mul],by rw[z6];exact b⟩
theorem Fr.mul (h:Fr M V p) (h':Fr N W q):Fr (M*N) (V*W) (p*q):=by
 obtain ⟨z,e,b⟩:=h;obtain ⟨z',e',b'⟩:=h';refine ⟨z*z',?_,?_⟩
 ·rw[yx,aU,<- e,<- e'];grind
 ·rw[d5]
  calc z.natAbs*z'.natAbs<=(V*M)*(W*N):=bf b b'
   _=V*W*(M*N):=by rw[cE,Nat.mul_left_comm M,<- cE]
theorem Fr.zero:Fr M V 0:=⟨0,by simp,by simp⟩
theorem Fr.int {i:Int} (h:i.natAbs<=V):Fr M V (i:Rat):=⟨i*M,by rw[aU,bx],by rw[d5,cI];exact aN _ h⟩
theorem Fr.den (h:Fr M V q):(q.den:Int)∣(M:Int):=by
 obtain ⟨z,e,b⟩:=h
 have h1:q.num*(M:Int)=z*(q.den:Int):=by
  apply de.mp;rw[aU,aU,<- e,jV,bx,bx];grind
 have h2:(q.den:Int)∣q.num*(M:Int):=⟨z,by rw[h1,eO]⟩;exact nY (by rw[jB];exact AM q) h2
theorem Fr.den_le (h:Fr M V q) (hM:0 < M):q.den<=M:=fM hM (kv.mp h.den)
theorem Fr.num_le (h:Fr M V q) (hM:0 < M):q.num.natAbs<=V*M:=by
 have hd:=h.den;obtain ⟨z,e,b⟩:=h;obtain ⟨k,hk⟩:=kv.mp hd;have hk0:k≠0:=λz=>by rw[z,Nat.mul_zero] at hk;lia
 have h1:z=q.num*(k:Int):=by
  apply de.mp;rw[aU,<- e,jV,bx,hk,yx];grind
 rw[h1] at b;exact ar (lE (by lia)) b
theorem Fr.own (q:Rat) (h:q.num.natAbs<=V):Fr q.den V q:=⟨q.num,(jV q).symm,ar h (gD _ q.den_pos)⟩
theorem Fr.sz (h:Fr M V q) (hM:0 < M) (h1:M<=2^k) (h2:V<=2^j):Sz (j+k+1) (nm q).1/\Sz (k+1) (nm q).2:=by
 constructor
 ·show q.num.natAbs < 2^(j+k+1)
  have h3:=h.num_le hM;have h4:V*M<=2^j*2^k:=bf h2 h1;rw[fF,bS];have:=Nat.two_pow_pos (j+k);rw[bS] at this
  lia
 ·show (q.den:Int).natAbs < 2^(k+1)
  have h3:=h.den_le hM;rw[cI,fF];have:=Nat.two_pow_pos k
  lia
theorem Fr.sum {M V:Nat}:∀{l:List Rat},(∀x∈l,Fr M V x)->Fr M (l.length*V) l.sum
 | [],_=>by simp;exact Fr.zero
 | x :: r,h=>by
  rw[List.sum_cons,bw,wG,Nat.add_comm];exact (h x (.head _)).add (Fr.sum λy hy=>h y (.tail _ hy))
def cZ (xs ys:List Rat):Rat:=(List.zipWith (λx y=>x*y) xs ys).sum
theorem Fr.dot (h:∀x∈xs,Fr M V x) (h':∀y∈ys,Fr N W y):Fr (M*N) (xs.length*(V*W)) (cZ xs ys):=by
 have q:=Fr.sum (M:=M*N) (V:=V*W) (l:=List.zipWith (λx y=>x*y) xs ys) λz hz=>by
  obtain ⟨i,hi,e⟩:=bZ hz;rw[iW] at e;rw[<- e];exact (h _ (aS _)).mul (h' _ (aS _))
 exact q.mono (aN _ (by rw[bG];lia))
theorem Fx (xs ys:List Rat):cZ xs ys=cZ ys xs:=by
 unfold cZ;rw[List.zipWith_comm];congr 2;funext a b;exact cQ ..
theorem wa:∀{bs:List Int} {m M:Int},0 < m->m∣M->(∀b∈bs,0 < b/\b∣M)->uB bs m∣M
 | [],_,_,_,h,_=>h
 | b :: r,m,M,hm,h,hb=>by
  have b1:=hb b cT;refine wa (bs:=r) (sR hm b1.1) ?_ λc hc=>hb c (bM _ hc)
  have gp:0 < g m b:=xT (by lia);have e1:=xP m b;have e2:=uF m b;obtain ⟨u,hu⟩:=h;obtain ⟨v,hv⟩:=b1.2
  have h3:lo m b*u=hi m b*v:=by
   apply qY (show g m b≠0 by lia)
   calc lo m b*u*g m b=lo m b*g m b*u:=by rw[c8,eO u,<- c8]
    _=m*u:=by rw[e1]
    _=M:=hu.symm
    _=b*v:=hv
    _=hi m b*g m b*v:=by rw[e2]
    _=hi m b*v*g m b:=by rw[c8,eO (g m b),<- c8]
  have h4:hi m b∣lo m b*u:=⟨v,h3⟩;have h5:hi m b∣u:=nY (by rw[jB];exact xN (by lia)) h4;obtain ⟨w,hw⟩:=h5;refine ⟨w,?_⟩;show M=m*hi m b*w
  rw[hu,hw,c8]
theorem AZ (hb:0 < b) (d:a∣b) (h:Sz k b):Sz k a:=h.le (fM (by lia) (dN.mpr d))
end Nm
namespace Nm
def Dr (W:Nat) (x:Rat):Prop:=x.num.natAbs<=W/\x.den<=W
def zc:List Nat->Nat
 | []=>1
 | a :: r=>a*zc r
theorem za:∀{l:List Nat},(∀a∈l,0 < a)->0 < zc l
 | [],_=>Nat.one_pos
 | a :: r,h=>bQ (h a (.head _)) (za λb hb=>h b (.tail _ hb))
theorem zb:∀{l:List Nat} {a:Nat},a∈l->a∣zc l
 | b :: r,a,h=>by
  rcases aD.mp h with rfl | h
  ·exact Nat.dvd_mul_right ..
  ·exact jQ (zb h) (eX ..)
theorem Cg {k:Nat}:∀{l:List Nat},(∀a∈l,a<=2^k)->zc l<=2^(k*l.length)
 | [],_=>by simp [zc]
 | a :: r,h=>by
  rw[bw,Nat.mul_succ,bS,cB (2^(k*r.length))];exact bf (h a (.head _)) (Cg λb hb=>h b (.tail _ hb))
def GF (M V:Nat) (rows:LR9):Prop:=∀xs∈rows,∀x∈xs,Fr M V x
def cm (rows:LR9) (w:Nat):LR9:=(List.range w).map λj=>rows.map λxs=>xs.getD j 0
def gF (one other:LR9) (w:Nat):LR9:=one.map λxs=>(cm other w).map λys=>cZ ys xs
theorem cV:(cm rows w).length=w:=by simp [cm]
theorem pT:∀ys∈cm rows w,ys.length=rows.length:=λys hy=>by
 obtain ⟨j,_,rfl⟩:=aA.mp hy;exact ag ..
theorem getD_map {α:Type} {l:List α} {f:α->Rat} (h:i < l.length):(l.map f).getD i 0=f l[i]:=by
 rw[aa,aB,af h];rfl
theorem EN (h:∀xs∈rows,xs.length=w):cm (cm rows w) rows.length=rows:=by
 apply gE
 ·exact cV
 ·intro i h1 h2;have e:(cm (cm rows w) rows.length)[i]=(cm rows w).map λxs=>xs.getD i 0:=by simp [cm]
  rw[e];have hw:=h rows[i] (aS h2);apply gE
  ·rw[ag,cV,hw]
  ·intro j h3 h4;rw[vO];have e2:(cm rows w)[j]'(by rw[cV];lia)=rows.map λxs=>xs.getD j 0:=by simp [cm]
   rw[e2,getD_map h2,aa,af h4];rfl
end Nm
namespace L2
open PySem PySem.Spec PyProof.Rows Nm
theorem cC.sqt {K:FG9} (u:cC b H H') (B:fD H b) (h:kz K H a xs):kz K H' a xs:=by
 rcases h with (h | ⟨o,h⟩) | h
 ·exact .inl (.inl (u.tup B h))
 ·exact .inl (.inr ⟨o,u.other (λz=>by obtain ⟨_,_,_,_,_,e,_⟩:=B;rw[z,e] at h;cases h) h⟩)
 ·exact .inr h
theorem F4 {K:FG9} (h:kz K H a xs) (hl:H l=some (.lst ys)):kz K (upd H l o) a xs:=by
 rcases h with (h | ⟨o,h⟩) | h
 ·exact .inl (.inl (by rw[a9 λz=>by rw[z,hl] at h;cases h];exact h))
 ·exact .inl (.inr ⟨o,by rw[a9 λz=>by rw[z,hl] at h;cases h];exact h⟩)
 ·exact .inr h
def bU (K:FG9) (H:Hp) (q:Rat) (x:V):Prop:=CO K H x (nm q)
section
variable {K:FG9} {H H':Hp} {q:Rat} {x:V} {b l p:Addr} {qs:List Rat}
theorem bU.same (h:bU K H q x) (e:aE H H'):bU K H' q x:=e.num h
theorem bU.upto (h:bU K H q x) (u:cC b H H') (B:fD H b):bU K H' q x:=by obtain ⟨p,e,s⟩:=h;exact ⟨p,e,u.sqt B s⟩
theorem bU.updL (h:bU K H q x) (hl:H l=some (.lst ys)):bU K (upd H l o) q x:=by obtain ⟨p,e,s⟩:=h;exact ⟨p,e,F4 s hl⟩
theorem bU.mk (h:H r=some (.tup [.int a,.int c])) (e:(a,c)=nm q):bU K H q (.ref r):=⟨r,rfl,by rw[<- e];exact kz.of h⟩
def cM (K:FG9) (H:Hp) (p:Addr) (qs:List Rat):Prop:=∃xs,H p=some (.lst xs)/\Paired (bU K H) qs xs
theorem cM.same (h:cM K H p qs) (e:aE H H'):cM K H' p qs:=by obtain ⟨xs,g,r⟩:=h;exact ⟨xs,e _ _ g,Paired.imp' (λ_ _ z=>z.same e) r⟩
theorem cM.upto (h:cM K H p qs) (u:cC b H H') (B:fD H b) (n:p≠b):cM K H' p qs:=by obtain ⟨xs,g,r⟩:=h;exact ⟨xs,u.other n g,Paired.imp' (λ_ _ z=>z.upto u B) r⟩
theorem cM.updL (h:cM K H p qs) (hl:H l=some (.lst ys)) (n:p≠l):cM K (upd H l o) p qs:=by obtain ⟨xs,g,r⟩:=h;exact ⟨xs,by rw[a9 n];exact g,Paired.imp' (λ_ _ z=>z.updL hl) r⟩
theorem pj {α β γ:Type} {F:α->β->Prop} {f:γ->α}:∀{l:List γ} {l2:List β},Paired (λc x=>F (f c) x) l l2->Paired F (l.map f) l2
 | _,_,.nil=>.nil
 | _,_,.cons r t=>.cons r (pj t)
theorem cM.rowK (h:cM K H p qs):Be K H p (qs.map nm):=by obtain ⟨xs,g,r⟩:=h;exact ⟨xs,g,pj (F:=λn x=>CO K H x n) r⟩
def c4 (K:FG9) (H0 H:Hp) (qs:List Rat) (x:V):Prop:=∃q,x=V.ref q/\H0 q=none/\cM K H q qs
def bK (K:FG9) (H0 H:Hp) (p:Addr) (rows:LR9):Prop:=∃xs,H p=some (.lst xs)/\Paired (c4 K H0 H) rows xs/\V.ref p∉xs
theorem iU {rows:LR9} (h:∃H2,H2 p=none/\Paired (c4 K H0 H2) rows ys):V.ref p∉ys:=λhm=>by
 obtain ⟨H2,e,pr⟩:=h;obtain ⟨qs,_,q,z,_,xs,g,_⟩:=cJ pr hm;cases z;rw[e] at g;cases g
variable {H0:Hp} {rows:LR9}
theorem c4.same (h:c4 K H0 H qs x) (e:aE H H'):c4 K H0 H' qs x:=by obtain ⟨q,a,b,c⟩:=h;exact ⟨q,a,b,c.same e⟩
theorem c4.upto (h:c4 K H0 H qs x) (u:cC b H H') (B:fD H b) (nb:H0 b≠none):c4 K H0 H' qs x:=by obtain ⟨q,a,c,d⟩:=h;exact ⟨q,a,c,d.upto u B λz=>nb (by rw[<- z];exact c)⟩
theorem c4.weak (h:c4 K H0 H qs x) (e:aE H1 H0):c4 K H1 H qs x:=by obtain ⟨q,a,b,c⟩:=h;exact ⟨q,a,e.none b,c⟩
theorem bK.same (h:bK K H0 H p rows) (e:aE H H'):bK K H0 H' p rows:=by obtain ⟨xs,g,r,n⟩:=h;exact ⟨xs,e _ _ g,Paired.imp' (λ_ _ z=>z.same e) r,n⟩
theorem bK.upto (h:bK K H0 H p rows) (u:cC b H H') (B:fD H b) (n:p≠b) (nb:H0 b≠none):bK K H0 H' p rows:=by obtain ⟨xs,g,r,nn⟩:=h;exact ⟨xs,u.other n g,Paired.imp' (λ_ _ z=>z.upto u B nb) r,nn⟩
theorem bK.weak (h:bK K H0 H p rows) (e:aE H1 H0):bK K H1 H p rows:=by obtain ⟨xs,g,r,n⟩:=h;exact ⟨xs,g,Paired.imp' (λ_ _ z=>z.weak e) r,n⟩
theorem bK.gridK (h:bK K H0 H p rows):Ky K H p (rows.map (List.map nm)):=by obtain ⟨xs,g,r,_⟩:=h;exact ⟨xs,g,pj (F:=λns x=>∃q,x=V.ref q/\Be K H q ns) (Paired.imp' (λ_ _ ⟨q,a,_,c⟩=>⟨q,a,c.rowK⟩) r)⟩
end
def Ht:Kind Rat:=MZ.via nm (λ_ _ e=>Lv e) (λK H x q=>bU K H q x) id
def zm:Kind (List Rat):=Fm Ht
def AR:Kind (LR9):=Fm zm
theorem cM.kind {K:FG9} (h:cM K H p qs):zm.R K H (.ref p) qs:=by obtain ⟨xs,g,q⟩:=h;exact ⟨p,xs,rfl,bD.of g,q⟩
theorem bK.kind {K:FG9} (h:bK K H0 H p rows):AR.R K H (.ref p) rows:=by obtain ⟨xs,g,q,_⟩:=h;exact ⟨p,xs,rfl,bD.of g,Paired.imp' (λ_ _ ⟨q,a,_,c⟩=>by rw[a];exact c.kind) q⟩
def ky (x:Rat):Prop:=Sz 4000 (nm x).1/\Sz 4000 (nm x).2
def Fits (l:List Rat):Prop:=∃M V:Nat,0 < M/\M<=2^900/\V<=2^900/\∀x∈l,Fr M V x
theorem Fits.szn (h:Fits l) (hx:x∈l):ky x:=by
 obtain ⟨M,V,h0,h1,h2,h3⟩:=h;obtain ⟨a,b⟩:=(h3 x hx).sz h0 h1 h2;exact ⟨a.mono (by decide),b.mono (by decide)⟩
theorem Fits.ok (h:Fits l) (hx:x∈l):tQ (nm x):=⟨fO x,AM x,(h.szn hx).1.mono (by decide),(h.szn hx).2.mono (by decide)⟩
theorem DE {M V:Nat} (h0:0 < M) (h1:M<=2^1800) (h2:V<=2^1810) (h:Fr M V x):ky x:=by
 obtain ⟨a,b⟩:=h.sz h0 h1 h2;exact ⟨a.mono (by decide),b.mono (by decide)⟩
theorem C6 (h:ky x):tQ (nm x):=⟨fO x,AM x,h.1.mono (by decide),h.2.mono (by decide)⟩
inductive oM (K:FG9) (f:Rat->Rat->Rat) (vs:List V) (H:Hp) (Q:VK) (E9:XK):Prop
 | mk (u v:V) (x y:Rat):vs=[u,v]->bU K H x u->bU K H y v->ky x->ky y->(∀r H',aE H H'->bU K H' (f x y) (.ref r)->Q (.ref r) H')->oM K f vs H Q E9
section
variable {K:FG9} {vs:List V} {H:Hp} {Q:VK} {E:XK}
theorem Dm (hf:∀x y:Rat,(f x y)*(((nm x).2*(nm y).2:Int):Rat)=((F (nm x).1 (nm x).2 (nm y).1 (nm y).2:Int):Rat)) (h:oM K f vs H Q E):D5 K F vs H Q E:=by
 obtain ⟨u,v,x,y,rfl,⟨p,rfl,hp⟩,⟨q,rfl,hq⟩,⟨s1,s2⟩,⟨s3,s4⟩,k⟩:=h;refine ⟨p,q,_,_,_,_,rfl,hp,hq,fO x,fO y,s1,s2,s3,s4,λr H' s g=>k r H' s (bU.mk g ?_)⟩;exact nV (iX (fO x) (fO y)) (hf x y)
theorem nD (x:Rat):(((nm x).1:Int):Rat)=x*(((nm x).2:Int):Rat):=by
 show (x.num:Rat)=x*(((x.den:Nat):Int):Rat)
 rw[jV,bx]
theorem EC (h:oM K (λx y=>x+y) vs H Q E):D5 K Ks vs H Q E:=Dm (λx y=>by
 unfold Ks;rw[Iy,aU,aU,aU,nD,nD];grind) h
theorem DW (h:oM K (λx y=>x - y) vs H Q E):D5 K HU vs H Q E:=Dm (λx y=>by
 unfold HU;rw[yy,aU,aU,aU,nD,nD];grind) h
theorem Eg (h:oM K (λx y=>x*y) vs H Q E):D5 K HS vs H Q E:=Dm (λx y=>by
 unfold HS;rw[aU,aU,nD,nD];grind) h
end
def DM (M:Int) (ns:List (Int×Int)):Prop:=0 < M/\Sz 4400 M/\∀n∈ns,0 < n.2/\n.2∣M/\Sz 4400 n.1
theorem DM.bot (h:DM M ns):0 < fH ns/\Sz 4400 (fH ns):=by
 have hb:∀b∈ns.map (·.2),0 < b/\b∣M:=λb hb=>by
  obtain ⟨n,hn,rfl⟩:=aA.mp hb;exact ⟨(h.2.2 n hn).1,(h.2.2 n hn).2.1⟩
 exact ⟨xR (by decide) λb q=>(hb b q).1,AZ h.1 (wa (by decide) (Int.one_dvd _) hb) h.2.1⟩
inductive F5 (K:FG9) (vs:List V) (H:Hp) (Q:VK) (E9:XK):Prop
 | mk (p:Addr) (bs:List Int) (M:Int):vs=[.ref p]->bD K H p (bs.map V.int)->0 < M->Sz 4400 M->((∀b∈bs,0 < b/\b∣M))->Q (.int (uB bs 1)) H->F5 K vs H Q E9
inductive F6 (K:FG9) (vs:List V) (H:Hp) (Q:VK) (E9:XK):Prop
 | mk (p:Addr) (ns:List (Int×Int)) (M:Int):vs=[.ref p]->Be K H p ns->ns.length<=1000->DM M ns->(∀H',aE H H'->Q (.int (fH ns)) H')->F6 K vs H Q E9
inductive BE (K:FG9) (vs:List V) (H:Hp) (Q:VK) (E9:XK):Prop
 | mk (p:Addr) (ns:List (Int×Int)) (M:Int) (B:Int):vs=[.ref p,.int B]->Be K H p ns->ns.length<=1000->DM M ns->0 < B->Sz 4400 B->(∀r H',H r=none->aE H H'->H' r=some (.lst ((eK ns B).map V.int))->Q (.ref r) H')->BE K vs H Q E9
theorem Bw (h:DM M ns) (hB:0 < B) (sB:Sz 4400 B) (ht:t∈eK ns B):Sz 8800 t:=by
 obtain ⟨n,hn,rfl⟩:=aA.mp ht;have hp:=h.2.2 n hn
 have sq:Sz 4400 (B / n.2):=sB.le (by
  rw[Mb (by lia)];exact Nat.div_le_self ..)
 exact (hp.2.2.mul sq).mono (by lia)
theorem oH (h:(nm x).2∣B):(((nm x).1*(B / (nm x).2):Int):Rat)=x*(B:Rat):=by
 obtain ⟨k,rfl⟩:=h;have hp:=fO x;rw[Int.mul_ediv_cancel_left _ (by lia),aU,aU,nD];grind
theorem CB {B C:Int}:∀{xs ys:List Rat},(∀x∈xs,(nm x).2∣B)->(∀y∈ys,(nm y).2∣C)->(((List.zipWith (λx y=>x*y) (eK (xs.map nm) B) (eK (ys.map nm) C)).sum:Int):Rat)=cZ xs ys*((B:Rat)*(C:Rat))
 | [],ys,_,_=>by simp [eK,cZ]
 | x :: xs,[],_,_=>by simp [eK,cZ]
 | x :: xs,y :: ys,h1,h2=>by
  have ih:=CB (B:=B) (C:=C) (xs:=xs) (ys:=ys) (λz hz=>h1 z (.tail _ hz)) (λz hz=>h2 z (.tail _ hz));have e1:=oH (h1 x (.head _));have e2:=oH (h2 y (.head _));have e3:(List.zipWith (λx y=>x*y) (eK ((x :: xs).map nm) B) (eK ((y :: ys).map nm) C)).sum=((nm x).1*(B / (nm x).2))*((nm y).1*(C / (nm y).2))+(List.zipWith (λx y=>x*y) (eK (xs.map nm) B) (eK (ys.map nm) C)).sum:=rfl;have e4:cZ (x :: xs) (y :: ys)=x*y+cZ xs ys:=rfl;rw[e3,e4,Iy,aU,ih,e1,e2];grind
theorem JG (h1:0 < fH (xs.map nm)) (h2:0 < fH (ys.map nm)):(lo (HY (xs.map nm) (ys.map nm)) (fH (xs.map nm)*fH (ys.map nm)),hi (HY (xs.map nm) (ys.map nm)) (fH (xs.map nm)*fH (ys.map nm)))=nm (cZ xs ys):=by
 refine nV (iX h1 h2) ?_;unfold HY;rw[CB (λx hx=>pM (aA.mpr ⟨x,hx,rfl⟩)) (λx hx=>pM (aA.mpr ⟨x,hx,rfl⟩)),aU]
inductive BD (K:FG9) (vs:List V) (H:Hp) (Q:VK) (E9:XK):Prop
 | mk (p:Addr) (w:Nat) (H0:Hp) (rows:LR9):vs=[.ref p,.int w]->bK K H0 H p rows->rows.length<=1000->w<=1000->(∀xs∈rows,xs.length=w)->(∀r H',H r=none->aE H H'->bK K H H' r (cm rows w)->Q (.ref r) H')->BD K vs H Q E9
def C1 (m:Nat) (a:Int):List Rat:=(List.range m).map λ(i:Nat)=>if ((i:Nat):Int)=a then 1 else 0
def cg (m:Nat):LR9:=(List.range m).map λ(i:Nat)=>C1 m i
inductive BC (K:FG9) (vs:List V) (H:Hp) (Q:VK) (E9:XK):Prop
 | mk (m:Nat) (a:Int):vs=[.int m,.int a]->m<=1000->(∀r H',H r=none->aE H H'->cM K H' r (C1 m a)->Q (.ref r) H')->BC K vs H Q E9
def EV (K:FG9):Sp:=λvs H Q _=>∃m:Nat,vs=[.int m]/\m<=1000/\∀r H',H r=none->aE H H'->bK K H H' r (cg m)->Q (.ref r) H'
inductive wX (K:FG9) (vs:List V) (H:Hp) (Q:VK) (E9:XK):Prop
 | mk (b:Addr) (w:Nat):vs=[.ref b,.int w]->fD H b->1<=w->w<=1000000->(∀r x H',Dr (max w 6) x->bU K H' x (.ref r)->fD H' b->cC b H H'->Q (.ref r) H')->wX K vs H Q E9
inductive BR (K:FG9) (vs:List V) (H:Hp) (Q:VK) (E9:XK):Prop
 | mk (b:Addr) (m w:Nat):vs=[.ref b,.int m,.int w]->fD H b->m<=1000->1<=w->w<=1000000->(∀r xs H',H r=none->cM K H' r xs->xs.length=m->(∀x∈xs,Dr (max w 6) x)->fD H' b->cC b H H'->Q (.ref r) H')->BR K vs H Q E9
inductive BI (K:FG9) (vs:List V) (H:Hp) (Q:VK) (E9:XK):Prop
 | mk (p q:Addr) (xs ys:List Rat):vs=[.ref p,.ref q]->cM K H p xs->cM K H q ys->ys.length=xs.length->xs.length<=1000->(∀x∈xs,ky x)->(∀y∈ys,ky y)->(∀r H',H r=none->aE H H'->cM K H' r (List.zipWith (λx y=>x+y) xs ys)->Q (.ref r) H')->BI K vs H Q E9
inductive F7 (K:FG9) (vs:List V) (H:Hp) (Q:VK) (E9:XK):Prop
 | mk (u:V) (q:Addr) (c:Rat) (ys:List Rat):vs=[u,.ref q]->bU K H c u->ky c->cM K H q ys->ys.length<=1000->(∀y∈ys,ky y)->(∀r H',H r=none->aE H H'->cM K H' r (ys.map λy=>c*y)->Q (.ref r) H')->F7 K vs H Q E9
inductive xg (K:FG9) (vs:List V) (H:Hp) (Q:VK) (E9:XK):Prop
 | mk (p:Addr) (H0:Hp) (rows:LR9):vs=[.ref p]->bK K H0 H p rows->rows.length<=1000->(∀xs∈rows,xs.length<=1000)->(∀r H',H r=none->aE H H'->bK K H H' r rows->Q (.ref r) H')->xg K vs H Q E9
section
variable {K:FG9} {a:Addr} {xs:List V} {g:TG} {tf:TT} {te:TE} {Q:VK} {σ₀:St} {H:Hp} {α β:Type}
theorem cW {F:Hp->α->V->Prop} (G:Hp->β->V->Prop) (f:α->β) (hx:H a=some (.lst xs)) (pf:Paired (F H) as xs) (hl:as.length<=1000)
  (hF:∀{H H' c x},F H c x->aE H H'->F H' c x) (hG:∀{H H' c x},G H c x->aE H H'->G H' c x)
  (hs:∀(i:Nat) c x H' NY NN,as[i]?=some c->aE H H'->F H' c x->(∀y H2,aE H' H2->G H2 (f c) y->NY y H2)->oI σ₀ g tf te x H' NY NN)
  (hd:∀ys H' p,H p=none->aE H H'->H' p=some (.lst ys)->Paired (G H') (as.map f) ys->(∃H2,H2 p=none/\Paired (G H2) (as.map f) ys)->Q (.ref p) H'):pR (JW K a) σ₀ g tf te Q H:=by
 have lx:=pf.length;refine dO (K:=K) (xs:=xs) (λi ys H'=>aE H H'/\Paired (G H') ((as.take i).map f) ys) (aR (bB (by lia))) ⟨aE.refl _,.nil⟩ (λi ys H' _ ⟨s,_⟩=>bD.of (s _ _ hx)) ?_ ?_
 ·rintro i x ys H' hx' hlen ⟨s,pr⟩;obtain ⟨c,ec,hc⟩:=cG pf hx';refine hs i c x H' _ _ ec s (hF hc s) λy H2 s2 gy=>⟨s.trans s2,?_⟩
  rw[take_snoc ec,cD];exact cx (Paired.imp' (λ_ _ z=>hG z s2) pr) (.cons gy .nil)
 ·rintro ys H' hy ⟨s,pr⟩ p hp;rw[aJ (by lia)] at pr;exact hd ys _ p (s.none hp) (s.trans (aE.new hp)) aG (Paired.imp' (λ_ _ z=>hG z (aE.new hp)) pr) ⟨H',hp,pr⟩
theorem eo (G:Hp->β->V->Prop) (f:Nat->β) (hl:n<=1000) (hG:∀{H H' c x},G H c x->aE H H'->G H' c x)
  (hs:∀(i:Nat) H' NY NN,i < n->aE H H'->(∀y H2,aE H' H2->G H2 (f i) y->NY y H2)->oI σ₀ g tf te (.int i) H' NY NN)
  (hd:∀ys H' p,H p=none->aE H H'->H' p=some (.lst ys)->Paired (G H') ((List.range n).map f) ys->(∃H2,H2 p=none/\Paired (G H2) ((List.range n).map f) ys)->Q (.ref p) H'):pR (CT 0 n) σ₀ g tf te Q H:=by
 refine oa (λi ys H'=>aE H H'/\Paired (G H') ((List.range i).map f) ys) (aR (bB (by lia))) ⟨aE.refl _,.nil⟩ ?_ ?_
 ·rintro i ys H' hi hlen ⟨s,pr⟩;rw[wI];refine hs i H' _ _ hi s λy H2 s2 gy=>⟨s.trans s2,?_⟩
  rw[Iz,cD];exact cx (Paired.imp' (λ_ _ z=>hG z s2) pr) (.cons gy .nil)
 ·rintro ys H' hy ⟨s,pr⟩ p hp;exact hd ys _ p (s.none hp) (s.trans (aE.new hp)) aG (Paired.imp' (λ_ _ z=>hG z (aE.new hp)) pr) ⟨H',hp,pr⟩
theorem p9 (G:Hp->β->V->Prop) (C:β->Prop) (hB:fD H b) (hl:n<=1000) (hG:∀{H' H'' c x},G H' c x->cC b H' H''->fD H' b->G H'' c x)
  (hs:∀(i:Nat) H' NY NN,i < n->cC b H H'->fD H' b->(∀y c H2,cC b H' H2->fD H2 b->C c->G H2 c y->NY y H2)->oI σ₀ g tf te (.int i) H' NY NN)
  (hd:∀ys cs H' p,H p=none->cC b H H'->fD H' b->H' p=some (.lst ys)->cs.length=n->(∀c∈cs,C c)->Paired (G H') cs ys->(∃H2,H2 p=none/\Paired (G H2) cs ys)->Q (.ref p) H'):pR (CT 0 n) σ₀ g tf te Q H:=by
 refine oa (λi ys H'=>cC b H H'/\fD H' b/\∃cs,cs.length=i/\(∀c∈cs,C c)/\Paired (G H') cs ys) (aR (bB (by lia))) ⟨(aE.refl _).upto,hB,[],rfl,(λ_ z=>nomatch z),.nil⟩ ?_ ?_
 ·rintro i ys H' hi hlen ⟨u,B,cs,lc,hc,pr⟩;rw[wI];refine hs i H' _ _ hi u B λy c H2 u2 B2 cc gy=>⟨u.trans u2,B2,cs++[c],by simp [lc],A9 hc cc,cx (Paired.imp' (λ_ _ z=>hG z u2 B) pr) (.cons gy .nil)⟩
 ·rintro ys H' hy ⟨u,B,cs,lc,hc,pr⟩ p hp;have s:aE H' (upd H' p (.lst ys)):=aE.new hp;exact hd ys cs _ p (u.none B hp) (u.same s) (B.same s) aG lc hc (Paired.imp' (λ_ _ z=>hG z s.upto B) pr) ⟨H',hp,pr⟩
end
section
variable {X:Cx}
theorem dg {g:TG} {tb:TS} {D:Ends} (Pv:Nat->St->Hp->Prop) (h0:Pv 0 σ H)
  (hs:∀(i:Nat) σ H,i < n->Pv i σ H->g (.int i) σ H λσ2 H2=>tb { D with nx:=Pv (i+1),ct:=Pv (i+1),bk:=D.nx } σ2 H2) (hd:∀σ H,Pv n σ H->D.nx σ H) :
  ∃W:Nat->Nat->St->Hp->Prop,(∃m,W 0 m σ H)/\∀i m σ H,W i m σ H →
   ((CT 0 n).stop i H/\D.nx σ H)\/((CT 0 n).go i H/\∃N:St->Hp->Prop,(∀σ' H',N σ' H'->∃m',m' < m/\W (i+1) m' σ' H')/\∀x H',(CT 0 n).yld i H x H'->g x σ H' λσ2 H2=>tb { D with nx:=N,ct:=N,bk:=D.nx } σ2 H2) :=
 zu (lo:=0) Pv h0 (λi σ H hi p=>by rw[wI];exact hs i σ H hi p) hd
theorem j3:mH X (.type "int") (λxs H Q=>∃b:Bool,xs=[.bl b]/\Q (.int (if b=true then 1 else 0)) H):=by
 intro pins s σ H xs us Q I r h;obtain ⟨b,rfl,q⟩:=h;obtain ⟨u,rfl,ru⟩:=vals1 r;cases ru;exact call_int_bool ⟨.int _,H,I.tok _,⟨_,rfl⟩,q⟩
theorem yL (K:FG9) (hK:X.K=K):mH X (.builtin "len") (λxs H Q=>∃p ys,xs=[.ref p]/\(bD K H p ys\/kz K H p ys)/\Q (.int ys.length) H):=by subst hK;exact aX
theorem GB {st:Stmt}:PS X st (λ_ _ _=>False):=λ_ _ _ _ _ _ h=>h.elim
end
theorem GZ {t b:Int} (hb:0 < b) (h1:t.natAbs<=W) (h2:b.natAbs<=W):∃q:Rat,(lo t b,hi t b)=nm q/\Dr W q/\q*(b:Rat)=(t:Rat):=by
 have hb':(b:Rat)≠0:=λz=>by have:=vL.mp z;lia
 have e:(t:Rat) / (b:Rat)*(b:Rat)=t:=Rat.div_mul_cancel hb';have h:=nV hb e;refine ⟨_,h,⟨?_,?_⟩,e⟩
 ·have:=congrArg Prod.fst h;have z:=lo_le (t:=t) (b:=b) (by lia);show ((nm ((t:Rat) / (b:Rat))).1).natAbs<=W
  rw[<- this];exact ar z h1
 ·have:=congrArg Prod.snd h;have z:=Ko (t:=t) (b:=b) (by lia);have hd:(((t:Rat) / (b:Rat)).den:Int)=hi t b:=this.symm;have hp:=AW (t:=t) hb
  lia
theorem Bi {K:FG9} (h:Paired (bU K H) qs xs) (hj:j < qs.length):∃v,FE xs (j:Int)=some v/\bU K H (qs.getD j 0) v:=by
 have hl:=h.length;refine ⟨xs[j]'(by lia),cX (by simp),?_⟩;have:=jc h (i:=j) hj (by lia);rwa [aa,af hj]
theorem zx {xs ys:List Rat} (h1:i < xs.length) (h2:i < ys.length):cZ (xs.take (i+1)) (ys.take (i+1))=cZ (xs.take i) (ys.take i)+xs.getD i 0*ys.getD i 0:=by
 have e1:xs[i]?=some (xs.getD i 0):=by rw[aa,af h1];rfl
 have e2:ys[i]?=some (ys.getD i 0):=by rw[aa,af h2];rfl
 unfold cZ;rw[take_snoc e1,take_snoc e2,List.zipWith_append (by simp;lia),List.sum_append];simp [Rat.add_zero]
theorem getD_mem {xs:List Rat} (h:i < xs.length):xs.getD i 0∈xs:=by
 rw[aa,af h];exact aS h
theorem yQ {xs ys:List Rat} (h:ys.length=xs.length):List.zipWith (λx y=>x+y) xs ys=(List.range xs.length).map λi=>xs.getD i 0+ys.getD i 0:=by
 apply iS;intro i;rw[bO,aB];by_cases hi:i < xs.length
 ·rw[cO hi,af hi,af (show i < ys.length by lia)];simp [aa,af hi,af (show i < ys.length by lia)]
 ·rw[bp (show (List.range xs.length).length<=i by simp;lia),bp (show xs.length<=i by lia)];rfl
theorem fD.at (B:fD H b):H b≠none:=by obtain ⟨_,_,_,_,_,e,_⟩:=B;rw[e];simp
theorem Inner.at (B:fD H b) (i:Inner H b q):H q≠none:=by
 obtain ⟨q',i',xs,e⟩:=B.inner;rw[<- Inner.inj i' i,e];simp
theorem df {F:α->β->Prop} {l1:List α} {l2:List β} (h:Paired F l1 l2) (hi:i < l1.length):∃x y,l1[i]?=some x/\l2[i]?=some y/\x∈l1/\F x y:=by
 have hl:=h.length;exact ⟨l1[i],l2[i]'(by lia),by simp,by simp,aS _,jc h hi (by lia)⟩
section
variable {α β:Type} [DecidableEq α] [DecidableEq β] (k1:Kind α) (k2:Kind β)
theorem tV {X:Cx} {pins:List (Addr×Obj)} {σ:St} {H:Hp} {s:Shared} {A:Around} (I:Inv X pins σ H s) (h1:A.units+k1.d < cLine) (h2:A.units+k2.d < cLine) {x y z w:V} {us ws:List Value} {a b:α×β}
  (rx:cp [x,y] us) (ry:cp [z,w] ws) (a1:k1.R X.K H x a.1) (a2:k2.R X.K H y a.2) (b1:k1.R X.K H z b.1) (b2:k2.R X.K H w b.2) :
  ∀j (h1:j < us.toArray.size) (h2:j < ws.toArray.size),SeqAt.EqAt A s us.toArray[j] ws.toArray[j] (if j=0 then decide (a.1=b.1) else decide (a.2=b.2)):=λj l1 l2=>by
 obtain ⟨u1,u2,rfl,r1,r2⟩:=vals2 rx;obtain ⟨w1,w2,rfl,q1,q2⟩:=vals2 ry;have hj:j < 2:=by simpa using l1
 rcases gO j 1 with h | h
 ·have e:j=0:=by lia
  subst e;exact k1.eq (A:=A) I r1 q1 a1 b1 h1
 ·have e:j=1:=by lia
  subst e;exact k2.eq (A:=A) I r2 q2 a2 b2 h2
theorem z8 {a b:α×β}:(List.range 2).all (λj=>if j=0 then decide (a.1=b.1) else decide (a.2=b.2))=decide (a=b):=by
 have e:List.range 2=[0,1]:=rfl;rw[e];simp only[List.all_cons,List.all_nil,Bool.and_true,if_true,Nat.one_ne_zero,if_false];rw[<- Bool.decide_and];exact decide_eq_decide.mpr ⟨λ⟨h1,h2⟩=>Prod.ext h1 h2,λh=>by rw[h];exact ⟨rfl,rfl⟩⟩
def MY:Kind (α×β) where
 R:=λK H x a=>∃p u v,x=.ref p/\kz K H p [u,v]/\k1.R K H u a.1/\k2.R K H v a.2
 d:=max k1.d k2.d+1
 inj:=λ{X pins σ H s x a b} I h1 h2=>by
  obtain ⟨p,u,v,rfl,hp,a1,a2⟩:=h1;obtain ⟨q,u',v',e,hq,b1,b2⟩:=h2;cases e;have e:=I.tuple_inj hp hq;cases e;exact Prod.ext (k1.inj I a1 b1) (k2.inj I a2 b2)
 rc:=λ{X pins σ H s x y v u a b A} I rx ry h1 h2 hA=>by
  obtain ⟨p,x1,x2,rfl,hp,a1,a2⟩:=h1;obtain ⟨q,y1,y2,rfl,hq,b1,b2⟩:=h2;cases rx;cases ry;obtain ⟨us,r1,t1,_⟩:=I.tuple hp;obtain ⟨ws,r2,t2,_⟩:=I.tuple hq;have l1:=r1.length;have l2:=r2.length;have z:=SeqAt.RcAt.tuples (A:=A) (e:=λj=>if j=0 then decide (a.1=b.1) else decide (a.2=b.2)) (show s.heap.IsTuple p us.toArray from t1) (show s.heap.IsTuple q ws.toArray from t2) (by lia) (tV k1 k2 (A:=A.in1) I (by show A.units+1+k1.d < cLine;lia) (by show A.units+1+k2.d < cLine;lia) r1 r2 a1 a2 b1 b2);have e1:us.toArray.size=2:=by rw[aL,<- l1];rfl
  have e2:ws.toArray.size=2:=by rw[aL,<- l2];rfl
  rw[e1,e2,Nat.min_self,z8] at z;simpa using z
 ne:=λ{X pins σ H s x y v u a b A} I rx ry h1 h2 hA=>by
  obtain ⟨p,x1,x2,rfl,hp,a1,a2⟩:=h1;obtain ⟨q,y1,y2,rfl,hq,b1,b2⟩:=h2;cases rx;cases ry;obtain ⟨us,r1,t1,_⟩:=I.tuple hp;obtain ⟨ws,r2,t2,_⟩:=I.tuple hq;have l1:=r1.length;have l2:=r2.length;have z:=SeqAt.RcNeAt.tuples (A:=A) (e:=λj=>if j=0 then decide (a.1=b.1) else decide (a.2=b.2)) (show s.heap.IsTuple p us.toArray from t1) (show s.heap.IsTuple q ws.toArray from t2) (by lia) (tV k1 k2 (A:=A.in1) I (by show A.units+1+k1.d < cLine;lia) (by show A.units+1+k2.d < cLine;lia) r1 r2 a1 a2 b1 b2);have e1:us.toArray.size=2:=by rw[aL,<- l1];rfl
  have e2:ws.toArray.size=2:=by rw[aL,<- l2];rfl
  rw[e1,e2,Nat.min_self,z8] at z;simpa using z
 eq:=λ{X pins σ H s x y v u a b A} I rx ry h1 h2 hA=>by
  obtain ⟨p,x1,x2,rfl,hp,a1,a2⟩:=h1;obtain ⟨q,y1,y2,rfl,hq,b1,b2⟩:=h2;cases rx;cases ry;by_cases e:p=q
  ·subst e;have e:=I.tuple_inj hp hq;cases e;have e2:a=b:=Prod.ext (k1.inj I a1 b1) (k2.inj I a2 b2);rw[decide_eq_true e2];exact SeqAt.EqAt.same _
  ·obtain ⟨us,r1,t1,_⟩:=I.tuple hp;obtain ⟨ws,r2,t2,_⟩:=I.tuple hq;have l1:=r1.length;have l2:=r2.length;have z:=SeqAt.RcAt.tuples (A:=A) (e:=λj=>if j=0 then decide (a.1=b.1) else decide (a.2=b.2)) (show s.heap.IsTuple p us.toArray from t1) (show s.heap.IsTuple q ws.toArray from t2) (by lia) (tV k1 k2 (A:=A.in1) I (by show A.units+1+k1.d < cLine;lia) (by show A.units+1+k2.d < cLine;lia) r1 r2 a1 a2 b1 b2);have e1:us.toArray.size=2:=by rw[aL,<- l1];rfl
   have e2:ws.toArray.size=2:=by rw[aL,<- l2];rfl
   rw[e1,e2,Nat.min_self,z8] at z;exact .of_refs e (by simpa using z)
end
theorem A5 (h1:-(2^64) < i) (h2:i < 2^64):fR i j:=.inl (.inl ⟨h1,h2⟩)
theorem JK (h1:-(2^64) < j) (h2:j < 2^64):fR i j:=.inl (.inr ⟨h1,h2⟩)
def L6 (K : FG9) (l : Addr) : It :=
  ⟨λi H => ∃ xs x, bD K H l xs /\ xs[i]? = some x,
   λi H v H' => ∃ p x, v = .ref p /\ H p = none /\ H' = upd H p (.tup [.int i, x]) /\ ∀ xs, bD K H l xs → xs[i]? = some x,
   λi H => ∃ xs, bD K H l xs /\ xs.length ≤ i⟩
def tnE (e it l:Addr) (i:Nat) (h:Heap):Prop:=(∃old,IsEnum h e it i old)/\h.IsListIter it l i
theorem ER {P:Program} {w:World} {K:FG9} {elts:List Expr} {kk:Nat} {tpos:Pos} (e it l:Addr) (hei:e≠it):Turn P w K (.Tuple elts kk tpos) (L6 K l) [e,it] e (tnE e it l) where
 mem:=by simp
 obj:=λi h st b hb=>by
  obtain ⟨⟨old,he⟩,⟨o1,g1,c1,d1⟩⟩:=st;simp only[aD,aO,or_false] at hb;rcases hb with rfl | rfl
  ·exact ⟨_,he,λv q=>nomatch q⟩
  ·exact ⟨o1,g1,λv q=>by rw[d1] at q;cases q⟩
 keep:=λi h h' st k=>by
  obtain ⟨⟨old,he⟩,h1⟩:=st;exact ⟨⟨old,k e (by simp) _ he⟩,h1.at λo q=>k it (by simp) o q⟩
 item:=by
  intro X hP hw hK hc i pins s σ H E I hf st hg;subst hP hw hK;obtain ⟨⟨old,he⟩,h1⟩:=st;obtain ⟨xs,x,qx,ex⟩:=hg;obtain ⟨us,rx,px,_⟩:=I.list qx;obtain ⟨u,eu,ru⟩:=rx.get ex;refine wpAny_pyNext_enum_item he h1 px.isList (x:=u) (by simpa using eu) hei λh' a1 a2 a3 a4 hk=>?_
  refine ⟨_,rfl,wpAny_letOwnedTupleGo_enum a1 λh'' he'' hs=>?_⟩;have hT0:H s.heap.objs.size=none:=I.hok.fresh (av _);have ene:s.heap.objs.size≠e:=EI (Heap.lt_size he)
  have up:∀b o,b∉[e,it]->s.heap.get? b=some o->h''.get? b=some o:=λb o hb q=>by
   simp only[aD,aO,or_false,not_or] at hb;exact (hs.2 b hb.1).trans (hk b o hb.1 hb.2 q)
  have tup:h''.get? s.heap.objs.size=some { cls:=.type "tuple",data:=.seq #[.int i s.toks,u] }:=(hs.2 _ ene).trans a3;have I1:Inv X pins σ H { s with heap:=h'',toks:=s.toks+1 }:=I.moved (g':=s.gens) (d':=s.drawn) (t':=s.toks+1) (ch:=[e,it]) hf up I.bare;have fT:jo X pins H s.heap.objs.size:=I.fpOk (av _) hT0;have I2:=I1.track (o:=.tup [.int i,x]) fT ⟨ig rfl,[.int i s.toks,u],.cons ⟨_,rfl⟩ (.cons ru .nil),⟨_,tup,rfl,_,rfl⟩⟩;refine ⟨.ref s.heap.objs.size,_,I2,rfl,⟨_,x,rfl,hT0,rfl,λxs' q=>by rw[I.list_inj q qx];exact ex⟩,?_,λb hb=>?_⟩
  ·exact ⟨⟨_,by simpa using he''⟩,a2.at λo q=>(hs.2 _ hei.symm).trans q⟩
  ·rw[a9]
   ·exact (hf b hb).1
   ·obtain ⟨o1,g1,_⟩:=h1;simp only[aD,aO,or_false] at hb;rcases hb with rfl | rfl
    ·exact ene.symm
    ·exact b9 (Heap.lt_size g1)
 done:=by
  intro X hP hw hK hc i pins s σ H E I hf st hg;subst hP hw hK;obtain ⟨⟨old,he⟩,h1⟩:=st;obtain ⟨xs,qx,hend⟩:=hg;obtain ⟨us,rx,px,_⟩:=I.list qx;have lx:=rx.length;refine wpAny_pyNext_enum_end (I.ok.hd hc) he h1 px.isList (by simp;lia) λh' hk=>⟨rfl,?_⟩
  exact I.moved (g':=s.gens) (d':=s.drawn) (t':=s.toks) (ch:=[e,it]) hf (λb o hb q=>hk b o (λz=>hb (by simp [z])) q) I.bare
 self:=λ_ _ _ _ _ st h=>let ⟨⟨_,he⟩,_⟩:=st;wpAny_pyIter_enum he h
section
variable {X:Cx}
def Kn (K:FG9) (ta:TA):TI:=λσ H R=>ta σ H λvs H1=>∃l,vs=[.ref l]/\(∃xs,bD K H1 l xs)/\R (L6 K l) H1
theorem Ea {a:Expr} {ta:TA} {p pos tpos:Pos} {elts:List Expr} {kk:Nat} (hg:Gl X "enumerate") (hm:X.mg "enumerate"=none) (ha:PA X [a] ta) (hs:starEach [a] X.env=[(false,eval a X.env)]:=by rfl) :
  PI X (.Tuple elts kk tpos) (.Call (.Name "enumerate" p) [a] [] pos) (Kn X.K ta):=by
 intro pins s σ H R I h;refine Call_ (gW I hg hm boot_enumerate (PyProof.Rows.callWith_type1 (eY (ha pos pins s σ H _ I h) λus s1 ⟨vs,H1,I1,r1,q1⟩=>?_) (by rw[hs];rfl) rfl));obtain ⟨l,e,⟨xs,qx⟩,q⟩:=q1;subst e;obtain ⟨u,rfl,ru⟩:=vals1 r1;cases ru;obtain ⟨us,rx,px,_⟩:=I1.list qx;refine call_enumerate_list px.isList λh' a1 a2 a3 hk=>wpAny_pyIter_enum a1 ?_
 have I2:Inv X pins σ H1 { s1 with heap:=h' }:=I1.kept (t':=s1.toks) hk;refine ⟨_,[s1.heap.objs.size+1,s1.heap.objs.size],_,_,H1,rfl,I2,ER (s1.heap.objs.size+1) s1.heap.objs.size l (Nat.succ_ne_self _),⟨⟨_,a1⟩,a2⟩,λb hb=>?_,q⟩
 have hb':s1.heap.objs.size<=b:=by
  simp only[aD,aO,or_false] at hb;rcases hb with rfl | rfl <;> first | exact oB _ | exact av _
 exact I1.fpOk hb' (I1.hok.fresh hb')
end
theorem Gv {K:FG9} (h:ta σ H λvs H1=>∃l,vs=[.ref l]/\(∃xs,bD K H1 l xs)/\R (L6 K l) H1):Kn K ta σ H R:=h
theorem HP {K:FG9} {g:TG} {tb:TS} {D:Ends} (Pv:Nat->St->Hp->Prop) (h0:Pv 0 σ H) (hl:∀i σ H,i<=xs.length->Pv i σ H->bD K H l xs)
  (hs:∀i x σ H p,xs[i]?=some x->Pv i σ H->H p=none->g (.ref p) σ (upd H p (.tup [.int i,x])) λσ2 H2=>tb { D with nx:=Pv (i+1),ct:=Pv (i+1),bk:=D.nx } σ2 H2) (hd:∀σ H,Pv xs.length σ H->D.nx σ H) :
  ∃W:Nat->Nat->St->Hp->Prop,(∃m,W 0 m σ H)/\∀i m σ H,W i m σ H →
   ((L6 K l).stop i H/\D.nx σ H)\/((L6 K l).go i H/\∃N:St->Hp->Prop,(∀σ' H',N σ' H'->∃m',m' < m/\W (i+1) m' σ' H')/\∀x H',(L6 K l).yld i H x H'->g x σ H' λσ2 H2=>tb { D with nx:=N,ct:=N,bk:=D.nx } σ2 H2):=by
 refine ⟨λi m σ H=>m=xs.length - i/\i<=xs.length/\Pv i σ H,⟨xs.length,by simp,bH _,h0⟩,?_⟩;rintro i m σ H ⟨rfl,hi,p⟩;have q1:=hl i σ H hi p;by_cases hlt:i < xs.length
 ·refine .inr ⟨⟨xs,xs[i],q1,by simp [hlt]⟩,Pv (i+1),λσ' H' p'=>⟨xs.length - (i+1),by lia,rfl,hlt,p'⟩,λx H' y=>?_⟩;obtain ⟨r,x',rfl,hr,rfl,e1⟩:=y;exact hs i x' σ _ r (e1 xs q1) p hr
 ·have e:i=xs.length:=by lia
  subst e;exact .inl ⟨⟨xs,q1,av _⟩,hd σ H p⟩
section
variable {X:Cx}
def Gz (K:FG9) (C:Addr):V->Hp->VK->Prop:=λx H Q=>∃t b,rS K H x t/\PySem.W.kitOne K t (.ref C)=some b/\Q (.bl b) H
theorem Lp {a:Expr} {ta:TE} {pos:Pos} {c:Str} {C:Addr} {p p2:Pos} (hg:Gl X "isinstance") (hm:X.mg "isinstance"=none) (hgc:Gl X c) (hmc:X.mg c=some (.ref C)) (ha:PE X a ta)
  (hd:(c == ("__debug__":Str))=false:=by decide) (he:starEach [a,.Name c p2] X.env=[(false,eval a X.env),(false,eval (.Name c p2) X.env)]:=by rfl)
  (hpl:(backTo pos (starEach [.Name c p2] X.env)).any (·.1)=false:=by rfl) (he2:starEach [.Name c p2] X.env=[(false,eval (.Name c p2) X.env)]:=by rfl):PE X (.Call (.Name "isinstance" p) [a,.Name c p2] [] pos) (Mc (Gz X.K C) ta):=by
 intro pins s σ H Q I h;refine wpAny_Call_Name_kw (gW I hg hm PyProof.Rows.boot_isinstance ?_);have hA:PA X [a,.Name c p2] (ie ta (ie (tC (.ref C)) wN)):=ae ha (ae (kG hgc hmc rfl hd) ai he2) (by rw[he,he2])
 have hq:ie ta (ie (tC (.ref C)) wN) σ H (λvs H1=>∃x,vs=[x,.ref C]/\Gz X.K C x H1 Q):=by
  show ta σ H λx H1=>∃x',[x,V.ref C]=[x',V.ref C]/\Gz X.K C x' H1 Q
  have e:(λx H1=>∃x',[x,V.ref C]=[x',V.ref C]/\Gz X.K C x' H1 Q)=λx H1=>Gz X.K C x H1 Q:=by
   funext x H1;apply propext;constructor
   ·rintro ⟨x',e,q⟩;cases e;exact q
   ·intro q;exact ⟨x,rfl,q⟩
  rw[e];exact h
 refine PyProof.Rows.callWith_builtin1 (eY (hA pos pins s σ H _ I hq) λus s1 ⟨vs,H1,I1,r1,x,e,q1⟩=>?_) (by rw[he,he2]) hpl;subst e;obtain ⟨u,w',rfl,ru,rt⟩:=vals2 r1;cases rt;obtain ⟨t,bb,ty,ek,q⟩:=q1;exact uD I1 ru ty ek λtk=>⟨.bl bb,H1,I1.tok tk,rfl,q⟩
end
theorem Lb {K:FG9} (h:ta σ H λx H1=>∃a C dx fs v,x=.ref a/\H1 a=some (.ins C dx fs)/\FK K C/\iP K C f/\fs.lookup f=some v/\Q v H1):My K ta f σ H Q:=h
theorem IX {K:FG9} (h:tv σ H λy H1=>ta σ H1 λx H2=>∃a C dx fs,x=.ref a/\H2 a=some (.ins C dx fs)/\FK K C/\iP K C f/\fs.length < 1000 /\
 D.nx σ (upd H2 a (.ins C dx (b6 f y fs)))):MF K ta tv f D σ H:=h
theorem Jb (h:ta σ H λx H1=>∃a dx fs,x=.ref a/\H1 a=some (.ins C dx fs)/\fs.lookup m=none /\
 t σ H1 λvs H2=>sp (x :: vs) H2 Q E):J7 C m sp [] E ta t σ H Q:=by
 have e:(λ(x:V) H1=>∃a dx fs,x=.ref a/\H1 a=some (.ins C dx fs)/\fs.lookup m=none/\t σ H1 λvs H2=>sp (x :: (vs++[])) H2 Q E)=λx H1=>∃a dx fs,x=.ref a/\H1 a=some (.ins C dx fs)/\fs.lookup m=none/\t σ H1 λvs H2=>sp (x :: vs) H2 Q E:=by
  funext x H1;simp only[jY]
 show ta σ H (λ(x:V) H1=>∃a dx fs,x=.ref a/\H1 a=some (.ins C dx fs)/\fs.lookup m=none/\t σ H1 λvs H2=>sp (x :: (vs++[])) H2 Q E)
 rw[e];exact h
theorem Jc (h:t σ H λvs H1=>∀x dx,H1 x=none->H1 dx=none->dx≠x →
 sp (.ref x :: vs) (upd (upd H1 dx (.own x)) x (.ins C dx [])) (λv H2=>v=.non/\Q (.ref x) H2) E):J8 C sp [] E t σ H Q:=by
 have e:(λvs (H1:Hp)=>∀x dx,H1 x=none->H1 dx=none->dx≠x->sp (.ref x :: (vs++[])) (upd (upd H1 dx (.own x)) x (.ins C dx [])) (λv H2=>v=.non/\Q (.ref x) H2) E)=λvs H1=>∀x dx,H1 x=none->H1 dx=none->dx≠x->sp (.ref x :: vs) (upd (upd H1 dx (.own x)) x (.ins C dx [])) (λv H2=>v=.non/\Q (.ref x) H2) E:=by
  funext vs H1;simp only[jY]
 show t σ H (λvs (H1:Hp)=>∀x dx,H1 x=none->H1 dx=none->dx≠x->sp (.ref x :: (vs++[])) (upd (upd H1 dx (.own x)) x (.ins C dx [])) (λv H2=>v=.non/\Q (.ref x) H2) E)
 rw[e];exact h
def Bg (x:Addr) (H H':Hp):Prop:=∀b o,H b=some o->b≠x->H' b=some o
theorem Bg.upd:Bg x H (L2.upd H x o):=λb u h n=>by rw[a9 n];exact h
def qU (H:Hp) (x:Addr):Prop:=∃C dx fs,H x=some (.ins C dx fs)
section
variable {K:FG9} {H H' H0:Hp} {q:Rat} {v:V} {x p:Addr} {qs:List Rat} {rows:LR9}
theorem bU.exc (h:bU K H q v) (e:Bg x H H') (hx:qU H x):bU K H' q v:=by
 obtain ⟨C,dx,fs,hx⟩:=hx;obtain ⟨r,er,s⟩:=h;refine ⟨r,er,?_⟩;rcases s with (h | ⟨o,h⟩) | h
 ·exact .inl (.inl (e _ _ h λz=>by rw[z,hx] at h;cases h))
 ·exact .inl (.inr ⟨o,e _ _ h λz=>by rw[z,hx] at h;cases h⟩)
 ·exact .inr h
theorem cM.exc (h:cM K H p qs) (e:Bg x H H') (hx:qU H x):cM K H' p qs:=by
 obtain ⟨xs,g,r⟩:=h;have hx':=hx;obtain ⟨C,dx,fs,hx⟩:=hx;exact ⟨xs,e _ _ g (λz=>by rw[z,hx] at g;cases g),Paired.imp' (λ_ _ z=>z.exc e hx') r⟩
theorem c4.exc (h:c4 K H0 H qs v) (e:Bg x H H') (hx:qU H x):c4 K H0 H' qs v:=by obtain ⟨q,a,b,c⟩:=h;exact ⟨q,a,b,c.exc e hx⟩
theorem bK.exc (h:bK K H0 H p rows) (e:Bg x H H') (hx:qU H x):bK K H0 H' p rows:=by
 obtain ⟨xs,g,r,n⟩:=h;have hx':=hx;obtain ⟨C,dx,fs,hx⟩:=hx;exact ⟨xs,e _ _ g (λz=>by rw[z,hx] at g;cases g),Paired.imp' (λ_ _ z=>z.exc e hx') r,n⟩
end
def jD (a b c:Addr) (n i o:Nat):List (Str×V):=b6 "outs" (.int o) (b6 "look" (.ref c) (b6 "ins" (.int i) (b6 "put" (.ref b) (b6 "states" (.int n) (b6 "move" (.ref a) [])))))
section
variable {a b c:Addr} {n i o:Nat}
theorem F2:(jD a b c n i o).lookup ("outs":Str)=some (.int o):=by
 unfold jD;rw[be,if_pos rfl]
theorem rZ:(jD a b c n i o).lookup ("look":Str)=some (.ref c):=by
 unfold jD;rw[be,if_neg (by decide +kernel),be,if_pos rfl]
theorem IL:(jD a b c n i o).lookup ("ins":Str)=some (.int i):=by
 unfold jD;rw[be,if_neg (by decide +kernel),be,if_neg (by decide +kernel),be,if_pos rfl]
theorem vX:(jD a b c n i o).lookup ("put":Str)=some (.ref b):=by
 unfold jD;rw[be,if_neg (by decide +kernel),be,if_neg (by decide +kernel),be,if_neg (by decide +kernel),be,if_pos rfl]
theorem rf:(jD a b c n i o).lookup ("states":Str)=some (.int n):=by
 unfold jD;rw[be,if_neg (by decide +kernel),be,if_neg (by decide +kernel),be,if_neg (by decide +kernel),be,if_neg (by decide +kernel),be,if_pos rfl]
theorem rY:(jD a b c n i o).lookup ("move":Str)=some (.ref a):=by
 unfold jD;rw[be,if_neg (by decide +kernel),be,if_neg (by decide +kernel),be,if_neg (by decide +kernel),be,if_neg (by decide +kernel),be,if_neg (by decide +kernel),be,if_pos rfl]
theorem F3 {m:Str} (h1:¬m="outs") (h2:¬m="look") (h3:¬m="ins") (h4:¬m="put") (h5:¬m="states") (h6:¬m="move"):(jD a b c n i o).lookup m=none:=by
 unfold jD;rw[be,if_neg h1,be,if_neg h2,be,if_neg h3,be,if_neg h4,be,if_neg h5,be,if_neg h6];rfl
theorem ES:(jD a b c n i o).lookup ("moved":Str)=none:=F3 (by decide +kernel) (by decide +kernel) (by decide +kernel) (by decide +kernel) (by decide +kernel) (by decide +kernel)
theorem F1:(jD a b c n i o).lookup ("seen":Str)=none:=F3 (by decide +kernel) (by decide +kernel) (by decide +kernel) (by decide +kernel) (by decide +kernel) (by decide +kernel)
end
theorem dq {k:Str} {v:V}:∀{l:List (Str×V)},(b6 k v l).length<=l.length+1
 | []=>av _
 | (x,y) :: r=>by
  unfold b6
  split
  ·simp
  ·have:=dq (k:=k) (v:=v) (l:=r);simp only[bw]
   lia
structure jX (mv pt lk:LR9):Prop where
 n8:mv.length<=8
 i4:pt.length<=4
 o4:lk.length<=4
 mw:∀xs∈mv,xs.length=mv.length
 pw:∀xs∈pt,xs.length=mv.length
 lw:∀xs∈lk,xs.length=mv.length
def zX (mv pt lk:LR9):Prop:=∃M V:Nat,0 < M/\M<=2^800/\V<=2^400/\GF M V mv/\GF M V pt/\GF M V lk
def jW (K:FG9) (H0 H:Hp) (C p:Addr) (mv pt lk:LR9):Prop:=∃dx a b c,H p=some (.ins C dx (jD a b c mv.length pt.length lk.length))/\H0 a=none/\H0 b=none/\H0 c=none/\bK K H0 H a mv/\bK K H0 H b pt/\bK K H0 H c lk
section
variable {K:FG9} {H H' H0 H1:Hp} {C p b:Addr} {mv pt lk:LR9}
theorem jW.same (h:jW K H0 H C p mv pt lk) (e:aE H H'):jW K H0 H' C p mv pt lk:=by obtain ⟨dx,a,b,c,g,n1,n2,n3,g1,g2,g3⟩:=h;exact ⟨dx,a,b,c,e _ _ g,n1,n2,n3,g1.same e,g2.same e,g3.same e⟩
theorem jW.upto (h:jW K H0 H C p mv pt lk) (u:cC b H H') (B:fD H b) (nb:H0 b≠none):jW K H0 H' C p mv pt lk:=by
 obtain ⟨dx,a,b',c,g,n1,n2,n3,g1,g2,g3⟩:=h;refine ⟨dx,a,b',c,u.other (λz=>by obtain ⟨_,_,_,_,_,e,_⟩:=B;rw[z,e] at g;cases g) g,n1,n2,n3,g1.upto u B (λz=>nb (by rw[<- z];exact n1)) nb,g2.upto u B (λz=>nb (by rw[<- z];exact n2)) nb,g3.upto u B (λz=>nb (by rw[<- z];exact n3)) nb⟩
theorem jW.weak (h:jW K H0 H C p mv pt lk) (e:aE H1 H0):jW K H1 H C p mv pt lk:=by obtain ⟨dx,a,b,c,g,n1,n2,n3,g1,g2,g3⟩:=h;exact ⟨dx,a,b,c,g,e.none n1,e.none n2,e.none n3,g1.weak e,g2.weak e,g3.weak e⟩
theorem zX.fits (h:zX mv pt lk) (hl:∀x∈l,(∃xs∈mv,x∈xs)\/(∃xs∈pt,x∈xs)\/(∃xs∈lk,x∈xs)\/x=0):Fits l:=by
 obtain ⟨M,V,h0,h1,h2,h3,h4,h5⟩:=h;refine ⟨M,V,h0,ar h1 (aw (by decide) (by decide)),ar h2 (aw (by decide) (by decide)),λx hx=>?_⟩;rcases hl x hx with ⟨xs,a,b⟩ | ⟨xs,a,b⟩ | ⟨xs,a,b⟩ | rfl
 ·exact h3 xs a x b
 ·exact h4 xs a x b
 ·exact h5 xs a x b
 ·exact Fr.zero
end
def EU:Sp:=λvs H Q _=>∃i:Int,vs=[.int i]/\Q (.bl true) H
def EY (K:FG9):Sp:=λvs H Q _=>∃x n,vs=[x]/\CO K H x n/\tQ n/\∀H',aE H H'->Q (.bl true) H'
inductive DY (vs:List V) (H:Hp) (Q:VK) (E9:XK):Prop
 | mk (p:Addr) (xs:List V) (a m:Int):vs=[.ref p,.int a,.int m]->H p=some (.lst xs)->(xs.length:Int)<=m->Q .non H->DY  vs H Q E9
inductive D4 (K:FG9) (vs:List V) (H:Hp) (Q:VK) (E9:XK):Prop
 | mk (p:Addr) (H0:Hp) (rows:LR9) (w:Nat):vs=[.ref p,.int w]->bK K H0 H p rows->rows.length<=1000->w<=1000->((∀xs∈rows,xs.length=w/\∀x∈xs,tQ (nm x)))->(∀r H',H r=none->aE H H'->bK K H H' r rows->Q (.ref r) H')->D4 K vs H Q E9
def FG (rows:LR9):Prop:=∀xs∈rows,∀x∈xs,tQ (nm x)
inductive D3 (K:FG9) (C:Addr) (vs:List V) (H:Hp) (Q:VK) (E9:XK):Prop
 | mk (x dx p q r:Addr) (Hb H0 H1 H2:Hp) (mv pt lk:LR9):vs=[.ref x,.ref p,.ref q,.ref r]->Hb x=none->Hb dx=none->dx≠x->H=upd (upd Hb dx (.own x)) x (.ins C dx [])->bK K H0 Hb p mv->bK K H1 Hb q pt->bK K H2 Hb r lk->jX mv pt lk->FG mv->FG pt->FG lk->(∀H',aE Hb H'->jW K Hb H' C x mv pt lk->Q .non H')->D3 K C vs H Q E9
def dE (mv pt:LR9) (st pu:List Rat):List Rat:=List.zipWith (λline col=>cZ (line++col) (st++pu)) mv (cm pt mv.length)
def seenQ (lk:LR9) (st:List Rat):List Rat:=lk.map λxs=>cZ xs st
theorem zX.ok (h:zX mv pt lk):FG mv/\FG pt/\FG lk :=
 ⟨λxs hx x hx'=>(h.fits (l:=xs) λy hy=>.inl ⟨xs,hx,hy⟩).ok hx',λxs hx x hx'=>(h.fits (l:=xs) λy hy=>.inr (.inl ⟨xs,hx,hy⟩)).ok hx',λxs hx x hx'=>(h.fits (l:=xs) λy hy=>.inr (.inr (.inl ⟨xs,hx,hy⟩))).ok hx'⟩
def eN (K:FG9) (A:Addr->Prop) (H:Hp) (n:Nat) (C:Rat->Prop) (x:V):Prop:=∃q qs,x=V.ref q/\A q/\cM K H q qs/\qs.length=n/\∀y∈qs,C y
section
variable {K:FG9} {A A':Addr->Prop} {H H' H0:Hp} {n:Nat} {C C':Rat->Prop} {x v:V} {q b l p:Addr} {xs zs:List V} {y:Rat} {o:HO}
theorem eN.same (h:eN K A H n C x) (e:aE H H'):eN K A H' n C x:=by obtain ⟨q,qs,a,c,r,z⟩:=h;exact ⟨q,qs,a,c,r.same e,z⟩
theorem eN.upto (h:eN K A H n C x) (u:cC b H H') (B:fD H b) (nb:¬A b):eN K A H' n C x:=by obtain ⟨q,qs,a,c,r,z⟩:=h;exact ⟨q,qs,a,c,r.upto u B (λe=>nb (by rw[<- e];exact c)),z⟩
theorem eN.other (h:eN K A H n C x) (hl:H l=some (.lst zs)) (nl:¬A l):eN K A (upd H l o) n C x:=by obtain ⟨q,qs,a,c,r,z⟩:=h;exact ⟨q,qs,a,c,r.updL hl (λe=>nl (by rw[<- e];exact c)),z⟩
theorem eN.weak (h:eN K A H n C x) (w:∀q,A q->A' q) (wc:∀y,C y->C' y):eN K A' H n C' x:=by obtain ⟨q,qs,a,c,r,l,z⟩:=h;exact ⟨q,qs,a,w q c,r,l,λy hy=>wc y (z y hy)⟩
theorem rG {α β:Type} {F:α->β->Prop} {a:α} {b:β} (h:F a b):∀{l1:List α} {l2:List β} (j:Nat),Paired F l1 l2->Paired F (l1.set j a) (l2.set j b)
 | _,_,_,.nil=>.nil
 | _,_,0,.cons _ t=>.cons h t
 | _,_,j+1,.cons r t=>.cons r (rG h j t)
theorem eN.put (h:eN K A H n C x) (hq:H q=some (.lst zs)) (hv:bU K H y v) (hc:C y) (j:Nat):eN K A (upd H q (.lst (zs.set j v))) n C x:=by
 obtain ⟨q1,qs,rfl,a,⟨zs1,g1,pr⟩,l1,c1⟩:=h;by_cases e:q1=q
 ·subst e;rw[hq] at g1;cases g1;refine ⟨q1,qs.set j y,rfl,a,⟨_,aG,rG (hv.updL hq) j (Paired.imp' (λ_ _ z=>z.updL hq) pr)⟩,by rw[dA];exact l1,λz hz=>?_⟩;rcases bE hz with hz | rfl
  ·exact c1 z hz
  ·exact hc
 ·exact ⟨q1,qs,rfl,a,⟨zs1,by rw[a9 e];exact g1,Paired.imp' (λ_ _ z=>z.updL hq) pr⟩,l1,c1⟩
theorem eN.at (h:eN K A H n C x):∃q zs qs,x=V.ref q/\A q/\H q=some (.lst zs)/\zs.length=n/\Paired (bU K H) qs zs/\qs.length=n/\∀y∈qs,C y:=by obtain ⟨q,qs,a,c,⟨zs,g,pr⟩,l,z⟩:=h;exact ⟨q,zs,qs,a,c,g,by rw[<- pr.length];exact l,pr,l,z⟩
end
theorem pG {i:Int} (h:i.natAbs<=W) (hW:1<=W):Dr W (i:Rat):=⟨h,hW⟩
def Nt (K:FG9) (A:Addr->Prop) (H:Hp) (n:Nat) (C:Rat->Prop) (p:Addr) (m:Nat):Prop:=∃us,H p=some (.lst us)/\us.length=m/\¬A p/\∀x∈us,eN K A H n C x
structure CP (A:Addr->Prop) (m p l b q0:Addr):Prop where
 am:¬A m
 ap:¬A p
 al:¬A l
 ab:¬A b
 aq:¬A q0
 mb:m≠b
 pb:p≠b
 lb:l≠b
 mp:m≠p
 ml:m≠l
 mq:m≠q0
theorem Er {M:Nat} {z:Int} (h:z.natAbs<=2):Fr 1 2 (z:Rat):=Fr.int h
theorem AY {z:Int} (hz:z.natAbs<=2) (ha:Fr M W a) (hc:Fr M W c):Fr M (3*W) (a+(z:Rat)*c):=by
 have h:=(Er (M:=M) hz).mul hc;rw[tS] at h;exact (ha.add h).mono (by lia)
theorem Ac {z:Int} (h:z.natAbs<=1000):ky (z:Rat):=DE (M:=1) (V:=1000) (by decide) (dP) (ar (show 1000<=2^10 by decide) (aw (by decide) (by decide))) (Fr.int h)
theorem wQ {z:Int} (hz:z.natAbs<=2) (hc:Fr M W c) (h0:0 < M) (h1:M<=2^800) (hW:W<=2^140):ky ((z:Rat)*c):=by
 have h:=(Er (M:=M) hz).mul hc;rw[tS] at h;refine DE h0 (ar h1 (aw (by decide) (by decide))) (ar (eL 2 hW) ?_) h;rw[show 2*2^140=2^141 by rw[fF,cB]];exact aw (by decide) (by decide)
def gB (A:Addr->Prop) (b m:Addr) (H H':Hp):Prop:=∀c u,H c=some u->c≠b->¬A c->c≠m->H' c=some u
theorem gB.same (h:gB A b m H H1) (s:aE H1 H2):gB A b m H H2:=λc u e n1 n2 n3=>s _ _ (h c u e n1 n2 n3)
theorem gB.upto (h:gB A b m H H1) (s:cC b H1 H2):gB A b m H H2:=λc u e n1 n2 n3=>s.1 _ _ (h c u e n1 n2 n3) n1
theorem gB.upd (h:gB A b m H H1) (hq:A q\/q=m):gB A b m H (L2.upd H1 q o):=λc u e n1 n2 n3=>by
 rw[a9]
 ·exact h c u e n1 n2 n3
 ·rintro rfl;rcases hq with hq | hq
  ·exact n2 hq
  ·exact n3 hq
theorem gB.new (h:gB A b m H H1) (hA:∀q,H q=none->A q) (B:fD H1 b) (hm:H1 m≠none) (hr:H1 r=none):A r:=by
 by_cases z:A r
 ·exact z
 ·cases e:H r with
  | none=>exact hA r e
  | some u =>
   have:=h r u e (λy=>B.at (by rw[<- y];exact hr)) z (λy=>hm (by rw[<- y];exact hr));rw[hr] at this;cases this
structure EG (K:FG9) (A:Addr->Prop) (n:Nat) (C:Rat->Prop) (r p b q0:Addr) (us:List V) (H0 H:Hp):Prop where
 gr:H r=some (.lst us)
 ru:∀x∈us,eN K A H n C x
 rp:eN K A H n C (.ref p)
 bag:fD H b
 inn:Inner H b q0
 up:cC b H0 H
section
variable {K:FG9} {A:Addr->Prop} {n:Nat} {C:Rat->Prop} {r p b q0:Addr} {us:List V} {H0 H H':Hp} {y:Rat} {v:V}
theorem EG.same (h:EG K A n C r p b q0 us H0 H) (e:aE H H'):EG K A n C r p b q0 us H0 H':=⟨e _ _ h.gr,λx hx=>(h.ru x hx).same e,h.rp.same e,h.bag.same e,(e.upto (p:=b)).2 _ h.inn,h.up.same e⟩
theorem EG.upto (h:EG K A n C r p b q0 us H0 H) (u:cC b H H') (B:fD H' b) (nb:¬A b) (rb:r≠b):EG K A n C r p b q0 us H0 H':=⟨u.other rb h.gr,λx hx=>(h.ru x hx).upto u h.bag nb,h.rp.upto u h.bag nb,B,u.2 _ h.inn,h.up.trans u⟩
theorem EG.put (h:EG K A n C r p b q0 us H0 H) (ap:A p) (nr:¬A r) (nb:¬A b) (nq:¬A q0) (hp:H0 p=none) (hv:bU K H y v) (hc:C y) (j:Nat):∃zs,H p=some (.lst zs)/\zs.length=n/\EG K A n C r p b q0 us H0 (upd H p (.lst (zs.set j v))):=by
 obtain ⟨q,zs,qs,e,a,g,l,_⟩:=h.rp.at;cases e;have ne:∀{z},¬A z->z≠p:=λh e=>h (by rw[e];exact ap)
 exact ⟨zs,g,l,by rw[a9 (ne nr)];exact h.gr,λx hx=>(h.ru x hx).put g hv hc j,h.rp.put g hv hc j,h.bag.upd h.inn (ne nb).symm (ne nq).symm,h.inn.upd (ne nb).symm,h.up.after hp⟩
end
theorem xu {K:FG9} (h:∀x∈us,eN K A H n C x):∃rows:LR9,Paired (λqs x=>∃q,x=V.ref q/\A q/\cM K H q qs) rows us/\rows.length=us.length/\∀qs∈rows,qs.length=n/\∀y∈qs,C y:=by
 induction us with
 | nil=>exact ⟨[],.nil,rfl,λ_ z=>nomatch z⟩
 | cons u us ih =>
  obtain ⟨rows,pr,l,hr⟩:=ih λx hx=>h x (.tail _ hx)
  obtain ⟨q,qs,e,a,r,l1,c⟩:=h u (.head _);refine ⟨qs :: rows,.cons ⟨q,e,a,r⟩ pr,by simp [l],λzs hz=>?_⟩;rcases aD.mp hz with rfl | hz
  ·exact ⟨l1,c⟩
  ·exact hr zs hz
theorem Dg {K:FG9} {rows:LR9} (pr:Paired (λqs x=>∃q,x=V.ref q/\A q/\cM K H q qs) rows us) (h:∀qs∈rows,qs.length=n/\∀y∈qs,C y):∀x∈us,eN K A H n C x:=λx hx=>by
 obtain ⟨qs,hq,q,e,a,r⟩:=cJ pr hx;exact ⟨q,qs,e,a,r,(h qs hq).1,(h qs hq).2⟩
theorem zv {n:Nat}:∀{rows:LR9},(∀xs∈rows,xs.length=n)->rows.flatten.length=rows.length*n
 | [],_=>by simp
 | xs :: rows,h=>by
  rw[kX,az,h xs (.head _),zv λys hy=>h ys (.tail _ hy),bw,wG,Nat.add_comm]
theorem D7 {rows:LR9} (h:∀qs∈rows,qs.length=n/\∀y∈qs,Dr (2^c) y):∃M:Nat,0 < M/\M<=2^(c*(rows.length*n))/\∀qs∈rows,∀y∈qs,Fr M (2^c) y:=by
 have fl:rows.flatten.length=rows.length*n:=zv λys hy=>(h ys hy).1
 have hm:∀a∈rows.flatten.map (·.den),0 < a/\a<=2^c:=λa ha=>by
  obtain ⟨y,hy,rfl⟩:=aA.mp ha;obtain ⟨qs,hq,hy⟩:=List.mem_flatten.mp hy;exact ⟨y.den_pos,((h qs hq).2 y hy).2⟩
 refine ⟨zc (rows.flatten.map (·.den)),za λa ha=>(hm a ha).1,?_,λqs hq y hy=>?_⟩
 ·have:=Cg (k:=c) (l:=rows.flatten.map (·.den)) λa ha=>(hm a ha).2
  rwa [ag,fl] at this
 ·exact (Fr.own y ((h qs hq).2 y hy).1).dvd (zb (aA.mpr ⟨y,List.mem_flatten.mpr ⟨qs,hq,hy⟩,rfl⟩))
theorem jk {K:FG9} (h:Nt K A H n C p m) (w:∀q,A q->H0 q=none):∃rows,bK K H0 H p rows/\rows.length=m/\∀qs∈rows,qs.length=n/\∀y∈qs,C y:=by
 obtain ⟨us,g,l,a,r⟩:=h;obtain ⟨rows,pr,lr,hr⟩:=xu r;refine ⟨rows,⟨us,g,Paired.imp' (λ_ _ ⟨q,e,aq,rq⟩=>⟨q,e,w q aq,rq⟩) pr,λhm=>?_⟩,by rw[lr,l],hr⟩;obtain ⟨q,_,e,aq,_⟩:=r _ hm;cases e;exact a aq
theorem gB.trans (h:gB A b m H H1) (h':gB A b m H1 H2):gB A b m H H2:=λc u e n1 n2 n3=>h' c u (h c u e n1 n2 n3) n1 n2 n3
theorem Gj {K:FG9} {rows:LR9} (pr:Paired (c4 K H0 H) rows us) (h:∀qs∈rows,qs.length=n/\∀y∈qs,C y) (w:∀q,V.ref q∈us->H0 q=none->H q≠none->A q):∀x∈us,eN K A H n C x:=λx hx=>by
 obtain ⟨qs,hq,q,e,a,r⟩:=cJ pr hx;subst e;exact ⟨q,qs,rfl,w q hx a (by obtain ⟨_,g,_⟩:=r;rw[g];simp),r,(h qs hq).1,(h qs hq).2⟩
def EW:Sp:=λvs H Q _=>∃b,vs=[.ref b]/\fD H b/\∀r (n i o w:Nat) H',H' r=some (.tup [.int n,.int i,.int o,.int w])->n<=5->i<=4->o<=4->(w=4\/w=9\/(w=1000000/\n<=2))->(n=5->i<=2/\o<=2)->fD H' b->cC b H H'->Q (.ref r) H'
def eh (K:FG9) (H0 H:Hp) (r:Addr) (mv pt lk:LR9):Prop:=∃m p l,H r=some (.tup [.ref m,.ref p,.ref l])/\H0 m=none/\H0 p=none/\H0 l=none/\bK K H0 H m mv/\bK K H0 H p pt/\bK K H0 H l lk
section
variable {K:FG9} {H H' H0 H1:Hp} {r b:Addr} {mv pt lk:LR9}
theorem eh.same (h:eh K H0 H r mv pt lk) (e:aE H H'):eh K H0 H' r mv pt lk:=by obtain ⟨m,p,l,g,n1,n2,n3,g1,g2,g3⟩:=h;exact ⟨m,p,l,e _ _ g,n1,n2,n3,g1.same e,g2.same e,g3.same e⟩
theorem eh.upto (h:eh K H0 H r mv pt lk) (u:cC b H H') (B:fD H b) (nb:H0 b≠none):eh K H0 H' r mv pt lk:=by
 obtain ⟨m,p,l,g,n1,n2,n3,g1,g2,g3⟩:=h;exact ⟨m,p,l,u.tup B g,n1,n2,n3,g1.upto u B (λz=>nb (by rw[<- z];exact n1)) nb,g2.upto u B (λz=>nb (by rw[<- z];exact n2)) nb,g3.upto u B (λz=>nb (by rw[<- z];exact n3)) nb⟩
theorem eh.weak (h:eh K H0 H r mv pt lk) (e:∀q,H0 q=none->H1 q=none):eh K H1 H r mv pt lk:=by
 obtain ⟨m,p,l,g,n1,n2,n3,⟨x1,y1,z1,w1⟩,⟨x2,y2,z2,w2⟩,⟨x3,y3,z3,w3⟩⟩:=h;exact ⟨m,p,l,g,e _ n1,e _ n2,e _ n3,⟨x1,y1,Paired.imp' (λ_ _ ⟨q,a,b,c⟩=>⟨q,a,e _ b,c⟩) z1,w1⟩,⟨x2,y2,Paired.imp' (λ_ _ ⟨q,a,b,c⟩=>⟨q,a,e _ b,c⟩) z2,w2⟩,⟨x3,y3,Paired.imp' (λ_ _ ⟨q,a,b,c⟩=>⟨q,a,e _ b,c⟩) z3,w3⟩⟩
end
inductive wV (K:FG9) (C:Addr) (vs:List V) (H:Hp) (Q:VK) (E9:XK):Prop
 | mk (r:Addr) (H0:Hp) (mv pt lk:LR9):vs=[.ref r]->eh K H0 H r mv pt lk->jX mv pt lk->zX mv pt lk->(∀x H',H x=none->aE H H'->jW K H H' C x mv pt lk->Q (.ref x) H')->wV K C vs H Q E9
def nextK (mv pt:LR9) (st pu:List Rat) (k:Nat):List Rat:=List.zipWith (λline col=>cZ (line++col.take k) (st++pu.take k)) mv (cm pt mv.length)
theorem gY {st pu:List Rat}:(nextK mv pt st pu k).length=mv.length:=by unfold nextK;rw[bG,cV];lia
theorem pX {st pu:List Rat} (h1:pt.length<=k) (h2:pu.length<=k):nextK mv pt st pu k=dE mv pt st pu:=by
 unfold nextK dE;apply iS;intro i;rw[bO,bO];cases e1:mv[i]? with
 | none=>rfl
 | some line =>
  cases e2:(cm pt mv.length)[i]? with
  | none=>rfl
  | some col =>
   have:=pT col (ao e2);show some _=some _
   rw[aJ (by lia),aJ h2]
theorem DT (h:i < w):(cm rows w)[i]?=some (rows.map λxs=>xs.getD i 0):=by
 unfold cm;rw[aB,cO h];rfl
theorem Dt {st pu:List Rat}:nextK mv pt st pu 0=mv.map λxs=>cZ xs st:=by
 unfold nextK;apply iS;intro i;rw[bO,aB];by_cases hi:i < mv.length
 ·rw[DT hi,af hi];simp
 ·rw[bp (by lia)];rfl
theorem xI {st pu:List Rat} (hi:i < mv.length):(nextK mv pt st pu k).getD i 0=cZ (mv[i]++(pt.map λxs=>xs.getD i 0).take k) (st++pu.take k):=by
 rw[aa];unfold nextK;rw[bO,af hi,DT hi];rfl
theorem pH (h:as.length=xs.length):cZ (as++bs) (xs++ys)=cZ as xs+cZ bs ys:=by
 unfold cZ;rw[List.zipWith_append h,List.sum_append]
theorem Dv {st pu:List Rat} (hm:∀xs∈mv,xs.length=st.length) (h1:k < pt.length) (h2:k < pu.length) (hw:(pt[k]).length=mv.length) :
  List.zipWith (λx y=>x+y) (nextK mv pt st pu k) ((pt[k]).map λy=>pu[k]*y)=nextK mv pt st pu (k+1):=by
 have l1:((pt[k]).map λy=>pu[k]*y).length=mv.length:=by rw[ag,hw]
 rw[yQ (by rw[l1,gY])];apply iS;intro i;rw[aB,gY];by_cases hi:i < mv.length
 ·have e0:(nextK mv pt st pu (k+1))[i]?=some ((nextK mv pt st pu (k+1)).getD i 0):=by
   rw[aa,af (by rw[gY];exact hi)];rfl
  rw[cO hi,e0,xI hi];have ll:=hm mv[i] (aS hi);have ec:(pt.map λxs=>xs.getD i 0)[k]?=some ((pt[k]).getD i 0):=by rw[aB,af h1];rfl
  have ep:pu[k]?=some pu[k]:=af h2
  have e3:((pt[k]).map λy=>pu[k]*y).getD i 0=pu[k]*(pt[k]).getD i 0:=by
   rw[getD_map (by rw[hw];exact hi),aa,af (by rw[hw];exact hi)];rfl
  show some ((nextK mv pt st pu k).getD i 0+((pt[k]).map λy=>pu[k]*y).getD i 0)=some _
  rw[xI hi,e3,take_snoc ec,take_snoc ep,pH ll,pH ll,pH (by rw[bY,bY,ag];lia)];have:cZ [(pt[k]).getD i 0] [pu[k]]=(pt[k]).getD i 0*pu[k]:=by simp [cZ,Rat.add_zero]
  rw[this];congr 1;grind
 ·rw[bp (by simpa using hi),bp (by rw[gY];lia)];rfl
theorem Hq {K:FG9}:PySem.W.kitOne K (.ref C) (.ref C)=some true:=by
 unfold PySem.W.kitOne;rw[if_pos (by simp)]
theorem Fi {st pu:List Rat}:(dE mv pt st pu).length=mv.length:=by unfold dE;rw[bG,cV];lia
def iV (J:Addr->Prop) (H H':Hp):Prop:=∀c u,H c=some u->(J c->∀xs,u≠.lst xs)->H' c=some u
section
variable {K:FG9} {J J':Addr->Prop} {H H' H1 H0:Hp} {C p b x:Addr} {mv pt lk rows:LR9} {qs:List Rat}
theorem iV.of (e:aE H H'):iV J H H':=λc u h _=>e c u h
theorem iV.trans (a:iV J H H1) (b:iV J H1 H'):iV J H H':=λc u h n=>b c u (a c u h n) n
theorem iV.set (h:H p=some (.lst xs)) (hJ:J p):iV J H (upd H p (.lst ys)):=λc u e n=>by
 by_cases z:c=p
 ·subst z;rw[h] at e;cases e;exact absurd rfl (n hJ xs)
 ·rw[a9 z];exact e
theorem iV.sqt (k:iV J H H') (h:kz K H a xs):kz K H' a xs:=by
 rcases h with (h | ⟨o,h⟩) | h
 ·exact .inl (.inl (k _ _ h λ_ _ z=>nomatch z))
 ·exact .inl (.inr ⟨o,k _ _ h λ_ _ z=>nomatch z⟩)
 ·exact .inr h
theorem bU.keepL {x:V} (h:bU K H q x) (k:iV J H H'):bU K H' q x:=by obtain ⟨p,e,s⟩:=h;exact ⟨p,e,k.sqt s⟩
theorem cM.keepL (h:cM K H p qs) (k:iV J H H') (n:¬J p):cM K H' p qs:=by obtain ⟨xs,g,r⟩:=h;exact ⟨xs,k _ _ g λz=>absurd z n,Paired.imp' (λ_ _ z=>z.keepL k) r⟩
theorem bK.keepL (h:bK K H0 H p rows) (k:iV J H H') (n:H0 p=none) (hJ:∀q,H0 q=none->¬J q):bK K H0 H' p rows:=by obtain ⟨xs,g,r,nn⟩:=h;exact ⟨xs,k _ _ g λz=>absurd z (hJ p n),Paired.imp' (λ_ _ ⟨q,a,b,c⟩=>⟨q,a,b,c.keepL k (hJ q b)⟩) r,nn⟩
theorem jW.keepL (h:jW K H0 H C p mv pt lk) (k:iV J H H') (hJ:∀q,H0 q=none->¬J q):jW K H0 H' C p mv pt lk:=by
 obtain ⟨dx,a,b,c,g,n1,n2,n3,g1,g2,g3⟩:=h;exact ⟨dx,a,b,c,k _ _ g (λ_ _ z=>by cases z),n1,n2,n3,g1.keepL k n1 hJ,g2.keepL k n2 hJ,g3.keepL k n3 hJ⟩
end
def rT (k j:Nat) (l:List Rat):Prop:=∃M V:Nat,0 < M/\M<=2^k/\V<=2^j/\∀x∈l,Fr M V x
section
variable {k j k' j':Nat} {l xs ys:List Rat} {x y:Rat}
theorem rT.szn (h:rT k j l) (hx:x∈l) (hk:k+j<=3950:=by decide):ky x:=by
 obtain ⟨M,V,h0,h1,h2,h3⟩:=h;obtain ⟨a,b⟩:=(h3 x hx).sz h0 h1 h2;exact ⟨a.mono (by lia),b.mono (by lia)⟩
theorem rT.rowM (h:rT k j l) (hk:k+j<=4200:=by decide):∃M,DM M (l.map nm):=by
 obtain ⟨M,V,h0,h1,h2,h3⟩:=h;refine ⟨M,by lia,?_,λn hn=>?_⟩
 ·show ((M:Nat):Int).natAbs < 2^4400
  rw[cI];exact bc h1 (d4 (by decide) (by lia))
 ·obtain ⟨x,hx,rfl⟩:=aA.mp hn;obtain ⟨a,_⟩:=(h3 x hx).sz h0 h1 h2;exact ⟨fO x,(h3 x hx).den,a.mono (by lia)⟩
theorem rT.one (h:rT k j l) (hx:x∈l):rT k j [x]:=by
 obtain ⟨M,V,h0,h1,h2,h3⟩:=h;exact ⟨M,V,h0,h1,h2,λy hy=>by rw[ck.mp hy];exact h3 x hx⟩
theorem HX (h:rT k j xs) (h':rT k' j' ys) (hl:xs.length<=1000) (i:Nat) (hk:(k+k')+(j+j')<=3930:=by decide):ky (cZ (xs.take i) (ys.take i)):=by
 obtain ⟨M,V,h0,h1,h2,h3⟩:=h;obtain ⟨N,W,k0,k1,k2,k3⟩:=h'
 have e:1000*(V*W)<=2^(10+(j+j')):=by
  rw[bS 2 10];exact bf (by decide) (ar (bf h2 k2) (by rw[<- bS];exact av _))
 obtain ⟨a,b⟩:=((Fr.dot (λx hx=>h3 x (cf hx)) (λy hy=>k3 y (cf hy))).mono (aN _ (show (xs.take i).length<=1000 by rw[bY];lia))).sz (bQ h0 k0) (ar (bf h1 k1) (by rw[<- bS];exact av _)) e;exact ⟨a.mono (by lia),b.mono (by lia)⟩
theorem GR (hx:rT k j [x]) (hy:rT k' j' [y]) (hk:(k+k')+(j+j')<=3930:=by decide):ky (x*y):=by
 obtain ⟨M,V,h0,h1,h2,h3⟩:=hx;obtain ⟨N,W,k0,k1,k2,k3⟩:=hy;obtain ⟨a,b⟩:=((h3 x (.head _)).mul (k3 y (.head _))).sz (bQ h0 k0) (ar (bf h1 k1) (by rw[<- bS];exact av _)) (ar (bf h2 k2) (by rw[<- bS];exact av _));exact ⟨a.mono (by lia),b.mono (by lia)⟩
def uK (xs ys:List Rat):Prop:=∃k j k' j':Nat,rT k j xs/\rT k' j' ys/\(k+k')+(j+j')<=3930
end
def Me (mv pt lk:LR9):Prop:=∃M V:Nat,0 < M/\M<=2^400/\V<=2^120/\GF M V mv/\GF M V pt/\GF M V lk
section
variable {mv pt lk:LR9}
theorem Me.sf (h:Me mv pt lk):zX mv pt lk:=by obtain ⟨M,V,a,b,c,d⟩:=h;exact ⟨M,V,a,ar b (aw (by decide) (by decide)),ar c (aw (by decide) (by decide)),d⟩
end
inductive Af (K:FG9) (vs:List V) (H:Hp) (Q:VK) (E9:XK):Prop
 | mk (p q:Addr) (xs ys:List Rat):vs=[.ref p,.ref q]->cM K H p xs->cM K H q ys->ys.length=xs.length->xs.length<=1000->uK xs ys->(∀r H',aE H H'->bU K H' (cZ xs ys) (.ref r)->Q (.ref r) H')->Af K vs H Q E9
inductive Ae (K:FG9) (vs:List V) (H:Hp) (Q:VK) (E9:XK):Prop
 | mk (p q:Addr) (H0:Hp) (rows:LR9) (ys:List Rat):vs=[.ref p,.ref q]->bK K H0 H p rows->cM K H q ys->rows.length<=1000->ys.length<=1000->((∀xs∈rows,xs.length=ys.length/\uK xs ys))->(∀r H',H r=none->aE H H'->cM K H' r (rows.map λxs=>cZ xs ys)->Q (.ref r) H')->Ae K vs H Q E9
def Ad (mv pt:LR9) (st:List Rat) (pus:LR9) (k:Nat):List Rat:=(pus.take k).foldl (dE mv pt) st
section
variable {mv pt lk pus:LR9} {st:List Rat} {k:Nat}
theorem sD (h:pus[k]?=some pu):Ad mv pt st pus (k+1)=dE mv pt (Ad mv pt st pus k) pu:=by
 unfold Ad;rw[take_snoc h,List.foldl_append];rfl
theorem DX (h:st.length=mv.length):∀{k:Nat},k<=pus.length->(Ad mv pt st pus k).length=mv.length
 | 0,_=>h
 | k+1,hk=>by rw[sD (af (show k < pus.length by lia)),Fi]
end
def LL (N:Addr->Prop) (B:Nat) (H:Hp) (p:Addr) (xs:List V):Prop:=H p=some (.lst xs)/\∀x∈xs,∃q zs,x=V.ref q/\N q/\q≠p/\H q=some (.lst zs)/\zs.length<=B
theorem LL.of {K:FG9} (h:bK K H0 H p rows) (hB:∀xs∈rows,xs.length<=B) (hN:∀q,H0 q=none->H q≠none->N q):∃xs,LL N B H p xs/\xs.length=rows.length:=by
 obtain ⟨xs,g,r,nn⟩:=h;refine ⟨xs,⟨g,λx hx=>?_⟩,r.length.symm⟩;obtain ⟨qs,hq,q,e,nq,zs,gq,rq⟩:=cJ r hx;exact ⟨q,zs,e,hN q nq (by rw[gq];exact λz=>nomatch z),λz=>nn (by rw[<- z,<- e];exact hx),gq,by rw[<- rq.length];exact hB qs hq⟩
theorem LL.upd {N:Addr->Prop} {B B':Nat} {H:Hp} {p q:Addr} {xs ws:List V} (h:LL N B H p xs) (n:q≠p) (hb:B<=B') (hw:ws.length<=B'):LL N B' (upd H q (.lst ws)) p xs:=by
 refine ⟨by rw[a9 (Ne.symm n)];exact h.1,λx hx=>?_⟩;obtain ⟨q',zs,e,a,b,g,l⟩:=h.2 x hx;by_cases z:q'=q
 ·subst z;exact ⟨q',ws,e,a,b,aG,hw⟩
 ·exact ⟨q',zs,e,a,b,by rw[a9 z];exact g,by lia⟩
theorem LL.same (h:LL N B H p xs) (e:aE H H'):LL N B H' p xs:=⟨e _ _ h.1,λx hx=>let ⟨q,zs,a,b,c,d,l⟩:=h.2 x hx;⟨q,zs,a,b,c,e _ _ d,l⟩⟩
theorem MD {i:Int} (h:i=0\/i=1):Fr 1 1 (i:Rat):=Fr.int (by rcases h with rfl | rfl <;> decide)
theorem qq {α β:Type} {F:α->β->Prop}:∀{l1:List α} {l2:List β} (_:Paired F l1 l2) (k:Nat),Paired F (l1.drop k) (l2.drop k)
 | _,_,h,0=>h
 | _,_,.nil,_+1=>.nil
 | _,_,.cons _ r,k+1=>qq r k
end L2
namespace L2
abbrev jI:=Nat->Rat
def AO (F:List jI->Rat) (r:Nat):List jI->List jI->Rat->Rat
 | _,[],_=>0
 | pre,v :: post,s=>s*v r*F (pre++post)+AO F r (pre++[v]) post (-s)
def rV:List Nat->List jI->Rat
 | [],[]=>1
 | [],_ :: _=>0
 | r :: rs,vs=>AO (λws=>rV rs ws) r [] vs 1
theorem A0:rV [] (a++x :: b)=0:=by
 cases a <;> rfl
theorem AN {F:List jI->Rat} {r:Nat} {f g h:jI} {x y:Rat} (hF:∀a b,F (a++h :: b)=x*F (a++f :: b)+y*F (a++g :: b)):∀(b p q:List jI) (s:Rat),AO F r (p++h :: q) b s=x*AO F r (p++f :: q) b s+y*AO F r (p++g :: q) b s
 | [],p,q,s=>by simp only[AO,Rat.mul_zero,Rat.add_zero]
 | v :: b,p,q,s=>by
  have i1:=hF p (q++b);have i2:=AN (r:=r) hF b p (q++[v]) (-s);simp only[AO,bX,dQ] at i1 i2 ⊢;rw[i1,i2];grind
theorem Ej {F:List jI->Rat} {r:Nat} {f g h:jI} {x y:Rat} (hF:∀a b,F (a++h :: b)=x*F (a++f :: b)+y*F (a++g :: b)) (hr:h r=x*f r+y*g r):∀(a pre b:List jI) (s:Rat),AO F r pre (a++h :: b) s=x*AO F r pre (a++f :: b) s+y*AO F r pre (a++g :: b) s
 | [],pre,b,s=>by
  have i2:=AN (r:=r) hF b pre [] (-s);simp only[AO,cL] at i2 ⊢;rw[i2,hr];grind
 | v :: a,pre,b,s=>by
  have i1:=hF (pre++a) b;have i2:=Ej hF hr a (pre++[v]) b (-s);simp only[AO,bX,dQ] at i1 i2 ⊢;rw[i1,i2];grind
theorem rR {f g h:jI} {x y:Rat}:∀{rs:List Nat},(∀r∈rs,h r=x*f r+y*g r)->∀a b,rV rs (a++h :: b)=x*rV rs (a++f :: b)+y*rV rs (a++g :: b)
 | [],_,a,b=>by rw[A0,A0,A0];grind
 | r :: rs,hr,a,b=>Ej (λa b=>rR (λr' h'=>hr r' (.tail _ h')) a b) (hr r (.head _)) a [] b 1
theorem Et (hr:∀r∈rs,h r=0) (a b:List jI):rV rs (a++h :: b)=0:=by
 rw[rR (f:=h) (g:=h) (x:=0) (y:=0) (λr h'=>by rw[hr r h'];grind) a b];grind
theorem Ek {F:List jI->Rat} {r:Nat} {x:jI} (hF:∀a b,F (a++x :: x :: b)=0):∀(b p q:List jI) (s:Rat),AO F r (p++x :: x :: q) b s=0
 | [],p,q,s=>rfl
 | v :: b,p,q,s=>by
  have i1:=hF p (q++b);have i2:=Ek (r:=r) hF b p (q++[v]) (-s);simp only[AO,bX,dQ] at i1 i2 ⊢;rw[i1,i2];grind
theorem El {F:List jI->Rat} {r:Nat} {x:jI} (hF:∀a b,F (a++x :: x :: b)=0):∀(a pre b:List jI) (s:Rat),AO F r pre (a++x :: x :: b) s=0
 | [],pre,b,s=>by
  have i2:=Ek (r:=r) hF b pre [] (- -s);simp only[AO,cL,bX,dQ] at i2 ⊢;rw[i2];grind
 | v :: a,pre,b,s=>by
  have i1:=hF (pre++a) b;have i2:=El (r:=r) hF a (pre++[v]) b (-s);simp only[AO,bX,dQ] at i1 i2 ⊢;rw[i1,i2];grind
theorem xW {x:jI}:∀{rs:List Nat} (a b:List jI),rV rs (a++x :: x :: b)=0
 | [],a,b=>A0
 | r :: rs,a,b=>El (λa b=>xW a b) a [] b 1
theorem JF (a b:List jI):rV rs (a++x :: y :: b)=- rV rs (a++y :: x :: b):=by
 have hr:∀r∈rs,(λr=>1*x r+1*y r) r=1*x r+1*y r:=λ_ _=>rfl
 have h0:=xW (x:=λr=>1*x r+1*y r) (rs:=rs) a b;have h1:=rR hr a ((λr=>1*x r+1*y r) :: b);have h2:=rR hr (a++[x]) b;have h3:=rR hr (a++[y]) b;have h4:=xW (x:=x) (rs:=rs) a b;have h5:=xW (x:=y) (rs:=rs) a b;simp only[bX,dQ,cL] at h0 h1 h2 h3 h4 h5;rw[h1,h2,h3,h4,h5] at h0;grind
theorem A1 {x:jI} {rs:List Nat}:∀(b a c:List jI),rV rs (a++x :: (b++x :: c))=0
 | [],a,c=>xW a c
 | y :: b,a,c=>by
  have:=A1 (x:=x) (rs:=rs) b (a++[y]) c;simp only[bX,dQ,cL] at this;rw[dQ,JF,this];rfl
def bL:Nat->(Nat->Rat)->Rat
 | 0,_=>0
 | k+1,f=>bL k f+f k
theorem aM {f g:Nat->Rat}:∀{k:Nat},(∀j,j < k->f j=g j)->bL k f=bL k g
 | 0,_=>rfl
 | k+1,h=>by
  show bL k f+f k=bL k g+g k
  rw[aM λj hj=>h j (by lia),h k (by lia)]
theorem oJ {f g:Nat->Rat}:∀{k:Nat},bL k (λj=>f j+g j)=bL k f+bL k g
 | 0=>by show (0:Rat)=0+0;grind
 | k+1=>by
  show bL k (λj=>f j+g j)+_=(bL k f+f k)+(bL k g+g k)
  rw[oJ];grind
theorem cN {f:Nat->Rat} {c:Rat}:∀{k:Nat},bL k (λj=>c*f j)=c*bL k f
 | 0=>by show (0:Rat)=c*0;grind
 | k+1=>by
  show bL k (λj=>c*f j)+_=c*(bL k f+f k)
  rw[cN];grind
theorem eP {f:Nat->Rat}:∀{k:Nat},(∀j,j < k->f j=0)->bL k f=0
 | 0,_=>rfl
 | k+1,h=>by
  show bL k f+f k=0
  rw[eP λj hj=>h j (by lia),h k (by lia)];grind
theorem j5 {f:Nat->Rat} {i:Nat}:∀{k:Nat},i < k->(∀j,j < k->j≠i->f j=0)->bL k f=f i
 | k+1,hi,h=>by
  show bL k f+f k=f i
  by_cases e:i=k
  ·subst e;rw[eP λj hj=>h j (by lia) (by lia)];grind
  ·rw[j5 (by lia) λj hj=>h j (by lia),h k (by lia) (λz=>e z.symm)];grind
theorem fU {f:Nat->Nat->Rat} {m:Nat}:∀{k:Nat},bL k (λi=>bL m (f i))=bL m (λj=>bL k λi=>f i j)
 | 0=>(eP λ_ _=>rfl).symm
 | k+1=>by
  show bL k (λi=>bL m (f i))+bL m (f k)=bL m (λj=>bL k (λi=>f i j)+f k j)
  rw[fU,oJ]
theorem DH {rs:List Nat} {W:jI} {v:Nat->jI} {c:Nat->Rat} (a b:List jI):∀{k:Nat} {W:jI},(∀r∈rs,W r=bL k λj=>c j*v j r)->rV rs (a++W :: b)=bL k λj=>c j*rV rs (a++v j :: b)
 | 0,W,h=>Et h a b
 | k+1,W,h=>by
  rw[rR (f:=λr=>bL k λj=>c j*v j r) (g:=v k) (x:=1) (y:=c k) (λr hr=>by rw[h r hr];show bL k _+_=_;grind) a b,DH a b (k:=k) (W:=λr=>bL k λj=>c j*v j r) λr _=>rfl];show _=bL k _+_
  grind
end L2
namespace L2
open Nm
def Bh (f:Nat->Nat):Nat->List Nat
 | 0=>[]
 | k+1=>f k :: Bh f k
def qL (v:Nat->jI):Nat->List jI
 | 0=>[]
 | k+1=>v k :: qL v k
def Ih (v:Nat->jI) (i:Nat):Nat->List jI
 | 0=>[]
 | k+1=>if k<=i then [] else v k :: Ih v i k
theorem uk {f:Nat->Nat}:∀{k:Nat},(Bh f k).length=k
 | 0=>rfl
 | k+1=>by show (Bh f k).length+1=_;rw[uk]
theorem cw_len {v:Nat->jI}:∀{k:Nat},(qL v k).length=k
 | 0=>rfl
 | k+1=>by show (qL v k).length+1=_;rw[cw_len]
theorem ph {f:Nat->Nat} {r:Nat}:∀{k:Nat},r∈Bh f k->∃t,t < k/\r=f t
 | k+1,h=>by
  rcases aD.mp h with h | h
  ·exact ⟨k,by lia,h⟩
  ·obtain ⟨t,a,b⟩:=ph h;exact ⟨t,by lia,b⟩
theorem xv {f g:Nat->Nat}:∀{k:Nat},(∀j,j < k->f j=g j)->Bh f k=Bh g k
 | 0,_=>rfl
 | k+1,h=>by
  show f k :: Bh f k=g k :: Bh g k
  rw[h k (by lia),xv λj hj=>h j (by lia)]
theorem cw_congr {f g:Nat->jI}:∀{k:Nat},(∀j,j < k->f j=g j)->qL f k=qL g k
 | 0,_=>rfl
 | k+1,h=>by
  show f k :: qL f k=g k :: qL g k
  rw[h k (by lia),cw_congr λj hj=>h j (by lia)]
theorem cw_mem {v:Nat->jI} {j:Nat}:∀{k:Nat},j < k->v j∈qL v k
 | k+1,h=>by
  by_cases e:j=k
  ·subst e;exact .head _
  ·exact .tail _ (cw_mem (by lia))
theorem cw_in {v:Nat->jI} {x:jI}:∀{k:Nat},x∈qL v k->∃t,t < k/\x=v t
 | k+1,h=>by
  rcases aD.mp h with h | h
  ·exact ⟨k,by lia,h⟩
  ·obtain ⟨t,a,b⟩:=cw_in h;exact ⟨t,by lia,b⟩
theorem Ig {v:Nat->jI} {i j:Nat} (h1:i < j):∀{k:Nat},j < k->v j∈Ih v i k
 | k+1,h=>by
  show v j∈if k<=i then [] else v k :: Ih v i k
  rw[if_neg (by lia)];by_cases e:j=k
  ·subst e;exact .head _
  ·exact .tail _ (Ig h1 (by lia))
theorem EA {v:Nat->jI} {i:Nat} {x:jI}:∀{k:Nat},x∈Ih v i k->∃t,t < k/\x=v t
 | k+1,h=>by
  have h:x∈if k<=i then [] else v k :: Ih v i k:=h
  split at h
  ·cases h
  ·rcases aD.mp h with h | h
   ·exact ⟨k,by lia,h⟩
   ·obtain ⟨t,a,b⟩:=EA h;exact ⟨t,by lia,b⟩
theorem cw_split {v:Nat->jI} {i:Nat}:∀{k:Nat},i < k->qL v k=Ih v i k++v i :: qL v i
 | k+1,h=>by
  show v k :: qL v k=(if k<=i then [] else v k :: Ih v i k)++_
  by_cases e:i=k
  ·subst e;rw[if_pos (av _)];rfl
  ·rw[if_neg (by lia),cw_split (k:=k) (i:=i) (by lia)];rfl
theorem Fw {c:Nat->Rat} (hi:i < k) (hW:∀r∈rs,W r=bL k λj=>c j*v j r):rV rs (Ih v i k++W :: qL v i)=c i*rV rs (qL v k):=by
 rw[DH (v:=v) (c:=c) (W:=W) _ _ hW,j5 hi λj hj ne=>?_,cw_split hi];rcases gO j i with h | h
 ·obtain ⟨s,t,e⟩:=CW (cw_mem (v:=v) h);rw[e,A1];grind
 ·obtain ⟨s,t,e⟩:=CW (Ig (v:=v) (show i < j by lia) hj);have:=A1 (x:=v j) (rs:=rs) t s (qL v i);rw[e,bX,dQ,this];grind
theorem LR {c:Nat->Rat} (hW:∀r∈rs,W r=bL k λj=>c j*v j r):rV rs (W :: qL v k)=0:=by
 have:=DH (v:=v) (c:=c) (W:=W) [] (qL v k) hW;rw[cL] at this;rw[this];refine eP λj hj=>?_
 obtain ⟨s,t,e⟩:=CW (cw_mem (v:=v) hj);have:=A1 (x:=v j) (rs:=rs) s [] t;rw[cL] at this;rw[e,cL,this];grind
theorem Fv {c:Nat->Rat} (hi:i∉rs) (h1:W i=bL k (λj=>c j*v j i)+s) (hW:∀r∈rs,W r=bL k λj=>c j*v j r):rV (i :: rs) (W :: qL v k)=s*rV rs (qL v k):=by
 have e:=rR (rs:=i :: rs) (h:=W) (f:=λr=>bL k λj=>c j*v j r) (g:=λr=>if r=i then 1 else 0) (x:=1) (y:=s) (λr hr=>by
  rcases aD.mp hr with rfl | hr
  ·rw[h1,if_pos rfl];grind
  ·rw[hW r hr,if_neg (λz=>hi (by rw[<- z];exact hr))];grind) [] (qL v k)
 rw[cL,cL,cL,LR (c:=c) λr _=>rfl] at e
 have e2:rV (i :: rs) ((λr=>if r=i then (1:Rat) else 0) :: qL v k)=rV rs (qL v k):=by
  show 1*(if i=i then (1:Rat) else 0)*rV rs ([]++qL v k)+AO (λws=>rV rs ws) i ([]++[λr=>if r=i then (1:Rat) else 0]) (qL v k) (-1)=_
  have hF:∀a b,(λws=>rV rs ws) (a++(λr=>if r=i then (1:Rat) else 0) :: b)=0*(λws=>rV rs ws) (a++(λr=>if r=i then (1:Rat) else 0) :: b)+0*(λws=>rV rs ws) (a++(λr=>if r=i then (1:Rat) else 0) :: b):=λa b=>by
   have:=Et (h:=λr=>if r=i then (1:Rat) else 0) (rs:=rs) (λr hr=>if_neg λz=>hi (by rw[<- z];exact hr)) a b
   dsimp only
   rw[this];grind
  have:=AN (r:=i) hF (qL v k) [] [] (-1);rw[this,if_pos rfl,cL];grind
 rw[e2] at e;rw[e];grind
theorem Kh {F:List jI->Rat} {r B W:Nat}:∀{post pre:List jI} {s:Rat},(∀ws,(∀w∈ws,w∈pre++post)->ws.length+1=(pre++post).length->Fr 1 B (F ws))->(∀w∈post,Fr 1 W (w r))->Fr 1 1 s->Fr 1 (post.length*(W*B)) (AO F r pre post s)
 | [],pre,s,_,_,_=>by show Fr 1 _ 0;exact Fr.zero
 | v :: post,pre,s,hF,hw,hs=>by
  have t1:Fr 1 (W*B) (s*v r*F (pre++post)):=by
   have:=(hs.mul (hw v (.head _))).mul (hF (pre++post) (λw h=>by
    rcases ax.mp h with h | h
    ·exact fG _ h
    ·exact bI _ (.tail _ h)) (by simp only[az,bw];lia))
   simpa using this
  have t2:=Kh (F:=F) (r:=r) (B:=B) (W:=W) (post:=post) (pre:=pre++[v]) (s:=-s) (λws h h'=>hF ws (λw hw=>by simpa using h w hw) (by simpa using h')) (λw h=>hw w (.tail _ h)) (by simpa using hs.neg);exact (t1.add t2).mono (by rw[bw,wG];lia)
theorem zw {W N:Nat}:∀{rs:List Nat} {vs:List jI},vs.length<=N->(∀v∈vs,∀r∈rs,Fr 1 W (v r))->Fr 1 ((N*W)^rs.length) (rV rs vs)
 | [],[],_,_=>by show Fr 1 1 1;exact (Fr.int (i:=1) (by decide))
 | [],_ :: _,_,_=>by show Fr 1 _ 0;exact Fr.zero
 | r :: rs,vs,hl,h=>by
  have:=Kh (F:=λws=>rV rs ws) (r:=r) (B:=(N*W)^rs.length) (W:=W) (post:=vs) (pre:=[]) (s:=1) (λws h1 h2=>zw (by rw[cL] at h2;lia) λv hv r' hr'=>h v (by simpa using h1 v hv) r' (.tail _ hr')) (λw hw=>h w hw r (.head _)) (Fr.int (i:=1) (by decide));refine this.mono ?_;rw[bw,fF,cB ((N*W)^rs.length),cE N];exact aN _ hl
structure tT (a:Nat->Nat->Rat) (m k:Nat) (pm p:Nat->Nat) (l:Nat->Nat->Rat) (d:Rat):Prop where
 inj:∀i j,i < m->j < m->pm i=pm j->i=j
 rng:∀i,i < m->pm i < m
 km:k<=m
 d0:d≠0
 det:d=rV (Bh pm k) (qL (λj r=>a r (p j)) k)
 eqs:∀i,i < m->∀c,d*a (pm i) c=bL k (λj=>a (pm i) (p j)*l j c)+if i < k then 0 else l i c
 unit:∀i,i < m->∀j,j < k->l i (p j)=if i=j then d else 0
section
variable {a l:Nat->Nat->Rat} {m k:Nat} {pm p:Nat->Nat} {d:Rat}
theorem tT.start (h:∀i,i < m->pm i=i):tT a m 0 pm p a 1 where
 inj i j hi hj e:=by rw[h i hi,h j hj] at e;exact e
 rng i hi:=by rw[h i hi];exact hi
 km:=bH _
 d0:=by decide
 det:=rfl
 eqs i hi c:=by
  rw[h i hi,if_neg (by lia)];show 1*a i c=0+a i c
  grind
 unit i _ j hj:=absurd hj (by lia)
theorem tT.coef (B:tT a m k pm p l d) (hi:i < m):a (pm i) c=bL k (λj=>(l j c / d)*a (pm i) (p j))+if i < k then 0 else l i c / d:=by
 have h:=B.eqs i hi c;have d0:=B.d0
 have e:bL k (λj=>(l j c / d)*a (pm i) (p j))=(1 / d)*bL k (λj=>a (pm i) (p j)*l j c):=by
  rw[<- cN];exact aM λj _=>by grind
 rw[e]
 split at h
 ·rw[if_pos (by assumption)];grind
 ·rw[if_neg (by assumption)];grind
theorem tT.old (B:tT a m k pm p l d) (hi:i < k):l i c=rV (Bh pm k) (Ih (λj r=>a r (p j)) i k++(λr=>a r c) :: qL (λj r=>a r (p j)) i):=by
 have km:=B.km;have d0:=B.d0;rw[Fw (v:=λj r=>a r (p j)) (c:=λj=>l j c / d) hi λr hr=>?_,<- B.det]
 ·grind
 ·obtain ⟨t,ht,rfl⟩:=ph hr;have:=B.coef (i:=t) (c:=c) (by lia);rw[if_pos ht] at this;rw[this];grind
theorem tT.new (B:tT a m k pm p l d) (h1:k<=i) (hi:i < m):l i c=rV (pm i :: Bh pm k) ((λr=>a r c) :: qL (λj r=>a r (p j)) k):=by
 have km:=B.km;have d0:=B.d0
 have hn:pm i∉Bh pm k:=λhm=>by
  obtain ⟨t,ht,e⟩:=ph hm;have:=B.inj i t hi (by lia) e
  lia
 have e1:a (pm i) c=bL k (λj=>(l j c / d)*a (pm i) (p j))+l i c / d:=by
  have:=B.coef (i:=i) (c:=c) hi;rwa [if_neg (by lia)] at this
 have e2:∀r∈Bh pm k,a r c=bL k (λj=>(l j c / d)*a r (p j)):=λr hr=>by
  obtain ⟨t,ht,rfl⟩:=ph hr;have:=B.coef (i:=t) (c:=c) (by lia);rw[if_pos ht] at this;rw[this];grind
 rw[Fv (v:=λj r=>a r (p j)) (c:=λj=>l j c / d) (W:=λr=>a r c) (s:=l i c / d) hn e1 e2,<- B.det];grind
theorem tT.fr (B:tT a m k pm p l d) (hN:k < N) (hW:1<=W) (ha:∀i,i < m->∀c,Fr 1 W (a i c)) (hi:i < m):Fr 1 ((N*W)^(k+1)) (l i c):=by
 have km:=B.km;have mono:∀t,t<=k+1->(N*W)^t<=(N*W)^(k+1):=λt ht=>aw (bQ (by lia) hW) ht
 have ha':∀r∈Bh pm k,∀c,Fr 1 W (a r c):=λr hr c=>by
  obtain ⟨t,ht,rfl⟩:=ph hr;exact ha _ (B.rng t (by lia)) c
 by_cases h:i < k
 ·rw[B.old h];refine (zw (W:=W) (N:=N) ?_ ?_).mono (mono _ (by rw[uk];lia))
  ·have:=congrArg List.length (cw_split (v:=λj r=>a r (p j)) h);rw[az,bw,cw_len] at this;rw[az,bw]
   lia
  ·intro v hv r hr;rcases ax.mp hv with hv | hv
   ·obtain ⟨t,_,rfl⟩:=EA hv;exact ha' r hr _
   ·rcases aD.mp hv with rfl | hv
    ·exact ha' r hr _
    ·obtain ⟨t,_,rfl⟩:=cw_in hv;exact ha' r hr _
 ·rw[B.new (by lia) hi];refine (zw (W:=W) (N:=N) ?_ ?_).mono (mono _ (by rw[bw,uk];lia))
  ·rw[bw,cw_len]
   lia
  ·intro v hv r hr
   have hr':∀c,Fr 1 W (a r c):=λc=>by
    rcases aD.mp hr with rfl | hr
    ·exact ha _ (B.rng i hi) c
    ·exact ha' r hr c
   rcases aD.mp hv with rfl | hv
   ·exact hr' _
   ·obtain ⟨t,_,rfl⟩:=cw_in hv;exact hr' _
theorem tT.dfr (B:tT a m k pm p l d) (hN:k<=N) (ha:∀i,i < m->∀c,Fr 1 W (a i c)):Fr 1 ((N*W)^k) d:=by
 have km:=B.km;rw[B.det]
 have:=zw (W:=W) (N:=N) (rs:=Bh pm k) (vs:=qL (λj r=>a r (p j)) k) (by rw[cw_len];exact hN) λv hv r hr=>by
  obtain ⟨t,ht,rfl⟩:=ph hr;obtain ⟨t',_,rfl⟩:=cw_in hv;exact ha _ (B.rng t (by lia)) _
 rwa [uk] at this
def iT (k t i:Nat):Nat:=if i=k then t else if i=t then k else i
theorem qh (hk:k < m) (ht:t < m) (hi:i < m):iT k t i < m:=by
 unfold iT
 split
 ·exact ht
 ·split
  ·exact hk
  ·exact hi
theorem KO (h:iT k t i=iT k t j):i=j:=by
 unfold iT at h
 split at h <;> split at h <;> (try split at h) <;> (try split at h) <;> lia
theorem rg (h:k<=t) (hi:i < k):iT k t i=i:=by
 unfold iT;rw[if_neg (by lia),if_neg (by lia)]
theorem sv (h:k<=t) (hi:k<=i):k<=iT k t i:=by
 unfold iT
 split
 ·exact h
 ·split <;> lia
theorem tT.swap (B:tT a m k pm p l d) {t:Nat} (h:k<=t) (ht:t < m):tT a m k (λi=>pm (iT k t i)) p (λi=>l (iT k t i)) d where
 inj i j hi hj e:=KO (B.inj _ _ (qh (by lia) ht hi) (qh (by lia) ht hj) e)
 rng i hi:=B.rng _ (qh (by lia) ht hi)
 km:=B.km
 d0:=B.d0
 det:=by rw[B.det,xv (f:=pm) (g:=λi=>pm (iT k t i)) λj hj=>by rw[rg h hj]]
 eqs i hi c:=by
  have e:=B.eqs (iT k t i) (qh (by lia) ht hi) c;have e1:bL k (λj=>a (pm (iT k t i)) (p j)*l (iT k t j) c)=bL k (λj=>a (pm (iT k t i)) (p j)*l j c):=aM λj hj=>by rw[rg h hj]
  rw[e1];by_cases hk:i < k
  ·rw[rg h hk] at e ⊢;exact e
  ·rw[if_neg hk];rw[if_neg (by have:=sv h (show k<=i by lia);lia)] at e;exact e
 unit i hi j hj:=by
  rw[B.unit _ (qh (by lia) ht hi) j hj];by_cases hk:i < k
  ·rw[rg h hk]
  ·have:=sv h (show k<=i by lia);rw[if_neg (by lia),if_neg (by lia)]
theorem tT.step (B:tT a m k pm p l d) {c0:Nat} (hk:k < m) (h0:l k c0≠0):tT a m (k+1) pm (λj=>if j=k then c0 else p j) (λi c=>if i=k then l k c else (l k c0*l i c - l i c0*l k c) / d) (l k c0) where
 inj:=B.inj
 rng:=B.rng
 km:=hk
 d0:=h0
 det:=by
  rw[B.new (av _) hk];show _=rV (pm k :: Bh pm k) ((λr=>a r (if k=k then c0 else p k)) :: qL _ k)
  rw[if_pos rfl];congr 2;exact cw_congr λj hj=>by rw[if_neg (show j≠k by lia)]
 eqs i hi c:=by
  have d0:=B.d0;have e1:=B.eqs i hi c;have e2:=B.eqs i hi c0;show l k c0*a (pm i) c=(bL k _+_)+_
  have s1:bL k (λj=>a (pm i) (if j=k then c0 else p j)*(if j=k then l k c else (l k c0*l j c - l j c0*l k c) / d))=(l k c0 / d)*bL k (λj=>a (pm i) (p j)*l j c)+(- l k c / d)*bL k (λj=>a (pm i) (p j)*l j c0):=by
   rw[<- cN,<- cN,<- oJ];refine aM λj hj=>?_
   rw[if_neg (show j≠k by lia),if_neg (show j≠k by lia)];grind
  rw[s1];simp only[if_true];generalize bL k (λj=>a (pm i) (p j)*l j c)=S1 at e1 ⊢;generalize bL k (λj=>a (pm i) (p j)*l j c0)=S2 at e2 ⊢;rcases kU i k with h | h | h
  ·rw[if_pos h] at e1 e2;rw[if_pos (by lia)];grind
  ·subst h;rw[if_neg (by lia)] at e1 e2;rw[if_pos (by lia)];grind
  ·rw[if_neg (by lia)] at e1 e2;rw[if_neg (by lia),if_neg (by lia)];grind
 unit i hi j hj:=by
  have d0:=B.d0;by_cases e:j=k
  ·subst e;simp only[if_true];by_cases ei:i=j
   ·rw[if_pos ei,if_pos ei]
   ·rw[if_neg ei,if_neg ei];grind
  ·have hj':j < k:=by lia
   rw[if_neg e];by_cases ei:i=k
   ·rw[if_pos ei,B.unit k hk j hj',if_neg (by lia),if_neg (by lia)]
   ·rw[if_neg ei,B.unit i hi j hj',B.unit k hk j hj',if_neg (show k≠j by lia)]
    split
    ·grind
    ·grind
end
def fI (m:Nat) (a:Nat->Nat->Rat) (x:Nat->Rat):Prop:=∃w:Nat->Rat,∀c,x c=bL m λt=>w t*a t c
section
variable {m m' k n:Nat} {a b:Nat->Nat->Rat} {x y:Nat->Rat}
theorem fI.row (hi:i < m):fI m a (a i):=⟨λt=>if t=i then 1 else 0,λc=>by
 rw[j5 hi λj _ ne=>by dsimp only;rw[if_neg ne];grind]
 dsimp only
 rw[if_pos rfl];grind⟩
theorem fI.lin (α β:Rat) (hx:fI m a x) (hy:fI m a y):fI m a λc=>α*x c+β*y c:=by
 obtain ⟨w,hw⟩:=hx;obtain ⟨v,hv⟩:=hy;refine ⟨λt=>α*w t+β*v t,λc=>?_⟩
 dsimp only
 rw[hw c,hv c,<- cN,<- cN,<- oJ];exact aM λj _=>by grind
theorem fI.congr (h:∀c,x c=y c) (hx:fI m a x):fI m a y:=by obtain ⟨w,hw⟩:=hx;exact ⟨w,λc=>by rw[<- h c];exact hw c⟩
theorem fI.trans (h:∀t,t < m'->fI m a (b t)) (hx:fI m' b x):fI m a x:=by
 obtain ⟨v,hv⟩:=hx
 have h2:∀t,∃w:Nat->Rat,t < m'->∀c,b t c=bL m λs=>w s*a s c:=λt=>by
  by_cases ht:t < m'
  ·obtain ⟨w,hw⟩:=h t ht;exact ⟨w,λ_=>hw⟩
  ·exact ⟨λ_=>0,λz=>absurd z ht⟩
 have hc:=Classical.axiomOfChoice h2;obtain ⟨w,hw⟩:=hc;refine ⟨λs=>bL m' λt=>v t*w t s,λc=>?_⟩;rw[hv c];have e1:bL m' (λt=>v t*b t c)=bL m' (λt=>bL m λs=>v t*(w t s*a s c)):=aM λt ht=>by rw[hw t ht c,<- cN]
 rw[e1,fU];refine aM λs _=>?_
 have:bL m' (λt=>v t*w t s)*a s c=a s c*bL m' (λt=>v t*w t s):=cQ ..;rw[this,<- cN];exact aM λt _=>by grind
theorem fI.zero (h:∀c,x c=0):fI m a x:=⟨λ_=>0,λc=>by rw[h c,eP λ_ _=>by grind]⟩
end
structure CS (m n:Nat) (a:Nat->Nat->Rat) (k:Nat) (p:Nat->Nat) (R:Nat->Nat->Rat):Prop where
 inc:∀i j,i < j->j < k->p i < p j
 low:∀j,j < k->p j < n
 unit:∀i,i < k->∀j,j < k->R i (p j)=if i=j then 1 else 0
 lead:∀i,i < k->∀c,c < p i->R i c=0
 span:∀i,i < m->fI k R (a i)
 back:∀i,i < k->fI m a (R i)
section
variable {m m' k k' n:Nat} {a a' R R':Nat->Nat->Rat} {p p':Nat->Nat} {x:Nat->Rat}
theorem CS.coef (h:CS m n a k p R) (hx:fI k R x) (c:Nat):x c=bL k λj=>x (p j)*R j c:=by
 obtain ⟨w,hw⟩:=hx;rw[hw c];refine aM λj hj=>?_
 rw[hw (p j),j5 hj λt ht ne=>by rw[h.unit t ht j hj,if_neg ne];grind,h.unit j hj j hj,if_pos rfl];grind
theorem CS.lead_in (h:CS m n a k p R) (hx:fI k R x) (h1:x c≠0) (h0:∀c',c' < c->x c'=0):∃j,j < k/\p j=c:=by
 refine Classical.byContradiction λhn=>h1 ?_
 rw[h.coef hx c];refine eP λj hj=>?_
 rcases kU (p j) c with z | z | z
 ·rw[h0 _ z];grind
 ·exact absurd ⟨j,hj,z⟩ hn
 ·rw[h.lead j hj c z];grind
theorem inc_le (h1:∀i j,i < j->j < k->p i < p j) (h2:∀i j,i < j->j < k'->p' i < p' j) (hs:∀j,j < k'->∃i,i < k/\p i=p' j):∀{j:Nat},j < k'->∀{i:Nat},i < k->p i=p' j->j<=i
 | 0,_,_,_,_=>bH _
 | j+1,hj,i,hi,e=>by
  obtain ⟨i0,hi0,e0⟩:=hs j (by lia);have:=inc_le h1 h2 hs (j:=j) (by lia) hi0 e0;have lt:=h2 j (j+1) (by lia) hj;rcases kU i0 i with z | z | z
  ·lia
  ·subst z;lia
  ·have:=h1 i i0 z hi0;lia
theorem Hv (h1:∀i j,i < j->j < k->p i < p j) (h:i<=j) (hj:j < k):p i<=p j:=by
 rcases gO i j with z | z
 ·exact aR (h1 i j z hj)
 ·have:i=j:=by lia
  rw[this];exact av _
theorem En (h1:∀i j,i < j->j < k->p i < p j) (h2:∀i j,i < j->j < k'->p' i < p' j) (hs:∀j,j < k'->∃i,i < k/\p i=p' j):k'<=k/\∀j,j < k'->p j<=p' j:=by
 refine ⟨?_,λj hj=>?_⟩
 ·rcases qX k' with z | z
  ·lia
  ·obtain ⟨i,hi,e⟩:=hs (k' - 1) (by lia);have:=inc_le h1 h2 hs (j:=k' - 1) (by lia) hi e
   lia
 ·obtain ⟨i,hi,e⟩:=hs j hj;rw[<- e];exact Hv h1 (inc_le h1 h2 hs hj hi e) hi
theorem CS.uniq (h:CS m n a k p R) (h':CS m' n a' k' p' R') (s1:∀i,i < m->fI m' a' (a i)) (s2:∀i,i < m'->fI m a (a' i)):k=k'/\(∀j,j < k->p j=p' j)/\∀i,i < k->∀c,R i c=R' i c:=by
 have x1:∀i,i < k->fI k' R' (R i):=λi hi=>fI.trans (λt ht=>h'.span t ht) (fI.trans s1 (h.back i hi))
 have x2:∀i,i < k'->fI k R (R' i):=λi hi=>fI.trans (λt ht=>h.span t ht) (fI.trans s2 (h'.back i hi))
 have y1:∀j,j < k->∃i,i < k'/\p' i=p j:=λj hj=>h'.lead_in (x1 j hj) (by rw[h.unit j hj j hj,if_pos rfl];decide) (h.lead j hj)
 have y2:∀j,j < k'->∃i,i < k/\p i=p' j:=λj hj=>h.lead_in (x2 j hj) (by rw[h'.unit j hj j hj,if_pos rfl];decide) (h'.lead j hj)
 obtain ⟨z1,w1⟩:=En h'.inc h.inc y1;obtain ⟨z2,w2⟩:=En h.inc h'.inc y2;have ek:k=k':=Nat.le_antisymm z1 z2;subst ek;have ep:∀j,j < k->p j=p' j:=λj hj=>Nat.le_antisymm (w2 j hj) (w1 j hj)
 refine ⟨rfl,ep,λi hi c=>?_⟩;rw[h.coef (x2 i hi) c,j5 hi λj hj ne=>by rw[ep j hj,h'.unit i hi j hj,if_neg (λz=>ne z.symm)];grind,ep i hi,h'.unit i hi i hi,if_pos rfl];grind
end
structure jq (a:Nat->Nat->Rat) (m k P:Nat) (p:Nat->Nat) (l:Nat->Nat->Rat) (d:Rat):Prop where
 km:k<=m
 d0:d≠0
 unit:∀i,i < m->∀j,j < k->l i (p j)=if i=j then d else 0
 inc:∀i j,i < j->j < k->p i < p j
 low:∀j,j < k->p j < P
 zero:∀i,k<=i->i < m->∀c,c < P->l i c=0
 lead:∀j,j < k->∀c,c < p j->l j c=0
 there:∀i,i < m->fI m l (a i)
 back:∀i,i < m->fI m a (l i)
section
variable {m k n P:Nat} {a l l':Nat->Nat->Rat} {p:Nat->Nat} {d d':Rat}
theorem jq.start:jq a m 0 0 p a 1 where
 km:=bH _
 d0:=by decide
 unit _ _ j hj:=absurd hj (by lia)
 inc _ j _ hj:=absurd hj (by lia)
 low j hj:=absurd hj (by lia)
 zero _ _ _ c hc:=absurd hc (by lia)
 lead j hj:=absurd hj (by lia)
 there i hi:=fI.row hi
 back i hi:=fI.row hi
theorem jq.skip (E:jq a m k P p l d) (h:∀i,k<=i->i < m->l i P=0):jq a m k (P+1) p l d :=
 ⟨E.km,E.d0,E.unit,E.inc,λj hj=>EJ (E.low j hj),λi h1 h2 c hc=>by
  by_cases e:c=P
  ·rw[e];exact h i h1 h2
  ·exact E.zero i h1 h2 c (by lia),E.lead,E.there,E.back⟩
theorem MB:iT k t (iT k t i)=i:=by
 unfold iT
 split
 ·split <;> (try split) <;> lia
 ·split
  ·rw[if_pos rfl];lia
  ·rfl
theorem jq.swap (E:jq a m k P p l d) {t:Nat} (h:k<=t) (ht:t < m):jq a m k P p (λi=>l (iT k t i)) d where
 km:=E.km
 d0:=E.d0
 unit i hi j hj:=by
  rw[E.unit _ (qh (by lia) ht hi) j hj];by_cases hk:i < k
  ·rw[rg h hk]
  ·have:=sv h (show k<=i by lia);rw[if_neg (by lia),if_neg (by lia)]
 inc:=E.inc
 low:=E.low
 zero i h1 h2 c hc:=E.zero _ (sv h h1) (qh (by lia) ht h2) c hc
 lead j hj c hc:=by rw[rg h hj];exact E.lead j hj c hc
 there i hi:=fI.trans (λs hs=>fI.congr (λc=>by rw[MB]) (fI.row (a:=λi=>l (iT k t i)) (i:=iT k t s) (qh (by lia) ht hs))) (E.there i hi)
 back i hi:=E.back _ (qh (by lia) ht hi)
theorem jq.step (E:jq a m k P p l d) (hk:k < m) (h0:d'≠0) (unit':∀i,i < m->∀j,j < k+1->l' i (if j=k then P else p j)=if i=j then d' else 0)
  (hl:∀i,i < m->∃β γ:Rat,β≠0/\(i=k->γ=0)/\∀c,l' i c=β*l i c+γ*l k c):jq a m (k+1) (P+1) (λj=>if j=k then P else p j) l' d' where
 km:=hk
 d0:=h0
 unit:=unit'
 inc i j hij hj:=by
  by_cases e:j=k
  ·rw[if_pos e,if_neg (by lia)];exact E.low i (by lia)
  ·rw[if_neg e,if_neg (by lia)];exact E.inc i j hij (by lia)
 low j hj:=by
  by_cases e:j=k
  ·rw[if_pos e];lia
  ·rw[if_neg e];exact EJ (E.low j (by lia))
 zero i h1 h2 c hc:=by
  by_cases e:c=P
  ·have:=unit' i h2 k (by lia);rw[if_pos rfl,if_neg (by lia)] at this;rw[e];exact this
  ·obtain ⟨β,γ,_,_,q⟩:=hl i h2;rw[q c,E.zero i (by lia) h2 c (by lia),E.zero k (av _) hk c (by lia)];grind
 lead j hj c hc:=by
  have km:=E.km;obtain ⟨β,γ,_,_,q⟩:=hl j (by lia);by_cases e:j=k
  ·rw[if_pos e] at hc;rw[q c,e,E.zero k (av _) hk c hc];grind
  ·rw[if_neg e] at hc;have:=E.low j (by lia);rw[q c,E.lead j (by lia) c hc,E.zero k (av _) hk c (by lia)];grind
 there i hi:=by
  refine fI.trans (λs hs=>?_) (E.there i hi);obtain ⟨β,γ,b0,_,q⟩:=hl s hs;obtain ⟨βk,γk,bk0,gk,qk⟩:=hl k hk;have g0:=gk rfl;refine fI.congr (λc=>?_) (fI.lin (1 / β) (-(γ / β) / βk) (fI.row (a:=l') hs) (fI.row (a:=l') hk));rw[q c,qk c,g0];grind
 back i hi:=by
  obtain ⟨β,γ,_,_,q⟩:=hl i hi;exact fI.congr (λc=>(q c).symm) (fI.lin β γ (E.back i hi) (E.back k hk))
theorem jq.done (E:jq a m k n p l d) (ha:∀i,i < m->∀c,n<=c->a i c=0):CS m n a k p (λi c=>l i c / d) where
 inc:=E.inc
 low:=E.low
 unit i hi j hj:=by
  have d0:=E.d0;have km:=E.km;rw[E.unit i (by lia) j hj]
  split
  ·grind
  ·grind
 lead i hi c hc:=by
  rw[E.lead i hi c hc];grind
 span i hi:=by
  have d0:=E.d0;refine fI.trans (λs hs=>?_) (E.there i hi);by_cases z:s < k
  ·refine fI.congr (λc=>?_) (fI.lin d 0 (fI.row (a:=λi c=>l i c / d) z) (fI.row (a:=λi c=>l i c / d) z));grind
  ·refine fI.zero λc=>?_
   by_cases hc:c < n
   ·exact E.zero s (by lia) hs c hc
   ·obtain ⟨w,hw⟩:=E.back s hs;rw[hw c,eP λt ht=>by rw[ha t ht c (by lia)];grind]
 back i hi:=by
  have km:=E.km;have d0:=E.d0;refine fI.congr (λc=>?_) (fI.lin (1 / d) 0 (E.back i (by lia)) (E.back i (by lia)));grind
end
def dF (ls:List (List Int)) (i c:Nat):Rat:=(((ls.getD i []).getD c 0:Int):Rat)
def b8 (rows:LR9) (i c:Nat):Rat:=(rows.getD i []).getD c 0
def mM (ls:List (List Int)) (k t:Nat):List (List Int):=(ls.set k (ls.getD t [])).set t (ls.getD k [])
def CH (ls:List (List Int)) (k c:Nat) (b:Int):List (List Int):=(ls.map λzs=>List.zipWith (λx y=>((ls.getD k []).getD c 0*x - zs.getD c 0*y).fdiv b) zs (ls.getD k [])).set k (ls.getD k [])
section
variable {ls ls0:List (List Int)} {k t n P c:Nat} {b d:Int} {ps:List Nat}
theorem pE {α:Type} {l:List α} {x e:α} (hi:i < l.length):(l.set i x).getD j e=if j=i then x else l.getD j e:=by
 rw[aa,aa,List.getElem?_set];by_cases h:j=i
 ·subst h;rw[if_pos rfl,if_pos hi,if_pos rfl];rfl
 ·rw[if_neg (λz=>h z.symm),if_neg h]
theorem tW:(mM ls k t).length=ls.length:=by unfold mM;rw[dA,dA]
theorem Il:(CH ls k c b).length=ls.length:=by unfold CH;rw[dA,ag]
theorem getD_in {α:Type} {l:List α} {e:α} (h:i < l.length):l.getD i e∈l:=by
 rw[aa,af h];exact aS h
theorem DV (w:∀zs∈ls,zs.length=n) (hk:k < ls.length) (ht:t < ls.length):∀zs∈mM ls k t,zs.length=n:=λzs hz=>by
 unfold mM at hz;rcases bE hz with h | h
 ·rcases bE h with h | h
  ·exact w zs h
  ·rw[h];exact w _ (getD_in ht)
 ·rw[h];exact w _ (getD_in hk)
theorem EB (w:∀zs∈ls,zs.length=n) (hk:k < ls.length):∀zs∈CH ls k c b,zs.length=n:=λzs hz=>by
 unfold CH at hz;rcases bE hz with h | h
 ·obtain ⟨y,hy,rfl⟩:=aA.mp h;rw[bG,w y hy,w _ (getD_in hk)]
  lia
 ·rw[h];exact w _ (getD_in hk)
theorem sS (hk:k < ls.length) (ht:t < ls.length) (i c:Nat):dF (mM ls k t) i c=dF ls (iT k t i) c:=by
 unfold dF mM iT;rw[pE (by rw[dA];exact ht),pE hk];by_cases h1:i=t
 ·rw[if_pos h1];by_cases h2:i=k
  ·rw[if_pos h2,<- h1,<- h2]
  ·rw[if_neg h2,if_pos h1]
 ·rw[if_neg h1];by_cases h2:i=k
  ·rw[if_pos h2,if_pos h2]
  ·rw[if_neg h2,if_neg h2,if_neg h1]
theorem xU (w:∀zs∈ls,zs.length=n) (hc:n<=c):dF ls i c=0:=by
 unfold dF;by_cases h:i < ls.length
 ·have:=w _ (getD_in (e:=[]) h);rw[aa (l:=ls.getD i []),bp (by lia)];rfl
 ·rw[aa (l:=ls),bp (by lia)];rfl
theorem pK {x:Int} (h:(x:Rat)=0):x=0:=by
 have:(x:Rat)=((0:Int):Rat):=h;exact de.mp this
theorem DG {x b:Int} (hb:b≠0) (hq:∃z:Int,q=(z:Rat)) (e:(x:Rat)=(b:Rat)*q):((x.fdiv b:Int):Rat)=q:=by
 obtain ⟨z,rfl⟩:=hq;rw[<- aU] at e;have:=de.mp e;rw[this,Int.mul_fdiv_cancel_left _ hb]
theorem wo (h:Fr 1 W q):∃z:Int,q=(z:Rat):=by
 obtain ⟨z,e,_⟩:=h;exact ⟨z,by rw[<- e];simp⟩
theorem uG {z:Int} (h:Fr 1 W (z:Rat)):z.natAbs<=W:=by
 obtain ⟨y,e,b⟩:=h;have:(z:Rat)=(y:Rat):=by rw[<- e];simp
 rw[de.mp this];simpa using b
theorem HQ (w:∀zs∈ls,zs.length=n) (hk:k < ls.length) (hb:b≠0) (hi:i < ls.length) (hz:∀c,∃z:Int,(dF ls k P*dF ls i c - dF ls i P*dF ls k c) / (b:Rat)=(z:Rat)) (c:Nat) :
  dF (CH ls k P b) i c=if i=k then dF ls k c else (dF ls k P*dF ls i c - dF ls i P*dF ls k c) / (b:Rat):=by
 by_cases e:i=k
 ·rw[if_pos e];unfold dF CH;rw[pE (by rw[ag];exact hk),if_pos e]
 ·rw[if_neg e];by_cases hc:c < n
  ·have hb':(b:Rat)≠0:=λz=>hb (pK z)
   have lk:=w _ (getD_in (e:=[]) hk);have li:=w _ (getD_in (e:=[]) hi)
   have e1:dF (CH ls k P b) i c=(((((ls.getD k []).getD P 0*(ls.getD i []).getD c 0 - (ls.getD i []).getD P 0*(ls.getD k []).getD c 0).fdiv b:Int)):Rat):=by
    unfold CH;rw[dF,pE (by rw[ag];exact hk),if_neg e];rw[aa (l:=List.map _ ls),aB,af hi];show ((((List.zipWith _ ls[i] (ls.getD k [])).getD c 0:Int)):Rat)=_
    have ei:ls.getD i []=ls[i]:=by rw[aa,af hi];rfl
    rw[<- ei];rw[aa (l:=List.zipWith _ _ _),bO,aa (l:=ls.getD i []) (i:=c),aa (l:=ls.getD k []) (i:=c),af (show c < (ls.getD i []).length by lia),af (show c < (ls.getD k []).length by lia)];rfl
   rw[e1];refine DG hb (hz c) ?_;rw[yy,aU,aU];show _=(b:Rat)*((dF ls k P*dF ls i c - dF ls i P*dF ls k c) / (b:Rat))
   show dF ls k P*dF ls i c - dF ls i P*dF ls k c=_
   grind
  ·rw[xU (EB w hk) (show n<=c by lia),xU w (i:=i) (show n<=c by lia),xU w (i:=k) (show n<=c by lia)];grind
end
section
variable {m k n P:Nat} {a l l2:Nat->Nat->Rat} {pm p p2:Nat->Nat} {d:Rat}
theorem tT.congr (B:tT a m k pm p l d) (hp:∀j,j < k->p2 j=p j) (hl:∀i,i < m->∀c,l2 i c=l i c):tT a m k pm p2 l2 d where
 inj:=B.inj
 rng:=B.rng
 km:=B.km
 d0:=B.d0
 det:=by rw[B.det,cw_congr (f:=λj r=>a r (p j)) (g:=λj r=>a r (p2 j)) λj hj=>by rw[hp j hj]]
 eqs i hi c:=by
  have km:=B.km;rw[B.eqs i hi c,hl i hi c];congr 1;exact aM λj hj=>by rw[hp j hj,hl j (by lia) c]
 unit i hi j hj:=by rw[hp j hj,hl i hi];exact B.unit i hi j hj
theorem fI.rows (h:∀i,i < m->∀c,l2 i c=l i c) (hx:fI m l x):fI m l2 x:=by obtain ⟨w,hw⟩:=hx;exact ⟨w,λc=>by rw[hw c];exact aM λt ht=>by rw[h t ht c]⟩
theorem jq.congr (E:jq a m k P p l d) (hp:∀j,j < k->p2 j=p j) (hl:∀i,i < m->∀c,l2 i c=l i c):jq a m k P p2 l2 d where
 km:=E.km
 d0:=E.d0
 unit i hi j hj:=by rw[hp j hj,hl i hi];exact E.unit i hi j hj
 inc i j hij hj:=by rw[hp i (by lia),hp j hj];exact E.inc i j hij hj
 low j hj:=by rw[hp j hj];exact E.low j hj
 zero i h1 h2 c hc:=by rw[hl i h2];exact E.zero i h1 h2 c hc
 lead j hj c hc:=by
  have km:=E.km;rw[hp j hj] at hc;rw[hl j (by lia)];exact E.lead j hj c hc
 there i hi:=(E.there i hi).rows hl
 back i hi:=(E.back i hi).congr λc=>(hl i hi c).symm
theorem jq.kP (E:jq a m k P p l d):k<=P:=by
 have:∀j,j < k->j<=p j:=by
  intro j
  induction j with
  | zero=>intro _;exact bH _
  | succ j ih =>
   intro hj;have:=ih (by lia);have:=E.inc j (j+1) (by lia) hj
   lia
 rcases qX k with z | z
 ·lia
 ·have h1:=this (k - 1) (by lia);have h2:=E.low (k - 1) (by lia)
  lia
end
structure zW (ls0:List (List Int)) (n P:Nat) (ls:List (List Int)) (ps:List Nat) (d:Int):Prop where
 len:ls.length=ls0.length
 wide:∀zs∈ls,zs.length=n
 bar:∃pm,tT (dF ls0) ls0.length ps.length pm (λj=>ps.getD j 0) (dF ls) d
 el:jq (dF ls0) ls0.length ps.length P (λj=>ps.getD j 0) (dF ls) d
section
variable {ls0 ls:List (List Int)} {n P:Nat} {ps:List Nat} {d:Int}
theorem zW.start (w:∀zs∈ls0,zs.length=n):zW ls0 n 0 ls0 [] 1:=⟨rfl,w,⟨λi=>i,tT.start λ_ _=>rfl⟩,jq.start⟩
theorem zW.d0 (h:zW ls0 n P ls ps d):d≠0:=λz=>h.el.d0 (by rw[z];rfl)
theorem zW.skip (h:zW ls0 n P ls ps d) (hz:∀i,ps.length<=i->i < ls.length->dF ls i P=0):zW ls0 n (P+1) ls ps d:=⟨h.len,h.wide,h.bar,h.el.skip λi h1 h2=>hz i h1 (by rw[h.len];exact h2)⟩
theorem getD_snoc (hj:j < l.length+1):(l++[x]).getD j 0=if j=l.length then x else l.getD j 0:=by
 rw[aa,aa];by_cases e:j=l.length
 ·rw[if_pos e,e,cU (av _),Nat.sub_self];rfl
 ·rw[if_neg e,dG (by lia)]
theorem zW.int (h:zW ls0 n P ls ps d) (hW:1<=W) (h0:∀i,i < ls0.length->∀c,Fr 1 W (dF ls0 i c)) (ht:ps.length<=t) (ht2:t < ls.length) (hne:dF ls t P≠0) :
  ∀i,i < ls.length->i≠ps.length->∀c,∃z:Int,(dF (mM ls ps.length t) ps.length P*dF (mM ls ps.length t) i c - dF (mM ls ps.length t) i P*dF (mM ls ps.length t) ps.length c) / (d:Rat)=(z:Rat):=λi hi ne c=>by
 obtain ⟨pm,B⟩:=h.bar;have hl:=h.len;have hk:ps.length < ls.length:=by lia
 have B1:=(B.swap ht (by lia)).congr (p2:=λj=>ps.getD j 0) (l2:=dF (mM ls ps.length t)) (λ_ _=>rfl) (λi _ c=>sS hk ht2 i c)
 have h1:dF (mM ls ps.length t) ps.length P≠0:=by
  rw[sS hk ht2];unfold iT;rw[if_pos rfl];exact hne
 have B2:=B1.step (c0:=P) (by lia) h1;have:=B2.fr (W:=W) (N:=ps.length+2) (by lia) hW h0 (i:=i) (c:=c) (by lia);rw[if_neg ne] at this;exact wo this
theorem zW.step (h:zW ls0 n P ls ps d) (hW:1<=W) (h0:∀i,i < ls0.length->∀c,Fr 1 W (dF ls0 i c)) (ht:ps.length<=t) (ht2:t < ls.length) (hne:dF ls t P≠0) :
  zW ls0 n (P+1) (CH (mM ls ps.length t) ps.length P d) (ps++[P]) (((CH (mM ls ps.length t) ps.length P d).getD ps.length []).getD P 0):=by
 obtain ⟨pm,B⟩:=h.bar;have hl:=h.len;have hk:ps.length < ls.length:=by lia
 have hz:=h.int hW h0 ht ht2 hne;have w1:=DV h.wide hk ht2;have k1:ps.length < (mM ls ps.length t).length:=by rw[tW];exact hk
 have B1:=(B.swap ht (by lia)).congr (p2:=λj=>ps.getD j 0) (l2:=dF (mM ls ps.length t)) (λ_ _=>rfl) (λi _ c=>sS hk ht2 i c);have E1:=(h.el.swap ht (by lia)).congr (p2:=λj=>ps.getD j 0) (l2:=dF (mM ls ps.length t)) (λ_ _=>rfl) (λi _ c=>sS hk ht2 i c)
 have h1:dF (mM ls ps.length t) ps.length P≠0:=by
  rw[sS hk ht2];unfold iT;rw[if_pos rfl];exact hne
 have B2:=B1.step (c0:=P) (by lia) h1
 have fc:∀i,i < ls0.length->∀c,dF (CH (mM ls ps.length t) ps.length P d) i c=if i=ps.length then dF (mM ls ps.length t) ps.length c else (dF (mM ls ps.length t) ps.length P*dF (mM ls ps.length t) i c - dF (mM ls ps.length t) i P*dF (mM ls ps.length t) ps.length c) / (d:Rat):=λi hi c=>by
  by_cases e:i=ps.length
  ·rw[if_pos e];unfold dF CH;rw[pE (by rw[ag];exact k1),if_pos e]
  ·have:=HQ w1 k1 h.d0 (i:=i) (by rw[tW];lia) (hz i (by lia) e) c;rw[this]
 have ed:(((((CH (mM ls ps.length t) ps.length P d).getD ps.length []).getD P 0:Int)):Rat)=dF (mM ls ps.length t) ps.length P:=by
  have:=fc ps.length (by lia) P;rw[if_pos rfl] at this;exact this
 have lp:(ps++[P]).length=ps.length+1:=by rw[az];rfl
 have hp:∀j,j < ps.length+1->(ps++[P]).getD j 0=if j=ps.length then P else ps.getD j 0:=λj hj=>getD_snoc hj
 refine ⟨by rw[Il,tW];exact hl,EB w1 k1,⟨λi=>pm (iT ps.length t i),?_⟩,?_⟩
 ·rw[ed,lp];exact B2.congr hp fc
 ·rw[ed,lp];refine jq.congr (E1.step (d':=dF (mM ls ps.length t) ps.length P) (l':=λi c=>if i=ps.length then dF (mM ls ps.length t) ps.length c else (dF (mM ls ps.length t) ps.length P*dF (mM ls ps.length t) i c - dF (mM ls ps.length t) i P*dF (mM ls ps.length t) ps.length c) / (d:Rat)) (by lia) h1 B2.unit λi hi=>?_) hp fc;have d0:=h.el.d0;by_cases e:i=ps.length
  ·refine ⟨1,0,by decide,λ_=>rfl,λc=>?_⟩;rw[if_pos e,e];grind
  ·refine ⟨dF (mM ls ps.length t) ps.length P / (d:Rat),-(dF (mM ls ps.length t) i P) / (d:Rat),?_,λz=>absurd z e,λc=>?_⟩
   ·intro z;apply h1;grind
   ·rw[if_neg e];grind
theorem zW.sz (h:zW ls0 n P ls ps d) (hW:1<=W) (h0:∀i,i < ls0.length->∀c,Fr 1 W (dF ls0 i c)) (hP:P<=n) (hr:min ls0.length n<=r) (r15:r<=15):(d.natAbs<=(16*W)^r)/\∀zs∈ls,∀z∈zs,z.natAbs<=(16*W)^r:=by
 obtain ⟨pm,B⟩:=h.bar;have kP:=h.el.kP;have km:=B.km;have hl:=h.len;have mono:∀{s t:Nat},s<=t->(16*W)^s<=(16*W)^t:=λhs=>aw (bQ (by decide) hW) hs
 refine ⟨ar (uG (B.dfr (W:=W) (N:=16) (by lia) h0)) (mono (by lia)),λzs hz z hz'=>?_⟩;obtain ⟨i,hi,rfl⟩:=bZ hz;obtain ⟨c,hc,rfl⟩:=bZ hz';have hw:=h.wide _ (aS hi)
 have ez:dF ls i c=(((ls[i])[c]:Int):Rat):=by
  unfold dF;rw[aa (l:=ls),af hi];show ((ls[i].getD c 0:Int):Rat)=_
  rw[aa,af hc];rfl
 by_cases hk:i < ps.length
 ·have:Fr 1 ((16*W)^ps.length) (dF ls i c):=by
   have hd:=B.d0;rw[B.old hk]
   have:=zw (W:=W) (N:=16) (rs:=Bh pm ps.length) (vs:=Ih (λj r=>dF ls0 r (ps.getD j 0)) i ps.length++(λr=>dF ls0 r c) :: qL (λj r=>dF ls0 r (ps.getD j 0)) i) (by
    have:=congrArg List.length (cw_split (v:=λj r=>dF ls0 r (ps.getD j 0)) hk);rw[az,bw,cw_len] at this;rw[az,bw]
    lia) (by
    intro v hv r hr
    have hr':∀c,Fr 1 W (dF ls0 r c):=λc=>by
     obtain ⟨t,ht,rfl⟩:=ph hr;exact h0 _ (B.rng t (by lia)) c
    rcases ax.mp hv with hv | hv
    ·obtain ⟨t,_,rfl⟩:=EA hv;exact hr' _
    ·rcases aD.mp hv with rfl | hv
     ·exact hr' _
     ·obtain ⟨t,_,rfl⟩:=cw_in hv;exact hr' _)
   rwa [uk] at this
  rw[ez] at this;exact ar (uG this) (mono (by lia))
 ·by_cases hn:ps.length < n
  ·have:=B.fr (W:=W) (N:=16) (by lia) hW h0 (i:=i) (c:=c) (by lia);rw[ez] at this;exact ar (uG this) (mono (by lia))
  ·have:=h.el.zero i (by lia) (by lia) c (by lia);rw[ez] at this;rw[pK this];exact bH _
end
def Tp (M W:Nat) (q:Rat):Prop:=∃z:Int,q*(M:Rat)=(z:Rat)/\z.natAbs<=W
theorem Tp.of {M V W:Nat} (h:Fr M V q) (hW:V*M<=W):Tp M W q:=by obtain ⟨z,a,b⟩:=h;exact ⟨z,a,ar b hW⟩
theorem Tp.mono (h:Tp M W q) (hW:W<=W'):Tp M W' q:=by obtain ⟨z,a,b⟩:=h;exact ⟨z,a,ar b hW⟩
theorem Tp.fr (h:Tp M W q) (h0:0 < M):Fr M W q:=by obtain ⟨z,a,b⟩:=h;exact ⟨z,a,ar b (gD _ h0)⟩
def FF (rows:LR9) (n w:Nat):Prop:=∃M W:Nat,0 < M/\M<=2^4300/\1<=W/\W<=2^w/\(∀xs∈rows,∀x∈xs,Tp M W x)/\w<=4300/\min rows.length n<=15/\min rows.length n*(w+4)<=8900
def gH (xs:List Rat):List Int:=eK (xs.map nm) (fH (xs.map nm))
theorem rX:(gH xs).length=xs.length:=by unfold gH eK;rw[ag,ag]
theorem pL {xs:List Rat}:0 < fH (xs.map nm):=xR (by decide) λb hb=>by
 obtain ⟨n,hn,rfl⟩:=aA.mp hb;obtain ⟨x,_,rfl⟩:=aA.mp hn;exact fO x
theorem IH:(((gH xs).getD c 0:Int):Rat)=xs.getD c 0*((fH (xs.map nm):Int):Rat):=by
 unfold gH eK;rw[aa,aa,aB,aB];cases e:xs[c]? with
 | none=>show ((0:Int):Rat)=0*_;rw[Rat.zero_mul];rfl
 | some x=>exact oH (pM (aA.mpr ⟨x,ao e,rfl⟩))
section
variable {rows:LR9} {n w i c:Nat} {xs:List Rat}
theorem Bu (hi:i < rows.length):dF (rows.map gH) i c=((fH ((rows.getD i []).map nm):Int):Rat)*b8 rows i c:=by
 unfold dF b8
 have e:(rows.map gH).getD i []=gH (rows.getD i []):=by
  rw[aa,aa,aB,af hi];rfl
 rw[e,IH,cQ]
theorem nX (hw:∀xs∈rows,xs.length=n) (hc:n<=c):b8 rows i c=0:=by
 unfold b8;by_cases h:i < rows.length
 ·have:=hw _ (getD_in (e:=[]) h);rw[aa (l:=rows.getD i []),bp (by lia)];rfl
 ·rw[aa (l:=rows),bp (by lia)];rfl
theorem DR (i:Nat) (hi:i < rows.length):fI rows.length (dF (rows.map gH)) (b8 rows i):=by
 have h0:((fH ((rows.getD i []).map nm):Int):Rat)≠0:=λz=>by
  have:=pL (xs:=rows.getD i []);have:=pK z
  lia
 refine fI.congr (λc=>?_) (fI.lin (1 / ((fH ((rows.getD i []).map nm):Int):Rat)) 0 (fI.row (a:=dF (rows.map gH)) hi) (fI.row (a:=dF (rows.map gH)) hi));rw[Bu hi];grind
theorem DQ (i:Nat) (hi:i < rows.length):fI rows.length (b8 rows) (dF (rows.map gH) i):=by
 refine fI.congr (λc=>?_) (fI.lin ((fH ((rows.getD i []).map nm):Int):Rat) 0 (fI.row (a:=b8 rows) hi) (fI.row (a:=b8 rows) hi));rw[Bu hi];grind
theorem qZ (h:Tp M W x):(nm x).2∣(M:Int):=by
 obtain ⟨z,e,b⟩:=h
 exact Fr.den (V:=z.natAbs) (M:=M) ⟨z,e,by
  rcases qX M with h | h
  ·subst h;have:(z:Rat)=0:=by rw[<- e];simp
   rw[pK this];simp
  ·exact gD _ h⟩
theorem wM (h:Tp M W x) (h0:0 < M) (hB:0 < B) (d1:(nm x).2∣B) (d2:B∣(M:Int)):∃t:Int,x*(B:Rat)=(t:Rat)/\t.natAbs<=W:=by
 obtain ⟨z,e,b⟩:=h;obtain ⟨s,es⟩:=d2;refine ⟨(nm x).1*(B / (nm x).2),(oH d1).symm,?_⟩
 have s0:0 < s:=by
  rcases Int.lt_trichotomy s 0 with h | h | h
  ·have:=rW hB h
   lia
  ·rw[h] at es;lia
  ·exact h
 have e2:(((nm x).1*(B / (nm x).2)*s:Int):Rat)=(z:Rat):=by
  rw[aU,oH d1,<- e,<- bx,es,aU];grind
 have e3:=de.mp e2;have:((nm x).1*(B / (nm x).2)).natAbs*s.natAbs=z.natAbs:=by rw[<- d5,e3]
 have h1:1<=s.natAbs:=by lia
 have:=gD ((nm x).1*(B / (nm x).2)).natAbs h1
 lia
theorem A7 (h0:0 < M) (h:∀x∈xs,Tp M W x):fH (xs.map nm)∣(M:Int):=wa (by decide) (Int.one_dvd _) λb hb=>by
 obtain ⟨n,hn,rfl⟩:=aA.mp hb;obtain ⟨x,hx,rfl⟩:=aA.mp hn;exact ⟨fO x,qZ (h x hx)⟩
theorem FF.rowM (F:FF rows n w) (hx:xs∈rows):∃M,DM M (xs.map nm):=by
 obtain ⟨M,W,h0,h1,hW,h2,h3,h4,_⟩:=F;refine ⟨M,by lia,?_,λy hy=>?_⟩
 ·show ((M:Nat):Int).natAbs < 2^4400
  rw[cI];exact bc h1 (d4 (by decide) (by decide))
 ·obtain ⟨x,hx',rfl⟩:=aA.mp hy;have t:=h3 xs hx x hx';refine ⟨fO x,qZ t,?_⟩;obtain ⟨s,e,b⟩:=wM t h0 (fO x) (EM _) (qZ t);have e2:(((nm x).1:Int):Rat)=(s:Rat):=by rw[<- e];exact jV x
  rw[de.mp e2];exact bc (ar b h2) (d4 (by decide) (by lia))
theorem FF.ent (F:FF rows n w):∃W:Nat,1<=W/\W<=2^w/\∀i,i < (rows.map gH).length->∀c,Fr 1 W (dF (rows.map gH) i c):=by
 obtain ⟨M,W,h0,h1,hW,h2,h3,h4,_⟩:=F;refine ⟨W,hW,h2,λi hi c=>?_⟩;rw[ag] at hi;have hx:=getD_in (e:=[]) hi;rw[Bu hi];unfold b8;generalize rows.getD i []=xs at hx ⊢;by_cases hc:c < xs.length
 ·have t:=h3 xs hx _ (getD_in (e:=0) hc);obtain ⟨s,e,b⟩:=wM t h0 (pL (xs:=xs)) (pM (aA.mpr ⟨_,getD_in (e:=0) hc,rfl⟩)) (A7 h0 (h3 xs hx));rw[cQ,e];exact Fr.int b
 ·rw[aa,bp (by lia)];show Fr 1 W (_*0)
  rw[Rat.mul_zero];exact Fr.zero
end
def fw (rows:LR9) (n:Nat) (R:LR9) (ps:List Nat):Prop:=R.length=ps.length/\(∀xs∈R,xs.length=n)/\CS rows.length n (b8 rows) ps.length (λj=>ps.getD j 0) (b8 R)
structure NU (rows:LR9) (n w:Nat) (R:LR9) (ps:List Nat) (d:Int) (ls:List (List Int)):Prop where
 rr:fw rows n R ps
 d0:d≠0
 len:ls.length=ps.length
 wide:∀zs∈ls,zs.length=n
 val:∀i c,dF ls i c=(d:Rat)*b8 R i c
 dsz:d.natAbs<=2^(min rows.length n*(w+4))
 zsz:∀zs∈ls,∀z∈zs,z.natAbs<=2^(min rows.length n*(w+4))
 tp:∀xs∈R,∀x∈xs,Tp d.natAbs (2^(min rows.length n*(w+4))) x
 km:ps.length<=rows.length
theorem CS.congrR {a R R2:Nat->Nat->Rat} (h:CS m n a k p R) (hr:∀i,i < k->∀c,R2 i c=R i c):CS m n a k p R2 :=
 ⟨h.inc,h.low,λi hi j hj=>by rw[hr i hi];exact h.unit i hi j hj,λi hi c hc=>by rw[hr i hi];exact h.lead i hi c hc,λi hi=>(h.span i hi).rows hr,λi hi=>(h.back i hi).congr λc=>(hr i hi c).symm⟩
theorem CS.other (h:CS m n a k p R) (s1:∀i,i < m->fI m' a' (a i)) (s2:∀i,i < m'->fI m a (a' i)):CS m' n a' k p R :=
 ⟨h.inc,h.low,h.unit,h.lead,λi hi=>fI.trans h.span (s2 i hi),λi hi=>fI.trans s1 (h.back i hi)⟩
theorem uq (h:W<=2^w):(16*W)^r<=2^(r*(w+4)):=by
 calc (16*W)^r<=(2^(w+4))^r:=Nat.pow_le_pow_left (by rw[bS];lia) _
  _=2^(r*(w+4)):=by rw[<- Nat.pow_mul,cB]
theorem zW.done (h:zW (rows.map gH) n n ls ps d) (hw:∀xs∈rows,xs.length=n) (F:FF rows n w) :
  ∃R,NU rows n w R ps d (ls.take ps.length):=by
 obtain ⟨W,hW,W2,ent⟩:=F.ent;obtain ⟨_,_,_,_,_,_,_,_,r15,_⟩:=F;have hl:=h.len;have d0:=h.d0;have d0':(d:Rat)≠0:=λz=>d0 (pK z)
 have km:=h.el.km;have hm:(rows.map gH).length=rows.length:=ag ..;obtain ⟨s1,s2⟩:=h.sz (r:=min rows.length n) hW ent (av _) (by rw[hm];exact av _) r15;have s2':∀zs∈ls,∀z∈zs,z.natAbs<=2^(min rows.length n*(w+4)):=λzs hz z hz'=>ar (s2 zs hz z hz') (uq W2)
 have er:∀i c,b8 ((ls.take ps.length).map λzs=>zs.map λ(z:Int)=>(z:Rat) / (d:Rat)) i c=dF (ls.take ps.length) i c / (d:Rat):=λi c=>by
  unfold b8 dF;rw[aa (l:=List.map _ _),aB,aa (l:=List.take _ _)];cases e:(ls.take ps.length)[i]? with
  | none=>show (0:Rat)=((0:Int):Rat) / _;grind
  | some zs =>
   show (zs.map λ(z:Int)=>(z:Rat) / (d:Rat)).getD c 0=((zs.getD c 0:Int):Rat) / (d:Rat)
   rw[aa,aa,aB];cases e2:zs[c]? with
   | none=>show (0:Rat)=((0:Int):Rat) / _;grind
   | some z=>rfl
 have et:∀i,i < ps.length->∀c,dF (ls.take ps.length) i c=dF ls i c:=λi hi c=>by
  unfold dF;rw[aa (l:=List.take _ _),c7 hi,<- aa]
 have RR:=(h.el.done λi hi c hc=>xU (n:=n) (λzs hz=>by
  obtain ⟨xs,hx,rfl⟩:=aA.mp hz;rw[rX];exact hw xs hx) hc).congrR (R2:=b8 ((ls.take ps.length).map λzs=>zs.map λ(z:Int)=>(z:Rat) / (d:Rat))) λi hi c=>by rw[er,et i hi]
 rw[hm] at RR;refine ⟨(ls.take ps.length).map λzs=>zs.map λ(z:Int)=>(z:Rat) / (d:Rat),⟨by rw[ag,bY];lia,λxs hx=>?_,RR.other DQ DR⟩,d0,by rw[bY];lia,λzs hz=>h.wide zs (cf hz),λi c=>?_,ar s1 (uq W2),λzs hz=>s2' zs (cf hz),λxs hx x hx'=>?_,by lia⟩
 ·obtain ⟨zs,hz,rfl⟩:=aA.mp hx;rw[ag];exact h.wide zs (cf hz)
 ·rw[er];grind
 ·obtain ⟨zs,hz,rfl⟩:=aA.mp hx;obtain ⟨z,hz',rfl⟩:=aA.mp hx';have b:=s2' zs (cf hz) z hz';rcases Mh d with e | e
  ·refine ⟨z,?_,b⟩;have:((d.natAbs:Nat):Rat)=(d:Rat):=by rw[<- bx,<- e]
   rw[this];grind
  ·refine ⟨-z,?_,by rw[z6];exact b⟩;have:((d.natAbs:Nat):Rat)=-(d:Rat):=by rw[<- bx,<- eH];congr 1;lia
   rw[this,eH];grind
theorem LQ (hl:R.length=R'.length) (w1:∀xs∈R,xs.length=n) (w2:∀xs∈R',xs.length=n) (h:∀i,i < R.length->∀c,b8 R i c=b8 R' i c):R=R':=by
 apply gE hl;intro i h1 h2;apply gE (by rw[w1 _ (aS h1),w2 _ (aS h2)]);intro c h3 h4;have:=h i h1 c;unfold b8 at this;rw[aa (l:=R),aa (l:=R'),af h1,af h2] at this;have this:(R[i]).getD c 0=(R'[i]).getD c 0:=this;rw[aa,aa,af h3,af h4] at this;exact this
theorem fw.uniq (h:fw rows n R ps) (h':fw rows' n R' ps') (s1:∀i,i < rows.length->fI rows'.length (b8 rows') (b8 rows i)) (s2:∀i,i < rows'.length->fI rows.length (b8 rows) (b8 rows' i)):R=R'/\ps=ps':=by
 obtain ⟨l1,w1,r1⟩:=h;obtain ⟨l2,w2,r2⟩:=h';obtain ⟨ek,ep,eR⟩:=r1.uniq r2 s1 s2;refine ⟨LQ (by lia) w1 w2 λi hi c=>eR i (by lia) c,?_⟩;apply gE ek;intro j h1 h2;have:=ep j h1;rw[aa,aa,af h1,af h2] at this;exact this
theorem fw.same (h:fw rows n R ps) (h':fw rows n R' ps'):R=R'/\ps=ps':=h.uniq h' (λ_ hi=>fI.row hi) (λ_ hi=>fI.row hi)
open PySem PySem.Spec PyProof.Rows
def EE (l:Addr) (H:Hp) (zs:List Int) (v:V):Prop:=∃q,v=V.ref q/\q≠l/\H q=some (.lst (zs.map V.int))
def pP (l:Addr) (H:Hp) (p:Addr) (ls:List (List Int)):Prop:=p≠l/\∃xs,H p=some (.lst xs)/\Paired (EE l H) ls xs
theorem EE.same (h:EE l H zs v) (e:aE H H'):EE l H' zs v:=by obtain ⟨q,a,n,b⟩:=h;exact ⟨q,a,n,e _ _ b⟩
theorem EE.upd {l:Addr} {H:Hp} {zs:List Int} {v:V} {o:HO} (h:EE l H zs v):EE l (upd H l o) zs v:=by obtain ⟨q,a,n,b⟩:=h;exact ⟨q,a,n,by rw[a9 n];exact b⟩
theorem pP.upd {l:Addr} {H:Hp} {p:Addr} {ls:List (List Int)} {o:HO} (h:pP l H p ls):pP l (upd H l o) p ls:=by obtain ⟨n,xs,a,b⟩:=h;exact ⟨n,xs,by rw[a9 n];exact a,Paired.imp' (λ_ _ z=>z.upd) b⟩
theorem ne_old {H:Hp} (h:H l≠none) (n:H r=none):r≠l:=λz=>h (by rw[<- z];exact n)
theorem j8 {α β:Type} {F:α->β->Prop}:∀{l1:List α} {l2:List β} (_:Paired F l1 l2) (i:Nat) {x:α} {y:β},F x y->Paired F (l1.set i x) (l2.set i y)
 | _,_,.nil,_,_,_,_=>.nil
 | _,_,.cons _ r,0,_,_,h=>.cons h r
 | _,_,.cons a r,i+1,_,_,h=>.cons a (j8 r i h)
theorem KE (h:ls[i]?=some zs):dF ls i c=((zs.getD c 0:Int):Rat):=by
 unfold dF;rw[aa (l:=ls),h];rfl
theorem NF:((z:Int):Rat)≠0↔z≠0:=⟨λh e=>h (by rw[e];rfl),λh e=>h (pK e)⟩
theorem Bt {zs:List Int} (h:c < zs.length):FE (zs.map V.int) (c:Int)=some (V.int (zs.getD c 0)):=cX (by rw[aB,aa,af h];rfl)
inductive y8 (vs:List V) (H:Hp) (Q:VK) (E9:XK):Prop
 | mk (l p:Addr) (ls:List (List Int)) (b c:Nat):vs=[.ref p,.int b,.int c]->pP l H p ls->ls.length<=1000->b<=1000->(∀zs∈ls,c < zs.length)->(∀t:Nat,b<=t->t < ls.length->dF ls t c≠0->Q (.int t) H)->((∀t,b<=t->t < ls.length->dF ls t c=0)->Q .non H)->y8  vs H Q E9
inductive uN (vs:List V) (H:Hp) (Q:VK) (E9:XK):Prop
 | mk (l p:Addr) (ls:List (List Int)) (t k:Nat):vs=[.ref p,.int t,.int k]->H l≠none->pP l H p ls->ls.length<=1000->t < ls.length->k < ls.length->(∀r H',H r=none->aE H H'->pP l H' r (mM ls k t)->Q (.ref r) H')->uN  vs H Q E9
inductive y9 (vs:List V) (H:Hp) (Q:VK) (E9:XK):Prop
 | mk (l p:Addr) (ls:List (List Int)) (k c n:Nat) (b:Int):vs=[.ref p,.int k,.int c,.int b]->H l≠none->pP l H p ls->ls.length<=1000->k < ls.length->(∀zs∈ls,zs.length=n)->n<=1000->c < n->b≠0->Sz 8999 b->(∀zs∈ls,∀z∈zs,Sz 8999 z)->(∀r H',H r=none->aE H H'->pP l H' r (CH ls k c b)->Q (.ref r) H')->y9  vs H Q E9
theorem GC (K:FG9) {X:Cx} {a b:Expr} {ta:TA} {p pos tpos:Pos} {elts:List Expr} {kk:Nat} (hg:Gl X "zip") (hm:X.mg "zip"=none) (ha:PA X [a,b] ta) (hK:X.K=K:=by rfl) (hs:starEach [a,b] X.env=[(false,eval a X.env),(false,eval b X.env)]:=by rfl) (hs2:starEach [b] X.env=[(false,eval b X.env)]:=by rfl) :
  PI X (.Tuple elts kk tpos) (.Call (.Name "zip" p) [a,b] [] pos) (LM K ta):=by subst hK;exact v7 hg hm ha hs hs2
def dn (ps:List Nat):List V:=ps.map λ(j:Nat)=>V.int (j:Int)
inductive yV (K:FG9) (vs:List V) (H:Hp) (Q:VK) (E9:XK):Prop
 | mk (p:Addr) (n w:Nat) (H0:Hp) (rows:LR9):vs=[.ref p,.int n]->bK K H0 H p rows->rows.length<=100->n<=100->(∀xs∈rows,xs.length=n)->FF rows n w->(∀t lp qp R ps d ls H',H' t=some (.tup [.ref lp,.ref qp])->H' qp=some (.lst (dn ps))->pP qp H' lp ls->aE H H'->NU rows n w R ps d ls->Q (.ref t) H')->yV K vs H Q E9
inductive uL (K:FG9) (vs:List V) (H:Hp) (Q:VK) (E9:XK):Prop
 | mk (p:Addr) (n w:Nat) (H0:Hp) (rows:LR9):vs=[.ref p,.int n]->bK K H0 H p rows->rows.length<=100->n<=100->(∀xs∈rows,xs.length=n)->FF rows n w->(∀r R ps M H',H r=none->aE H H'->bK K H H' r R->fw rows n R ps->ps.length<=rows.length->0 < M->M<=2^(min rows.length n*(w+4))->(∀xs∈R,∀x∈xs,Tp M (2^(min rows.length n*(w+4))) x)->Q (.ref r) H')->uL K vs H Q E9
def vU (rows:LR9) (i:Nat):Rat:=((fH ((rows.getD i []).map nm):Int):Rat)
theorem wy:vU rows i≠0:=λz=>by
 have:=pL (xs:=rows.getD i []);have:=pK z
 lia
structure yv (rows:LR9) (n P:Nat) (rs:LR9) (ps:List Nat):Prop where
 len:rs.length=rows.length
 wide:∀xs∈rs,xs.length=n
 ex:∃pm l d,tT (dF (rows.map gH)) rows.length ps.length pm (λj=>ps.getD j 0) l d/\jq (dF (rows.map gH)) rows.length ps.length P (λj=>ps.getD j 0) l d/\∀i,i < rows.length->∀c,b8 rs i c=l i c / (d*if i < ps.length then 1 else vU rows (pm i))
section
variable {rows rs rs':LR9} {n P w a:Nat} {ps:List Nat}
theorem GX {k i j:Nat} (h:d≠0):d*(if i < k then 1 else vU rows j)≠0:=by
 have:=wy (rows:=rows) (i:=j)
 split <;> grind
theorem yv.start (hw:∀xs∈rows,xs.length=n):yv rows n 0 rows []:=⟨rfl,hw,λi=>i,dF (rows.map gH),1,tT.start λ_ _=>rfl,jq.start,λi hi c=>by
 rw[Bu hi,if_neg (by show ¬i < 0;lia)];have:=wy (rows:=rows) (i:=i);show b8 rows i c=vU rows i*b8 rows i c / (1*vU rows i)
 grind⟩
theorem yv.skip (h:yv rows n P rs ps) (hz:∀i,ps.length<=i->i < rs.length->b8 rs i P=0):yv rows n (P+1) rs ps:=by
 obtain ⟨len,wide,pm,l,d,B,E,v⟩:=h;refine ⟨len,wide,pm,l,d,B,E.skip λi h1 h2=>?_,v⟩;have:=v i h2 P;rw[hz i h1 (by lia)] at this;have ne:=GX (rows:=rows) (i:=i) (j:=pm i) (k:=ps.length) B.d0;generalize d*(if i < ps.length then 1 else vU rows (pm i))=D at this ne;grind
theorem yv.km (h:yv rows n P rs ps):ps.length<=rows.length/\ps.length<=P:=by obtain ⟨_,_,_,_,_,_,E,_⟩:=h;exact ⟨E.km,E.kP⟩
theorem yv.step (h:yv rows n P rs ps) (ht:ps.length<=t) (ht2:t < rs.length) (hne:b8 rs t P≠0) (l':rs'.length=rows.length) (w':∀xs∈rs',xs.length=n)
  (hv:∀i,i < rows.length->∀c,b8 rs' i c=if i=ps.length then 1 / b8 rs t P*b8 rs t c else b8 rs (iT ps.length t i) c - b8 rs (iT ps.length t i) P*(1 / b8 rs t P*b8 rs t c)):yv rows n (P+1) rs' (ps++[P]):=by
 obtain ⟨len,wide,pm,l,d,B,E,v⟩:=h;have hk:ps.length < rows.length:=by lia
 have B1:=B.swap ht (by lia);have E1:=E.swap ht (by lia);have d0:=B.d0
 have v1:∀i,i < rows.length->∀c,b8 rs (iT ps.length t i) c=l (iT ps.length t i) c / (d*if i < ps.length then 1 else vU rows (pm (iT ps.length t i))):=λi hi c=>by
  rw[v _ (qh hk (by lia) hi) c];by_cases z:i < ps.length
  ·rw[rg ht z,if_pos z]
  ·rw[if_neg z,if_neg (by have:=sv ht (show ps.length<=i by lia);lia)]
 have sk:iT ps.length t ps.length=t:=by unfold iT;rw[if_pos rfl]
 have vt:∀c,b8 rs t c=l (iT ps.length t ps.length) c / (d*vU rows (pm (iT ps.length t ps.length))):=λc=>by
  have:=v1 ps.length hk c;rw[if_neg (by lia),sk] at this;rw[sk];exact this
 have bt:=wy (rows:=rows) (i:=pm (iT ps.length t ps.length));have h1:l (iT ps.length t ps.length) P≠0:=λz=>hne (by rw[vt P,z];grind)
 have B2:=B1.step (c0:=P) hk h1;have lp:(ps++[P]).length=ps.length+1:=by rw[az];rfl
 have hp:∀j,j < ps.length+1->(ps++[P]).getD j 0=if j=ps.length then P else ps.getD j 0:=λj hj=>getD_snoc hj
 refine ⟨l',w',λi=>pm (iT ps.length t i),_,_,by rw[lp];exact B2.congr (l2:=λi c=>if i=ps.length then l (iT ps.length t ps.length) c else (l (iT ps.length t ps.length) P*l (iT ps.length t i) c - l (iT ps.length t i) P*l (iT ps.length t ps.length) c) / d) hp (λ_ _ _=>rfl),?_,λi hi c=>?_⟩
 ·rw[lp];refine jq.congr (E1.step (d':=l (iT ps.length t ps.length) P) (l':=λi c=>if i=ps.length then l (iT ps.length t ps.length) c else (l (iT ps.length t ps.length) P*l (iT ps.length t i) c - l (iT ps.length t i) P*l (iT ps.length t ps.length) c) / d) hk h1 B2.unit λi hi=>?_) hp (λ_ _ _=>rfl);by_cases e:i=ps.length
  ·refine ⟨1,0,by decide,λ_=>rfl,λc=>?_⟩;rw[if_pos e,e];grind
  ·refine ⟨l (iT ps.length t ps.length) P / d,-(l (iT ps.length t i) P) / d,?_,λz=>absurd z e,λc=>?_⟩
   ·intro z;apply h1;grind
   ·rw[if_neg e];grind
 ·rw[hv i hi c,lp,vt c,vt P];by_cases e:i=ps.length
  ·rw[if_pos e,if_pos e,if_pos (by lia)];grind
  ·rw[if_neg e,if_neg e,v1 i hi c,v1 i hi P];have ne:=GX (rows:=rows) (i:=i) (j:=pm (iT ps.length t i)) (k:=ps.length) d0;by_cases z:i < ps.length
   ·rw[if_pos z,if_pos (by lia)];grind
   ·have bi:=wy (rows:=rows) (i:=pm (iT ps.length t i));rw[if_neg z,if_neg (by lia)];grind
theorem yv.done (h:yv rows n n rs ps) (hw:∀xs∈rows,xs.length=n):fw rows n (rs.take ps.length) ps:=by
 obtain ⟨len,wide,pm,l,d,B,E,v⟩:=h;have km:=E.km;refine ⟨by rw[bY];lia,λxs hx=>wide xs (cf hx),CS.other ((E.done λi hi c hc=>?_).congrR λi hi c=>?_) DQ DR⟩
 ·exact xU (n:=n) (λzs hz=>by
   obtain ⟨xs,hx,rfl⟩:=aA.mp hz;rw[rX];exact hw xs hx) hc
 ·have e:b8 (rs.take ps.length) i c=b8 rs i c:=by
   unfold b8;rw[aa (l:=List.take _ _),c7 hi,<- aa]
  rw[e,v i (by lia) c,if_pos hi,Rat.mul_one]
def Kx (rows:LR9) (n w a:Nat):Prop:=∃M W:Nat,0 < M/\M<=2^a/\1<=W/\W<=2^w/\(∀xs∈rows,∀x∈xs,Tp M W x)/\min rows.length n<=15/\2*(min rows.length n*(w+4)+a)<=3990
theorem Kx.ent (F:Kx rows n w a):∃W:Nat,1<=W/\W<=2^w/\∀i,i < rows.length->∀c,Fr 1 W (dF (rows.map gH) i c):=by
 obtain ⟨M,W,h0,h1,hW,h2,h3,_⟩:=F;refine ⟨W,hW,h2,λi hi c=>?_⟩;have hx:=getD_in (e:=[]) hi;rw[Bu hi];unfold b8;generalize rows.getD i []=xs at hx ⊢;by_cases hc:c < xs.length
 ·have t:=h3 xs hx _ (getD_in (e:=0) hc);obtain ⟨s,e,b⟩:=wM t h0 (pL (xs:=xs)) (pM (aA.mpr ⟨_,getD_in (e:=0) hc,rfl⟩)) (A7 h0 (h3 xs hx));rw[cQ,e];exact Fr.int b
 ·rw[aa,bp (by lia)];show Fr 1 W (_*0)
  rw[Rat.mul_zero];exact Fr.zero
theorem Kx.bot (F:Kx rows n w a) (hi:i < rows.length):∃b:Nat,0 < b/\b<=2^a/\vU rows i=(b:Rat):=by
 obtain ⟨M,W,h0,h1,hW,h2,h3,_⟩:=F;have hx:=getD_in (e:=[]) hi;have p:=pL (xs:=rows.getD i []);have dv:=A7 h0 (h3 _ hx);refine ⟨(fH ((rows.getD i []).map nm)).natAbs,by lia,ar (fM h0 ?_) h1,?_⟩
 ·have:=dN.mpr dv;rwa [cI] at this
 ·unfold vU;rw[<- bx];congr 1
  lia
theorem KI {z y:Int} (hl:l=(z:Rat)) (hD:D=(y:Rat)) (h0:D≠0) (hz:z.natAbs<=W):Tp y.natAbs W (l / D):=by
 rcases Mh y with e | e
 ·refine ⟨z,?_,hz⟩;have:((y.natAbs:Nat):Rat)=D:=by rw[<- bx,<- e,hD]
  rw[this,hl];grind
 ·refine ⟨-z,?_,by rw[z6];exact hz⟩;have:((y.natAbs:Nat):Rat)=-D:=by rw[<- bx,hD,<- eH];congr 1;lia
  rw[this,hl,eH];grind
theorem yv.sz (h:yv rows n P rs ps) (F:Kx rows n w a) (hP:P<=n) (hi:i < rows.length):∃D:Nat,0 < D/\D<=2^(min rows.length n*(w+4)+a)/\∀c,Tp D (2^(min rows.length n*(w+4))) (b8 rs i c):=by
 obtain ⟨len,wide,pm,l,d,B,E,v⟩:=h;obtain ⟨W,hW,W2,ent⟩:=F.ent;obtain ⟨_,_,_,_,_,_,_,r15,_⟩:=id F;have kP:=E.kP;have km:=B.km;have mono:∀{s t:Nat},s<=t->(16*W)^s<=(16*W)^t:=λhs=>aw (bQ (by decide) hW) hs
 obtain ⟨y,ey⟩:=wo (B.dfr (W:=W) (N:=16) (by lia) ent);have hy:=B.dfr (W:=W) (N:=16) (by lia) ent;rw[ey] at hy;have yb:y.natAbs<=2^(min rows.length n*(w+4)):=ar (uG hy) (ar (mono (show ps.length<=min rows.length n by lia)) (uq W2));have y0:y≠0:=λz=>B.d0 (by rw[ey,z];rfl)
 have lb:∀c,∃z:Int,l i c=(z:Rat)/\z.natAbs<=2^(min rows.length n*(w+4)):=λc=>by
  by_cases hk:i < ps.length
  ·have f:Fr 1 ((16*W)^ps.length) (l i c):=by
    rw[B.old hk]
    have:=zw (W:=W) (N:=16) (rs:=Bh pm ps.length) (vs:=Ih (λj r=>dF (rows.map gH) r (ps.getD j 0)) i ps.length++(λr=>dF (rows.map gH) r c) :: qL (λj r=>dF (rows.map gH) r (ps.getD j 0)) i) (by
     have:=congrArg List.length (cw_split (v:=λj r=>dF (rows.map gH) r (ps.getD j 0)) hk);rw[az,bw,cw_len] at this;rw[az,bw]
     lia) (by
     intro v hv r hr
     have hr':∀c,Fr 1 W (dF (rows.map gH) r c):=λc=>by
      obtain ⟨t,ht,rfl⟩:=ph hr;exact ent _ (B.rng t (by lia)) c
     rcases ax.mp hv with hv | hv
     ·obtain ⟨t,_,rfl⟩:=EA hv;exact hr' _
     ·rcases aD.mp hv with rfl | hv
      ·exact hr' _
      ·obtain ⟨t,_,rfl⟩:=cw_in hv;exact hr' _)
    rwa [uk] at this
   obtain ⟨z,ez⟩:=wo f;rw[ez] at f;exact ⟨z,ez,ar (uG f) (ar (mono (by lia)) (uq W2))⟩
  ·by_cases hn:ps.length < n
   ·have f:=B.fr (W:=W) (N:=16) (by lia) hW ent (i:=i) (c:=c) hi;obtain ⟨z,ez⟩:=wo f;rw[ez] at f;exact ⟨z,ez,ar (uG f) (ar (mono (by lia)) (uq W2))⟩
   ·refine ⟨0,?_,bH _⟩;by_cases hc:c < n
    ·rw[E.zero i (by lia) hi c (by lia)];rfl
    ·have:=v i hi c;rw[nX wide (by lia)] at this;have ne:=GX (rows:=rows) (i:=i) (j:=pm i) (k:=ps.length) B.d0;generalize d*(if i < ps.length then 1 else vU rows (pm i))=D at this ne;show l i c=0
     grind
 obtain ⟨b,b0,b1,eb⟩:∃b:Nat,0 < b/\b<=2^a/\(if i < ps.length then 1 else vU rows (pm i))=(b:Rat):=by
  by_cases hk:i < ps.length
  ·exact ⟨1,by decide,dP,by rw[if_pos hk];rfl⟩
  ·obtain ⟨b,x1,x2,x3⟩:=F.bot (B.rng i hi);exact ⟨b,x1,x2,by rw[if_neg hk,x3]⟩
 have eD:d*(b:Rat)=((y*b:Int):Rat):=by rw[aU,ey,bx]
 refine ⟨(y*b).natAbs,?_,?_,λc=>?_⟩
 ·rw[d5,cI];exact bQ (by lia) b0
 ·rw[d5,cI,bS];exact bf yb b1
 ·obtain ⟨z,ez,bz⟩:=lb c;rw[v i hi c,eb];refine KI ez eD (λq=>?_) bz;rw[eD] at q;have:=pK q;rcases Int.mul_eq_zero.mp this with q | q
  ·exact y0 q
  ·lia
end
theorem Ab (h:Tp M W x) (h0:0 < M) (h1:M<=2^3995) (h2:W<=2^3995):ky x:=by
 refine ⟨?_,?_⟩
 ·obtain ⟨s,e,b⟩:=wM h h0 (fO x) (EM _) (qZ h);have e2:(((nm x).1:Int):Rat)=(s:Rat):=by rw[<- e];exact jV x
  rw[de.mp e2];exact bc (ar b h2) (d4 (by decide) (by decide))
 ·have:=fM h0 (kv.mp (qZ h));show ((x.den:Nat):Int).natAbs < _
  rw[cI];exact bc (ar this h1) (d4 (by decide) (by decide))
theorem Tp.mul (h:Tp M W x) (h':Tp M' W' y):Tp (M*M') (W*W') (x*y):=by
 obtain ⟨z,e,b⟩:=h;obtain ⟨z',e',b'⟩:=h';refine ⟨z*z',?_,by rw[d5];exact bf b b'⟩;rw[aU,<- e,<- e',yx];grind
theorem IK (h:ky x) (h0:x≠0):ky (1 / x):=by
 have n0:x.num≠0:=λz=>h0 (Rat.num_eq_zero.mp z)
 have e:=jV x;have e1:(1 / x)*(x.num:Rat)=(x.den:Rat):=by rw[e];grind
 have t:Tp x.num.natAbs x.den (1 / x):=by
  rcases Mh x.num with q | q
  ·refine ⟨x.den,?_,by simp⟩;have:((x.num.natAbs:Nat):Rat)=(x.num:Rat):=by rw[<- bx,<- q]
   rw[this,e1,bx]
  ·refine ⟨-(x.den:Int),?_,by simp⟩;have:((x.num.natAbs:Nat):Rat)=-(x.num:Rat):=by rw[<- bx,<- eH];congr 1;lia
   rw[this,eH,bx,<- e1];grind
 obtain ⟨h1,h2⟩:=h;have h1:x.num.natAbs < 2^4000:=h1;have h2:((x.den:Nat):Int).natAbs < 2^4000:=h2;rw[cI] at h2;refine ⟨?_,?_⟩
 ·obtain ⟨s,e,b⟩:=wM t (by lia) (fO (1 / x)) (EM _) (qZ t);have e2:(((nm (1 / x)).1:Int):Rat)=(s:Rat):=by rw[<- e];exact jV (1 / x)
  rw[de.mp e2];exact bc b h2
 ·have:=fM (show 0 < x.num.natAbs by lia) (kv.mp (qZ t));show (((1 / x).den:Nat):Int).natAbs < _
  rw[cI];exact bc this h1
inductive wW (K:FG9) (vs:List V) (H:Hp) (Q:VK) (E9:XK):Prop
 | mk (u v:V) (x y:Rat):vs=[u,v]->bU K H x u->bU K H y v->ky x->ky y->y≠0->(∀r H',aE H H'->bU K H' (x / y) (.ref r)->Q (.ref r) H')->wW K vs H Q E9
theorem Ce {K:FG9} (h:wW K vs H Q E):IT K vs H Q E:=by
 obtain ⟨u,v,x,y,rfl,⟨p,rfl,hp⟩,⟨q,rfl,hq⟩,⟨s1,s2⟩,⟨s3,s4⟩,y0,k⟩:=h;have n0:(nm y).1≠0:=λz=>y0 (Rat.num_eq_zero.mp z)
 have px:=fO x;have py:=fO y;have e1:=nD x;have e2:=nD y;have dx:(((nm x).2:Int):Rat)≠0:=λz=>by have:=pK z;lia
 have dy:(((nm y).2:Int):Rat)≠0:=λz=>by have:=pK z;lia
 refine ⟨p,q,_,_,_,_,rfl,hp,hq,px,py,n0,s1,s2,s3,s4,λr H' s g=>k r H' s (bU.mk g ?_)⟩;by_cases hc:(nm y).1 < 0
 ·rw[if_pos hc,if_pos hc];refine nV (by have:=rW px hc;lia) ?_;rw[yy,yy,aU,aU,e1,e2];show x / y*(((0:Int):Rat) - _)=((0:Int):Rat) - _
  grind
 ·rw[if_neg hc,if_neg hc];refine nV (iX px (by lia)) ?_;rw[aU,aU,e1,e2];grind
inductive y7 (K:FG9) (vs:List V) (H:Hp) (Q:VK) (E9:XK):Prop
 | mk (p q:Addr) (xs ys:List Rat):vs=[.ref p,.ref q]->cM K H p xs->cM K H q ys->ys.length=xs.length->xs.length<=1000->(∀x∈xs,ky x)->(∀y∈ys,ky y)->(∀r H',H r=none->aE H H'->cM K H' r (List.zipWith (λx y=>x - y) xs ys)->Q (.ref r) H')->y7 K vs H Q E9
theorem LO {xs ys:List Rat} (h:xs.length=ys.length):(List.zipWith (λx y=>x - y) xs ys).getD c 0=xs.getD c 0 - ys.getD c 0:=by
 rw[aa,aa,aa,bO];by_cases hc:c < xs.length
 ·rw[af hc,af (show c < ys.length by lia)];rfl
 ·rw[bp (by lia),bp (by lia)];show (0:Rat)=0 - 0
  grind
theorem HJ {xs:List Rat}:(xs.map λy=>q*y).getD c 0=q*xs.getD c 0:=by
 rw[aa,aa,aB];cases xs[c]? with
 | none=>show (0:Rat)=q*0;grind
 | some x=>rfl
inductive BO (K:FG9) (vs:List V) (H:Hp) (Q:VK) (E9:XK):Prop
 | mk (p:Addr) (n:Nat) (H0:Hp) (R:LR9) (ps:List Nat):vs=[.ref p]->bK K H0 H p R->R.length<=100->n<=100->(∃rows,fw rows n R ps)->(∀r H',H r=none->aE H H'->H' r=some (.lst (dn ps))->Q (.ref r) H')->BO K vs H Q E9
theorem CY {xs ys:List Rat} (h:ys.length=xs.length):List.zipWith (λx y=>x - y) xs ys=(List.range xs.length).map λi=>xs.getD i 0 - ys.getD i 0:=by
 apply iS;intro i;rw[bO,aB];by_cases hi:i < xs.length
 ·rw[cO hi,af hi,af (show i < ys.length by lia)];simp [aa,af hi,af (show i < ys.length by lia)]
 ·rw[bp (show (List.range xs.length).length<=i by simp;lia),bp (show xs.length<=i by lia)];rfl
theorem zo {K:FG9} {rows:LR9} (pr:Paired (c4 K H0 H) rows vs) (s:aE H H') (n:H q=none) (g:H' q=some (.lst vs)):bK K H0 H' q rows :=
 ⟨vs,g,Paired.imp' (λ_ _ z=>z.same s) pr,λz=>by
  obtain ⟨_,_,q',e,_,_,g',_⟩:=cJ pr z;cases e;rw[n] at g';cases g'⟩
theorem IJ:ky 1:=Ab (M:=1) (W:=1) ⟨1,by simp,by decide⟩ (by decide) dP dP
theorem Fz {K:FG9} {g:TG} (Pv:Nat->List V->Hp->Prop) (hz:xs.length<=sizeLine) (h0:Pv 0 [] H) (hl:∀i ys H,i<=xs.length->Pv i ys H->bD K H l xs)
  (hs:∀i x ys H p,xs[i]?=some x->ys.length<=i->Pv i ys H->H p=none->oI σ₀ g tf te (.ref p) (upd H p (.tup [.int i,x])) (λy H'=>Pv (i+1) (ys++[y]) H') (λH'=>Pv (i+1) ys H'))
  (hd:∀ys H,ys.length<=xs.length->Pv xs.length ys H->∀p,H p=none->Q (.ref p) (upd H p (.lst ys))):pR (L6 K l) σ₀ g tf te Q H:=by
 refine ⟨λi m ys H=>m=xs.length - i/\i<=xs.length/\ys.length<=i/\Pv i ys H,⟨xs.length,by simp,bH _,bH _,h0⟩,?_⟩;rintro i m ys H ⟨rfl,hi,hy,p⟩;have q1:=hl i ys H hi p;by_cases hlt:i < xs.length
 ·refine .inr ⟨⟨xs,xs[i],q1,by simp [hlt]⟩,by lia,λy H'=>Pv (i+1) (ys++[y]) H',λH'=>Pv (i+1) ys H',λy H' p'=>⟨xs.length - (i+1),by lia,rfl,hlt,by rw[az,cA];lia,p'⟩,λH' p'=>⟨xs.length - (i+1),by lia,rfl,hlt,by lia,p'⟩,λx H' y=>?_⟩;obtain ⟨r,x',rfl,hr,rfl,e1⟩:=y;exact hs i x' ys _ r (e1 xs q1) hy p hr
 ·have e:i=xs.length:=by lia
  subst e;exact .inl ⟨⟨xs,q1,av _⟩,by lia,hd ys H hy p⟩
section
variable {X:Cx}
theorem FA (hc:X.calm=true):mH X (.builtin "min") (λxs H Q=>∃(p:Addr) (ns:List Int),xs=[.ref p]/\bD X.K H p (ns.map V.int)/\0 < ns.length/\∀M,M∈ns->(∀a,a∈ns->M<=a)->Q (.int M) H):=by
 intro pins s σ H xs us Q I r h;obtain ⟨p,ns,rfl,hp,hne,q⟩:=h;obtain ⟨u,rfl,ru⟩:=vals1 r;cases ru;obtain ⟨its,r2,pl,_⟩:=I.list hp;have hi:=intsAre_of r2;have hl:=pl.isList;obtain ⟨xs,e⟩:=hi.allInts.items
 have hns:ns=xs.toList.map (·.1):=by
  rw[<- hi.numsOf,<- nums_intItems,<- e]
 have hsz:0 < xs.size:=by
  have h3:=hne;rw[hns,ag,Array.length_toList] at h3;exact h3
 rw[e] at hl;refine min_intList (I.ok.hd hc) hl hsz λv h' tk hv hk=>?_
 obtain ⟨t,rfl⟩:=intItems_at hv;obtain ⟨h1,h2⟩:=argBest_lt (numAt xs) (xs.size - 1);refine ⟨.int _,H,I.kept hk,⟨_,rfl⟩,q _ ?_ λa ha=>?_⟩
 ·rw[hns,numAt_eq];exact getD_in (by rw[ag,Array.length_toList];lia)
 ·rw[hns] at ha;obtain ⟨j,hj,rfl⟩:=mem_getD ha;rw[ag,Array.length_toList] at hj;rw[<- numAt_eq];exact h2 j (by lia)
end
theorem GQ:(dn ps).length=ps.length:=ag ..
def pC (ps:List Nat):List Int:=ps.map λ(j:Nat)=>(j:Int)
theorem zi:dn ps=(pC ps).map V.int:=by unfold dn pC;rw[EL];rfl
theorem paired_ints {K:FG9} {H:Hp}:∀{zs:List Int},Paired (λa x=>Fn.R K H x a) zs (zs.map V.int)
 | []=>.nil
 | z :: zs=>.cons rfl paired_ints
theorem pY {K:FG9} (h:H p=some (.lst (dn ps))):(Fm Fn).R K H (.ref p) (pC ps):=⟨p,dn ps,rfl,bD.of h,by rw[zi];exact paired_ints⟩
def Cp (xs:List Rat) (i:Nat):List Nat:=(List.range i).filter λc=>decide (xs.getD c 0≠0)
theorem v9:Cp xs (i+1)=if xs.getD i 0≠0 then Cp xs i++[i] else Cp xs i:=by
 unfold Cp;rw[Iz,List.filter_append];by_cases h:xs.getD i 0≠0
 ·rw[if_pos h,List.filter_cons_of_pos (by simpa using h)];rfl
 ·rw[if_neg h,List.filter_cons_of_neg (by simpa using h)];simp
inductive BN (K:FG9) (vs:List V) (H:Hp) (Q:VK) (E9:XK):Prop
 | mk (p:Addr) (xs:List Rat) (j:Nat):vs=[.ref p]->cM K H p xs->xs.length<=1000->j < xs.length->xs.getD j 0≠0->(∀c,c < j->xs.getD c 0=0)->(∀H',aE H H'->Q (.int (j:Int)) H')->BN K vs H Q E9
section
variable {R rows:LR9} {ps:List Nat} {n a j:Nat}
theorem mh:∀{xs ys:List Rat},xs.length=ys.length->cZ xs ys=bL xs.length λc=>xs.getD c 0*ys.getD c 0:=by
 intro xs ys h
 have key:∀k,k<=xs.length->cZ (xs.take k) (ys.take k)=bL k λc=>xs.getD c 0*ys.getD c 0:=by
  intro k
  induction k with
  | zero=>intro _;rfl
  | succ k ih =>
   intro hk;rw[zx (by lia) (by lia),ih (by lia)];rfl
 have:=key xs.length (av _);rwa [aJ (av _),aJ (by lia)] at this
end
def NP:Kind Str where
 R:=λ_ _ x i=>x=.str i
 d:=0
 inj:=λ_ h1 h2=>by rw[h1] at h2;cases h2;rfl
 rc:=λ{X pins σ H s x y v u a b A} I rx ry h1 h2 _=>by
  subst h1 h2;obtain ⟨t,rfl⟩:=rx;obtain ⟨t',rfl⟩:=ry;have q:=SeqAt.RcAt.str_str (A:=A) (s:=s) a t b t';rwa [cP] at q
 ne:=λ{X pins σ H s x y v u a b A} I rx ry h1 h2 _=>by
  subst h1 h2;obtain ⟨t,rfl⟩:=rx;obtain ⟨t',rfl⟩:=ry;have q:=SeqAt.RcNeAt.str_str (A:=A) (s:=s) a t b t';rwa [cP] at q
 eq:=λ{X pins σ H s x y v u a b A} I rx ry h1 h2 _=>by
  subst h1 h2;obtain ⟨t,rfl⟩:=rx;obtain ⟨t',rfl⟩:=ry;have q:=SeqAt.EqAt.str_str (A:=A) (s:=s) a t b t';rwa [cP] at q
theorem JJ {q:Rat} (h:q.den<=9):q.den∣2520:=by
 have:=q.den_pos;generalize q.den=d at h this;have:d=1\/d=2\/d=3\/d=4\/d=5\/d=6\/d=7\/d=8\/d=9:=by lia
 rcases this with rfl | rfl | rfl | rfl | rfl | rfl | rfl | rfl | rfl <;> decide
theorem A2 (h:Dr 9 q) (hM:2520∣M):Fr M 9 q:=(Fr.own q h.1).dvd (jQ (JJ h.2) hM)
section
variable {rows:LR9} {ws xs row:List Rat} {n j:Nat}
theorem FW (hc:c < n):(cm rows n)[c]?=some (rows.map λxs=>xs.getD c 0):=by
 unfold cm;rw[aB,cO hc];rfl
theorem Lx:(rows.map λxs=>xs.getD c 0).getD i 0=b8 rows i c:=by
 unfold b8;rw[aa,aB,aa (l:=rows)];cases rows[i]? with
 | none=>rfl
 | some y=>rfl
end
def kL (rows us:LR9):LR9:=List.zipWith (λx y=>x++y) rows us
def ks (A:LR9) (n:Nat):Prop:=A.length=n/\∀xs∈A,xs.length=n
def qg (A B:LR9) (n:Nat):Prop:=∀i,i < n->∀k,k < n->bL n (λj=>b8 A i j*b8 B j k)=if i=k then 1 else 0
section
variable {rows us A B R R0:LR9} {n m i c:Nat} {ps ps0:List Nat}
theorem pB (h:us.length=rows.length):(kL rows us).length=rows.length:=by unfold kL;rw[bG];lia
theorem Kj (h1:rows[i]?=some x) (h2:us[i]?=some y):(kL rows us)[i]?=some (x++y):=by
 unfold kL;rw[bO,h1,h2]
theorem wd (h:∀xs∈rows,xs.length=n) (h':∀xs∈us,xs.length=m):∀xs∈kL rows us,xs.length=n+m:=λxs hx=>by
 unfold kL at hx;obtain ⟨i,hi,rfl⟩:=bZ hx;rw[iW,az,h _ (aS _),h' _ (aS _)]
theorem xS (h:us.length=rows.length) (hw:∀xs∈rows,xs.length=n) (hi:i < rows.length):(∀c,c < n->b8 (kL rows us) i c=b8 rows i c)/\∀c,b8 (kL rows us) i (n+c)=b8 us i c:=by
 have e1:=af hi;have e2:=af (show i < us.length by lia);have e3:=Kj e1 e2;have w1:=hw _ (aS hi);refine ⟨λc hc=>?_,λc=>?_⟩
 ·unfold b8;rw[aa (l:=kL rows us),e3,aa (l:=rows),e1];show (rows[i]++us[i]).getD c 0=rows[i].getD c 0
  rw[aa,dG (by lia),aa]
 ·unfold b8;rw[aa (l:=kL rows us),e3,aa (l:=us),e2];show (rows[i]++us[i]).getD (n+c) 0=us[i].getD c 0
  rw[aa,cU (by lia),aa,w1,show n+c - n=c by lia]
theorem oF:ks (cg n) n:=⟨by unfold cg;rw[ag,bo],λxs hx=>by
 unfold cg at hx;obtain ⟨i,_,rfl⟩:=aA.mp hx;unfold C1;rw[ag,bo]⟩
theorem FU (hi:i < n) (hc:c < n):b8 (cg n) i c=if i=c then 1 else 0:=by
 unfold b8 cg;rw[aa (l:=List.map _ _),aB,cO hi];show (C1 n i).getD c 0=_
 unfold C1;rw[aa,aB,cO hc];show (if ((c:Nat):Int)=i then (1:Rat) else 0)=_
 by_cases e:i=c
 ·rw[if_pos (by lia),if_pos e]
 ·rw[if_neg (by lia),if_neg e]
theorem HN {g:Nat->Nat} (hi:i < R.length) (h:∀xs∈R,(f xs).getD c 0=xs.getD (g c) 0):b8 (R.map f) i c=b8 R i (g c):=by
 unfold b8;rw[aa (l:=List.map _ _),aB,aa (l:=R),af hi];exact h _ (aS hi)
theorem Kt (hi:i < R.length):b8 (R.map λxs=>xs.drop n) i c=b8 R i (n+c):=HN (g:=λc=>n+c) hi λxs _=>by
 rw[aa,List.getElem?_drop,aa]
theorem Mj (hi:i < R.length) (hc:c < n):b8 (R.map λxs=>xs.take n) i c=b8 R i c:=HN (g:=λc=>c) hi λxs _=>by
 rw[aa,c7 hc,aa]
theorem m5 (hi:i < n):(List.range n).getD i 0=i:=by
 rw[aa,cO hi];rfl
theorem HZ {f:Nat->Rat} (hi:i < n):bL n (λj=>(if i=j then 1 else 0)*f j)=f i:=by
 rw[j5 hi λj _ hj=>by rw[if_neg (Ne.symm hj)];grind,if_pos rfl];grind
theorem wq {f:Nat->Rat} (hi:i < n):bL n (λj=>f j*(if j=i then 1 else 0))=f i:=by
 rw[j5 hi λj _ hj=>by rw[if_neg hj];grind,if_pos rfl];grind
theorem AS (hA:ks A n) (RR:fw (kL A (cg n)) (n+n) R (List.range n)):ks (R.map λxs=>xs.drop n) n/\qg (R.map λxs=>xs.drop n) A n/\qg A (R.map λxs=>xs.drop n) n:=by
 obtain ⟨l1,w1,rr⟩:=RR;obtain ⟨lA,wA⟩:=hA;have lU:(cg n).length=n:=oF.1;rw[bo] at l1;have lJ:(kL A (cg n)).length=n:=by rw[pB (by lia),lA]
 have unit:∀i,i < n->∀c,c < n->b8 R i c=if i=c then 1 else 0:=λi hi c hc=>by
  have:=rr.unit i (by rw[bo];exact hi) c (by rw[bo];exact hc);rw[m5 hc] at this;exact this
 have jl:∀i,i < n->∀c,c < n->b8 (kL A (cg n)) i c=b8 A i c:=λi hi c hc=>(xS (by lia) wA (by lia)).1 c hc
 have jr:∀i,i < n->∀c,c < n->b8 (kL A (cg n)) i (n+c)=if i=c then 1 else 0:=λi hi c hc=>by
  rw[(xS (by lia) wA (by lia)).2 c,FU hi hc]
 refine ⟨⟨by rw[ag];exact l1,λxs hx=>?_⟩,λi hi k hk=>?_,λi hi k hk=>?_⟩
 ·obtain ⟨y,hy,rfl⟩:=aA.mp hx;rw[List.length_drop,w1 y hy]
  lia
 ·obtain ⟨w,hw⟩:=rr.back i (by rw[bo];exact hi);rw[lJ] at hw
  have ew:∀j,j < n->b8 R i (n+j)=w j:=λj hj=>by
   rw[hw (n+j),aM (g:=λj'=>w j'*(if j'=j then 1 else 0)) λj' hj'=>by rw[jr j' hj' j hj],wq hj]
  rw[<- unit i hi k hk,hw k];exact aM λj hj=>by rw[Kt (by lia),ew j hj,jl j hj k hk]
 ·obtain ⟨w,hw⟩:=rr.span i (by rw[lJ];exact hi);rw[bo] at hw
  have ew:∀j,j < n->b8 A i j=w j:=λj hj=>by
   rw[<- jl i hi j hj,hw j,aM (g:=λj'=>w j'*(if j'=j then 1 else 0)) λj' hj'=>by rw[unit j' hj' j hj],wq hj]
  rw[<- jr i hi k hk,hw (n+k)];exact aM λj hj=>by rw[Kt (by lia),ew j hj]
theorem Cv (hA:ks A n) (hB:ks B n) (h1:qg B A n) (h2:qg A B n):fw (kL A (cg n)) (n+n) (kL (cg n) B) (List.range n):=by
 obtain ⟨lA,wA⟩:=hA;obtain ⟨lB,wB⟩:=hB;obtain ⟨lU,wU⟩:=oF (n:=n);have lJ:(kL A (cg n)).length=n:=by rw[pB (by lia),lA]
 have lK:(kL (cg n) B).length=n:=by rw[pB (by lia),lU]
 have jl:∀i,i < n->∀c,c < n->b8 (kL A (cg n)) i c=b8 A i c:=λi hi c hc=>(xS (by lia) wA (by lia)).1 c hc
 have jr:∀i,i < n->∀c,c < n->b8 (kL A (cg n)) i (n+c)=if i=c then 1 else 0:=λi hi c hc=>by
  rw[(xS (by lia) wA (by lia)).2 c,FU hi hc]
 have kl:∀i,i < n->∀c,c < n->b8 (kL (cg n) B) i c=if i=c then 1 else 0:=λi hi c hc=>by
  rw[(xS (by lia) wU (by lia)).1 c hc,FU hi hc]
 have kr:∀i,i < n->∀c,b8 (kL (cg n) B) i (n+c)=b8 B i c:=λi hi c=>(xS (by lia) wU (by lia)).2 c
 have wJ:=wd wA wU;have wK:=wd wU wB
 have split:∀c:Nat,c < n\/(∃d,c=n+d/\d < n)\/n+n<=c:=λc=>by
  by_cases h:c < n
  ·exact .inl h
  ·by_cases h':n+n<=c
   ·exact .inr (.inr h')
   ·exact .inr (.inl ⟨c - n,by lia,by lia⟩)
 refine ⟨by rw[lK,bo],wK,λi j hi hj=>?_,λj hj=>?_,λi hi j hj=>?_,λi hi c hc=>?_,λi hi=>⟨λj=>b8 A i j,λc=>?_⟩,λi hi=>⟨λj=>b8 B i j,λc=>?_⟩⟩
 ·rw[bo] at hj;rw[m5 hj,m5 (by lia)];exact hi
 ·rw[bo] at hj;rw[m5 hj]
  lia
 ·rw[bo] at hi hj;rw[m5 hj];exact kl i hi j hj
 ·rw[bo] at hi;rw[m5 hi] at hc;rw[kl i hi c (by lia),if_neg (by lia)]
 ·rw[lJ] at hi;rw[bo];rcases split c with hc | ⟨d,rfl,hd⟩ | hc
  ·rw[jl i hi c hc,aM (g:=λj=>b8 A i j*(if j=c then 1 else 0)) λj hj=>by rw[kl j hj c hc],wq hc]
  ·rw[jr i hi d hd,<- h2 i hi d hd];exact aM λj hj=>by rw[kr j hj d]
  ·rw[nX wJ hc,eP λj _=>by rw[nX wK hc];grind]
 ·rw[bo] at hi;rw[lJ];rcases split c with hc | ⟨d,rfl,hd⟩ | hc
  ·rw[kl i hi c hc,<- h1 i hi c hc];exact aM λj hj=>by rw[jl j hj c hc]
  ·rw[kr i hi d,aM (g:=λj=>b8 B i j*(if j=d then 1 else 0)) λj hj=>by rw[jr j hj d hd],wq hd]
  ·rw[nX wK hc,eP λj _=>by rw[nX wJ hc];grind]
theorem GY {p:Nat->Nat}:∀k,(∀i j,i < j->j < k->p i < p j)->∃r,r<=k/\(∀j,j < r->p j < n)/\∀j,r<=j->j < k->n<=p j:=by
 intro k
 induction k with
 | zero=>intro _;exact ⟨0,av _,λj h=>absurd h (by lia),λj _ h=>absurd h (by lia)⟩
 | succ k ih =>
  intro h;obtain ⟨r,h1,h2,h3⟩:=ih λi j a b=>h i j a (by lia)
  by_cases e:p k < n
  ·refine ⟨k+1,av _,λj hj=>?_,λj a b=>by lia⟩;by_cases z:j=k
   ·rw[z];exact e
   ·have:=h j k (by lia) (by lia)
    lia
  ·refine ⟨r,by lia,h2,λj a b=>?_⟩;by_cases z:j=k
   ·rw[z];lia
   ·exact h3 j a (by lia)
theorem Ij (hA:ks A n) (RR:fw (kL A (cg n)) (n+n) R ps):∃r,r<=ps.length/\(∀j,j < r->ps.getD j 0 < n)/\(∀j,r<=j->j < ps.length->n<=ps.getD j 0)/\fw A n ((R.take r).map λxs=>xs.take n) (ps.take r):=by
 obtain ⟨l1,w1,rr⟩:=RR;obtain ⟨lA,wA⟩:=hA;have lU:(cg n).length=n:=oF.1;have lJ:(kL A (cg n)).length=n:=by rw[pB (by lia),lA]
 have jl:∀i,i < n->∀c,c < n->b8 (kL A (cg n)) i c=b8 A i c:=λi hi c hc=>(xS (by lia) wA (by lia)).1 c hc
 obtain ⟨r,hr,h1,h2⟩:=GY (n:=n) ps.length rr.inc;refine ⟨r,hr,h1,h2,?_⟩;have lt:(ps.take r).length=r:=by rw[bY];lia
 have lR:(R.take r).length=r:=by rw[bY];lia
 have et:∀j,j < r->(ps.take r).getD j 0=ps.getD j 0:=λj hj=>by
  rw[aa,c7 hj,aa]
 have ef:∀i,i < r->∀c,c < n->b8 ((R.take r).map λxs=>xs.take n) i c=b8 R i c:=λi hi c hc=>by
  rw[Mj (by lia) hc];unfold b8;rw[aa (l:=R.take r),c7 hi,aa (l:=R)]
 have wT:∀xs∈(R.take r).map (λxs=>xs.take n),xs.length=n:=λxs hx=>by
  obtain ⟨y,hy,rfl⟩:=aA.mp hx;rw[bY,w1 y (cf hy)]
  lia
 refine ⟨by rw[ag,lR,lt],wT,λi j hi hj=>?_,λj hj=>?_,λi hi j hj=>?_,λi hi c hc=>?_,λi hi=>?_,λi hi=>?_⟩
 ·rw[lt] at hj;rw[et j hj,et i (by lia)];exact rr.inc i j hi (by lia)
 ·rw[lt] at hj;rw[et j hj];exact h1 j hj
 ·rw[lt] at hi hj;rw[et j hj,ef i hi _ (h1 j hj)];exact rr.unit i (by lia) j (by lia)
 ·rw[lt] at hi;rw[et i hi] at hc;have:=h1 i hi;rw[ef i hi c (by lia)];exact rr.lead i (by lia) c hc
 ·obtain ⟨w,hw⟩:=rr.span i (by lia);refine ⟨w,λc=>?_⟩;rw[lt];by_cases hc:c < n
  ·rw[<- jl i (by lia) c hc,hw c];obtain ⟨t,ht⟩:∃t,ps.length=r+t:=⟨ps.length - r,by lia⟩
   have key:∀t,r+t<=ps.length->bL (r+t) (λj=>w j*b8 R j c)=bL r λj=>w j*b8 ((R.take r).map λxs=>xs.take n) j c:=by
    intro t
    induction t with
    | zero=>intro _;exact aM λj hj=>by rw[ef j hj c hc]
    | succ t ih =>
     intro ht;show bL (r+t) _+w (r+t)*b8 R (r+t) c=_
     have:=h2 (r+t) (by lia) (by lia);rw[ih (by lia),rr.lead (r+t) (by lia) c (by lia)];grind
   rw[ht];exact key t (by lia)
  ·rw[nX wA (by lia),eP λj _=>by rw[nX wT (by lia)];grind]
 ·rw[lt] at hi;obtain ⟨w,hw⟩:=rr.back i (by lia);rw[lJ] at hw;refine ⟨w,λc=>?_⟩;rw[lA];by_cases hc:c < n
  ·rw[ef i hi c hc,hw c];exact aM λj hj=>by rw[jl j hj c hc]
  ·rw[nX wT (by lia),eP λj _=>by rw[nX wA (by lia)];grind]
theorem Fp (h1:∀i j,i < j->j < ps.length->ps.getD i 0 < ps.getD j 0) (h2:∀j,j < ps.length->ps.getD j 0 < n) (hl:ps.length=n):ps=List.range n:=by
 have lo:∀i,i < n->i<=ps.getD i 0:=by
  intro i
  induction i with
  | zero=>intro _;exact bH _
  | succ i ih=>intro hi;have:=ih (by lia);have:=h1 i (i+1) (by lia) (by lia);lia
 have hi:∀t i,i+t+1=n->ps.getD i 0<=i:=by
  intro t
  induction t with
  | zero=>intro i e;have:=h2 i (by lia);lia
  | succ t ih=>intro i e;have:=ih (i+1) (by lia);have:=h1 i (i+1) (by lia) (by lia);lia
 apply gE (by rw[bo,hl]);intro i a b;rw[List.getElem_range];have e:ps[i]=ps.getD i 0:=by rw[aa,af a];rfl
 rw[e];have:=lo i (by lia);have:=hi (n - 1 - i) i (by lia)
 lia
theorem Cz (hA:ks A n) (RR:fw (kL A (cg n)) (n+n) R ps) (pm:ps.length<=n) (RR0:fw A n R0 ps0):ps=List.range n↔¬ps0.length < n:=by
 obtain ⟨r,hr,h1,h2,h3⟩:=Ij hA RR;obtain ⟨_,e⟩:=RR0.same h3;have le:ps0.length=r:=by rw[e,bY];lia
 refine ⟨λz=>?_,λz=>?_⟩
 ·subst z;rw[bo] at hr h2;intro h;have:=h2 r (av _) (by lia);rw[m5 (by lia)] at this
  lia
 ·have er:r=ps.length:=by lia
  exact Fp RR.2.2.inc (λj hj=>h1 j (by lia)) (by lia)
end
section
variable {X:Cx}
theorem C0:∀{n:Nat} {us:List Value},us.length=n->(∀(j:Nat) (v:Value),us[j]?=some v->∃t,v=.int ((0:Int)+(j:Int)*1) t)->cp (dn (List.range n)) us:=by
 intro n
 induction n with
 | zero=>intro us h _;rw[List.length_eq_zero_iff.mp h];exact .nil
 | succ n ih =>
  intro us h hv
  have h1:=ih (us:=us.take n) (by rw[bY];lia) λj v e=>by
   have hj:j < n:=by have:=(aF.mp e).1;rw[bY] at this;lia
   rw[c7 hj] at e;exact hv j v e
  obtain ⟨t,ht⟩:=hv n (us[n]'(by lia)) (af _);have e:us=us.take n++[us[n]'(by lia)]:=by rw[<- List.take_succ_eq_append_getElem (by lia),aJ (by lia)]
  rw[e,Iz];unfold dn at h1 ⊢;rw[cD];refine cp.append h1 (.cons ?_ .nil);rw[ht];exact ⟨t,by simp⟩
def wO (ta:TA):TE:=λσ H Q=>ta σ H λvs H1=>∃n:Nat,vs=[.int n]/\n<=1000/\∀L H',aE H1 H'->H1 L=none->H' L=some (.lst (dn (List.range n)))->Q (.ref L) H'
theorem AA {e1:Expr} {ta:TA} {p p2 pos pos2:Pos} (hg:Gl X "list") (hm:X.mg "list"=none) (hg2:Gl X "range") (hm2:X.mg "range"=none) (ha:PA X [e1] ta) (hc:X.calm=true:=by rfl)
  (hs:starEach [e1] X.env=[(false,eval e1 X.env)]:=by rfl)
  (hs3:starEach [Expr.Call (.Name "range" p2) [e1] [] pos2] X.env=[(false,eval (.Call (.Name "range" p2) [e1] [] pos2) X.env)]:=by rfl) :
  PE X (.Call (.Name "list" p) [.Call (.Name "range" p2) [e1] [] pos2] [] pos) (wO ta):=by
 intro pins s σ H Q I h;refine wpAny_Call_Name_kw (gW I hg hm boot_list ?_);refine PyProof.Rows.callWith_type1 ?_ (by rw[hs3];rfl) rfl;rw[hs3];show wpAny _ _ (spliced ((false,eval (.Call (.Name "range" p2) [e1] [] pos2) X.env) :: [])) _ _ s
 refine Calls.spliced_cons ?_;refine Call_ (gW I hg2 hm2 boot_range (PyProof.Rows.callWith_type1 (eY (ha pos2 pins s σ H _ I h) λus s1 ⟨vs,H1,I1,r1,q1⟩=>?_) hs rfl));obtain ⟨n,e,hn,q⟩:=q1;subst e;obtain ⟨u,rfl,t,rfl⟩:=vals1 r1;refine call_range_1 ?_;refine Calls.spliced_nil ?_;have kp:∀b o,s1.heap.get? b=some o->(s1.heap.push { cls:=.type "range",data:=.fields #[.int 0 s1.toks,.int n t,.int 1 (s1.toks+1)] }).get? b=some o:=λb o e=>Heap.get?_push_of_some _ e
 refine call_list_range (I.ok.hd hc) (IsRange.new ..) (small_one (by lia) (by lia) (by lia) (by lia)) (n:=n) (by rw[rangeSize_one];split <;> lia) (by lia) λh' tk acc c hk hS hacc=>?_
 have sz:s1.heap.objs.size<=(s1.heap.push { cls:=.type "range",data:=.fields #[.int 0 s1.toks,.int n t,.int 1 (s1.toks+1)] }).objs.size:=by rw[Heap.size_push];exact oB _
 have nS:=I1.hok.fresh sz
 have vs':cp (dn (List.range n)) acc.toList:=C0 (by rw[Array.length_toList];exact hacc.1) λj v e=>by
  have:=hacc.2 j v (by rw[<- Array.getElem?_toList];exact e);exact this
 have sl:(dn (List.range n)).length<=sizeLine:=by rw[GQ,bo];exact aR (bB hn)
 refine ⟨.ref _,_,I1.laid (o:=.lst (dn (List.range n))) (λb o e=>hk b o (kp b o e)) sz ?_,rfl,q _ _ (aE.new nS) nS aG⟩;exact ⟨sl,acc.toList,c,vs',by simpa using hS⟩
end
section
variable {A B:LR9} {n:Nat}
theorem M5 (M0:0 < M) (hM:M<=W) (h:∀xs∈A,∀x∈xs,Tp M W x):∀xs∈kL A (cg n),∀x∈xs,Tp M W x:=λxs hx x hx'=>by
 unfold kL at hx;obtain ⟨i,hi,rfl⟩:=bZ hx;rw[iW] at hx';rcases ax.mp hx' with z | z
 ·exact h _ (aS _) x z
 ·have m:=aS (l:=cg n) (n:=i) (by rw[bG] at hi;lia);generalize (cg n)[i]'(by rw[bG] at hi;lia)=ys at m z;unfold cg at m;obtain ⟨j,_,rfl⟩:=aA.mp m;unfold C1 at z;obtain ⟨c,_,rfl⟩:=aA.mp z;by_cases e:((c:Nat):Int)=((j:Nat):Int)
  ·rw[if_pos e];exact ⟨M,by rw[Rat.one_mul];rfl,by simpa using hM⟩
  ·rw[if_neg e];exact ⟨0,by simp,by simp⟩
theorem Hu (hA:ks A n) (n15:n<=15) (M0:0 < M) (hM:M<=2^w) (w4:w<=4300) (h:∀xs∈A,∀x∈xs,Tp M (2^w) x) (hw:n*(w+4)<=8900):FF (kL A (cg n)) (n+n) w :=
 ⟨M,2^w,M0,ar hM (aw (by decide) w4),dP,av _,M5 M0 hM h,w4,by rw[pB (by rw[oF.1,hA.1]),hA.1];lia,by rw[pB (by rw[oF.1,hA.1]),hA.1,show min n (n+n)=n by lia];exact hw⟩
end
theorem Cw (h:pC ps=pC qs):ps=qs:=List.map_inj_right (λ_ _ e=>Int.ofNat.inj e) |>.mp h
inductive uM (K:FG9) (vs:List V) (H:Hp) (Q:VK) (E9:XK):Prop
 | mk (p:Addr) (n w:Nat) (H0:Hp) (A:LR9):vs=[.ref p]->bK K H0 H p A->ks A n->n<=40->FF (kL A (cg n)) (n+n) w->((∀r R M H',fw (kL A (cg n)) (n+n) R (List.range n)->H r=none->aE H H'->bK K H H' r (R.map λxs=>xs.drop n)->0 < M->M<=2^(n*(w+4))->(∀xs∈R.map (λxs=>xs.drop n),∀x∈xs,Tp M (2^(n*(w+4))) x)->Q (.ref r) H')/\(∀R ps H',fw (kL A (cg n)) (n+n) R ps->ps.length<=n->ps≠List.range n->aE H H'->Q .non H'))->uM K vs H Q E9
def lX (K:FG9) (P:Addr->Prop) (H:Hp) (xs:List Rat) (v:V):Prop:=∃q,v=.ref q/\P q/\cM K H q xs
section
variable {K:FG9} {P:Addr->Prop} {H H':Hp} {xs:List Rat} {v:V} {b l:Addr}
theorem lX.same (h:lX K P H xs v) (s:aE H H'):lX K P H' xs v:=by obtain ⟨q,a,c,d⟩:=h;exact ⟨q,a,c,d.same s⟩
theorem lX.updL (h:lX K P H xs v) (hl:H l=some (.lst ys)) (nb:∀q,P q->q≠l):lX K P (upd H l o) xs v:=by obtain ⟨q,a,c,d⟩:=h;exact ⟨q,a,c,d.updL hl (nb q c)⟩
theorem bK.ofE {rows:LR9} (g:H l=some (.lst us)) (h:Paired (lX K P H) rows us) (h0:∀q,P q->H0 q=none) (hn:∀q,P q->q≠l):bK K H0 H l rows :=
 ⟨us,g,Paired.imp' (λ_ _ ⟨q,a,c,d⟩=>⟨q,a,h0 q c,d⟩) h,λz=>by
  obtain ⟨_,_,q,e,c,_⟩:=cJ h z;cases e;exact hn _ c rfl⟩
end
theorem kH {α β:Type} {F G:α->β->Prop}:∀{l1:List α} {l2:List β},(∀a b,b∈l2->F a b->G a b)->Paired F l1 l2->Paired G l1 l2
 | _,_,_,.nil=>.nil
 | _,_,h,.cons a r=>.cons (h _ _ (by simp) a) (kH (λx y hy=>h x y (by simp [hy])) r)
section
variable {rows rows' R R':LR9} {n w W:Nat} {ps ps':List Nat}
theorem ET (hw:∀xs∈rows,xs.length=n) (hW:1<=W) (ent:∀i,i < (rows.map gH).length->∀c,Fr 1 W (dF (rows.map gH) i c)):∀P,P<=n->∃ls ps d,zW (rows.map gH) n P ls ps d:=by
 intro P
 induction P with
 | zero=>intro _;exact ⟨_,_,_,zW.start λzs hz=>by obtain ⟨x,hx,rfl⟩:=aA.mp hz;rw[rX];exact hw x hx⟩
 | succ P ih =>
  intro hP;obtain ⟨ls,ps,d,I⟩:=ih (by lia);by_cases e:∃t,ps.length<=t/\t < ls.length/\dF ls t P≠0
  ·obtain ⟨t,h1,h2,h3⟩:=e;exact ⟨_,_,_,I.step hW ent h1 h2 h3⟩
  ·exact ⟨_,_,_,I.skip λi h1 h2=>by
    by_cases z:dF ls i P=0
    ·exact z
    ·exact absurd ⟨i,h1,h2,z⟩ e⟩
theorem E4 (hw:∀xs∈rows,xs.length=n) (F:FF rows n w):∃R ps d ls,NU rows n w R ps d ls:=by
 obtain ⟨W,hW,W2,ent⟩:=F.ent;obtain ⟨ls,ps,d,I⟩:=ET hw hW ent n (av _);obtain ⟨R,S⟩:=I.done hw F;exact ⟨R,ps,d,_,S⟩
end
section
variable {mv pt R R' S X Y:LR9} {n t m i c:Nat} {ps ps':List Nat} {a:Nat->Nat->Rat}
theorem JQ (h:i < X.length):b8 (X++Y) i=b8 X i:=by
 funext c;unfold b8;rw[aa (l:=X++Y),dG h,<- aa]
theorem yN:b8 (X++Y) (X.length+i)=b8 Y i:=by
 funext c;unfold b8;rw[aa (l:=X++Y),cU (by lia),show X.length+i - X.length=i by lia,<- aa]
def L5 (mv pt:LR9) (a c:Nat):Prop:=∃M V:Nat,0 < M/\M<=2^a/\(mv.length+1)*V<=2^c/\GF M V mv/\GF M V pt/\a<=400/\c<=40/\mv.length*(mv.length*(a+c)+4)<=1740/\mv.length*(mv.length*(mv.length*(a+c)+4)+a+c+4)<=8900
end
def oo (k t i:Nat):Nat:=if i < k then i else if i=k then t else if i<=t then i - 1 else i
def Ca (k t i:Nat):Nat:=if i < k then i else if i=t then k else if i < t then i+1 else i
section
variable {k t m i j:Nat}
theorem sF (h : k ≤ t) (ht : t < m) (hi : i < m) : oo k t i < m := by     unfold oo; split; · exact hi
                                                                          · split; · exact ht
                                                                            · split <;> lia
theorem MH (h : k ≤ t) (ht : t < m) (hi : i < m) : Ca k t i < m := by     unfold Ca; split; · exact hi
                                                                          · split; · lia
                                                                            · split <;> lia
theorem MG (h:k<=t):oo k t (Ca k t i)=i:=by
 by_cases h1:i < k
 ·rw[show Ca k t i=i by unfold Ca;rw[if_pos h1]];unfold oo;rw[if_pos h1]
 ·by_cases h2:i=t
  ·rw[show Ca k t i=k by unfold Ca;rw[if_neg h1,if_pos h2]];unfold oo;rw[if_neg (by lia),if_pos rfl,h2]
  ·by_cases h3:i < t
   ·rw[show Ca k t i=i+1 by unfold Ca;rw[if_neg h1,if_neg h2,if_pos h3]];unfold oo;rw[if_neg (by lia),if_neg (by lia),if_pos (by lia)];lia
   ·rw[show Ca k t i=i by unfold Ca;rw[if_neg h1,if_neg h2,if_neg h3]];unfold oo;rw[if_neg h1,if_neg (by lia),if_neg (by lia)]
theorem Kd (h:k<=t):Ca k t (oo k t i)=i:=by
 by_cases h1:i < k
 ·rw[show oo k t i=i by unfold oo;rw[if_pos h1]];unfold Ca;rw[if_pos h1]
 ·by_cases h2:i=k
  ·rw[show oo k t i=t by unfold oo;rw[if_neg h1,if_pos h2]];unfold Ca;rw[if_neg (by lia),if_pos rfl,h2]
  ·by_cases h3:i<=t
   ·rw[show oo k t i=i - 1 by unfold oo;rw[if_neg h1,if_neg h2,if_pos h3]];unfold Ca;rw[if_neg (by lia),if_neg (by lia),if_pos (by lia)];lia
   ·rw[show oo k t i=i by unfold oo;rw[if_neg h1,if_neg h2,if_neg h3]];unfold Ca;rw[if_neg h1,if_neg (by lia),if_neg (by lia)]
theorem o9 (hi:i < k):oo k t i=i:=by unfold oo;rw[if_pos hi]
theorem sG (h:k<=t) (hi:k<=i):k<=oo k t i:=by
 unfold oo;rw[if_neg (by lia)]
 split
 ·exact h
 ·split <;> lia
variable {a l:Nat->Nat->Rat} {pm p:Nat->Nat} {d:Rat} {P:Nat}
theorem tT.rot (B:tT a m k pm p l d) (h:k<=t) (ht:t < m):tT a m k (λi=>pm (oo k t i)) p (λi=>l (oo k t i)) d where
 inj i j hi hj e:=by
  have:=B.inj _ _ (sF h ht hi) (sF h ht hj) e;rw[<- Kd (i:=i) h,this,Kd h]
 rng i hi:=B.rng _ (sF h ht hi)
 km:=B.km
 d0:=B.d0
 det:=by rw[B.det,xv (f:=pm) (g:=λi=>pm (oo k t i)) λj hj=>by rw[o9 hj]]
 eqs i hi c:=by
  have e:=B.eqs (oo k t i) (sF h ht hi) c;have e1:bL k (λj=>a (pm (oo k t i)) (p j)*l (oo k t j) c)=bL k (λj=>a (pm (oo k t i)) (p j)*l j c):=aM λj hj=>by rw[o9 hj]
  rw[e1];by_cases hk:i < k
  ·rw[o9 hk] at e ⊢;exact e
  ·rw[if_neg hk];rw[if_neg (by have:=sG h (show k<=i by lia);lia)] at e;exact e
 unit i hi j hj:=by
  rw[B.unit _ (sF h ht hi) j hj];by_cases hk:i < k
  ·rw[o9 hk]
  ·have:=sG h (show k<=i by lia);rw[if_neg (by lia),if_neg (by lia)]
theorem jq.rot (E:jq a m k P p l d) (h:k<=t) (ht:t < m):jq a m k P p (λi=>l (oo k t i)) d where
 km:=E.km
 d0:=E.d0
 unit i hi j hj:=by
  rw[E.unit _ (sF h ht hi) j hj];by_cases hk:i < k
  ·rw[o9 hk]
  ·have:=sG h (show k<=i by lia);rw[if_neg (by lia),if_neg (by lia)]
 inc:=E.inc
 low:=E.low
 zero i h1 h2 c hc:=E.zero _ (sG h h1) (sF h ht h2) c hc
 lead j hj c hc:=by rw[o9 hj];exact E.lead j hj c hc
 there i hi:=fI.trans (λs hs=>fI.congr (λc=>by rw[MG h]) (fI.row (a:=λi=>l (oo k t i)) (i:=Ca k t s) (MH h ht hs))) (E.there i hi)
 back i hi:=E.back _ (sF h ht hi)
end
section
variable {rows fs ls:LR9} {n P w a:Nat} {ps:List Nat}
theorem IM:iT k k i=i:=by unfold iT;split <;> (try split) <;> lia
theorem yv.rot (h:yv rows n P (fs++ls) ps) (hf:fs.length=ps.length) (ht:t < ls.length):yv rows n P (fs++ls.getD t [] :: ls.eraseIdx t) ps:=by
 obtain ⟨len,wide,pm,l,d,B,E,v⟩:=h;rw[az] at len;have h1:ps.length<=ps.length+t:=by lia
 have h2:ps.length+t < rows.length:=by lia
 have ef:∀i,i < rows.length->∀c,b8 (fs++ls.getD t [] :: ls.eraseIdx t) i c=b8 (fs++ls) (oo ps.length (ps.length+t) i) c:=λi hi c=>by
  by_cases z:i < ps.length
  ·rw[o9 z,JQ (by lia),JQ (by lia)]
  ·obtain ⟨j,rfl⟩:∃j,i=fs.length+j:=⟨i - fs.length,by lia⟩;rw[yN];cases j with
   | zero =>
    rw[show oo ps.length (ps.length+t) (fs.length+0)=fs.length+t by unfold oo;rw[if_neg (by lia),if_pos (by lia)];lia,yN];rfl
   | succ j =>
    by_cases y:j < t
    ·rw[show oo ps.length (ps.length+t) (fs.length+(j+1))=fs.length+j by unfold oo;rw[if_neg (by lia),if_neg (by lia),if_pos (by lia)];lia,yN];show b8 (ls.eraseIdx t) j c=_
     unfold b8;rw[aa (l:=ls.eraseIdx t),List.getElem?_eraseIdx_of_lt y,<- aa]
    ·rw[show oo ps.length (ps.length+t) (fs.length+(j+1))=fs.length+(j+1) by unfold oo;rw[if_neg (by lia),if_neg (by lia),if_neg (by lia)],yN];show b8 (ls.eraseIdx t) j c=_
     unfold b8;rw[aa (l:=ls.eraseIdx t),List.getElem?_eraseIdx_of_ge (by lia),<- aa]
 refine ⟨?_,λxs hx=>?_,λi=>pm (oo ps.length (ps.length+t) i),λi=>l (oo ps.length (ps.length+t) i),d,B.rot h1 h2,E.rot h1 h2,λi hi c=>?_⟩
 ·rw[az,bw,KC ht];lia
 ·rcases ax.mp hx with hx | hx
  ·exact wide xs (ax.mpr (.inl hx))
  ·rcases aD.mp hx with rfl | hx
   ·exact wide _ (ax.mpr (.inr (getD_in ht)))
   ·exact wide xs (ax.mpr (.inr (Mg hx)))
 ·rw[ef i hi c,v _ (sF h1 h2 hi) c];by_cases z:i < ps.length
  ·dsimp only
   rw[o9 z]
  ·rw[if_neg z,if_neg (by have:=sG h1 (show ps.length<=i by lia);lia)]
def me (P:Nat) (h:List Rat):List Rat:=h.map λy=>1 / h.getD P 0*y
def xM (P:Nat) (u r:List Rat):List Rat:=List.zipWith (λx y=>x - y) r (u.map λy=>r.getD P 0*y)
theorem yv.lean (h:yv rows n P (fs++ls) ps) (hf:fs.length=ps.length) (ht:t < ls.length) (hP:P < n) (hne:(ls.getD t []).getD P 0≠0):yv rows n (P+1) ((fs.map (xM P (me P (ls.getD t [])) )++[me P (ls.getD t [])])++(ls.eraseIdx t).map (xM P (me P (ls.getD t [])))) (ps++[P]):=by
 have R:=h.rot hf ht;have len:=R.len;have wide:=R.wide;generalize ls.getD t []=hd at *
 generalize ls.eraseIdx t=l2 at *
 rw[az,bw] at len;have whd:hd.length=n:=wide _ (ax.mpr (.inr (.head _)));have wu:(me P hd).length=n:=by unfold me;rw[ag];exact whd
 have ek:b8 (fs++hd :: l2) ps.length=λc=>hd.getD c 0:=by
  have:=yN (X:=fs) (Y:=hd :: l2) (i:=0);rw[show fs.length+0=ps.length by lia] at this;rw[this];rfl
 have wl:∀r,r.length=n->(xM P (me P hd) r).length=n:=λr hr=>by unfold xM;rw[bG,ag,wu,hr];lia
 have vl:∀r,r.length=n->∀c,(xM P (me P hd) r).getD c 0=r.getD c 0 - r.getD P 0*(1 / hd.getD P 0*hd.getD c 0):=λr hr c=>by
  unfold xM;rw[LO (by rw[ag,wu,hr]),HJ];unfold me;rw[HJ]
 refine R.step (t:=ps.length) (av _) (by rw[az,bw];lia) (by rw[ek];exact hne) ?_ ?_ λi hi c=>?_
 ·rw[az,az,ag,ag,cA];lia
 ·intro xs hx;rcases ax.mp hx with hx | hx
  ·rcases ax.mp hx with hx | hx
   ·obtain ⟨r,hr,rfl⟩:=aA.mp hx;exact wl r (wide r (ax.mpr (.inl hr)))
   ·rw[ck.mp hx];exact wu
  ·obtain ⟨r,hr,rfl⟩:=aA.mp hx;exact wl r (wide r (ax.mpr (.inr (.tail _ hr))))
 ·rw[IM,ek]
  dsimp only
  have lf:(fs.map (xM P (me P hd))).length=ps.length:=by rw[ag];exact hf
  have key:∀{X:LR9} {s:Nat} (hs:s < X.length) (_:∀r∈X,r.length=n),b8 (X.map (xM P (me P hd))) s c=b8 X s c - b8 X s P*(1 / hd.getD P 0*hd.getD c 0):=λ{X s} hs hX=>by
   unfold b8;have e1:(X.map (xM P (me P hd))).getD s []=xM P (me P hd) X[s]:=by rw[aa,aB,af hs];rfl
   have e2:X.getD s []=X[s]:=by rw[aa,af hs];rfl
   rw[e1,e2];exact vl _ (hX _ (aS hs)) c
  rcases kU i ps.length with z | z | z
  ·rw[if_neg (by lia),bX,JQ (by lia),JQ (by lia),key (by lia) λr hr=>wide r (ax.mpr (.inl hr))]
  ·rw[if_pos z,bX,show i=(fs.map (xM P (me P hd))).length+0 by lia,yN];show (me P hd).getD c 0=_
   unfold me;rw[HJ]
  ·rw[if_neg (by lia)];obtain ⟨j,rfl⟩:∃j,i=ps.length+1+j:=⟨i - ps.length - 1,by lia⟩
   have e1:b8 (fs++hd :: l2) (ps.length+1+j)=b8 l2 j:=by
    have:=yN (X:=fs) (Y:=hd :: l2) (i:=j+1);rw[show fs.length+(j+1)=ps.length+1+j by lia] at this;rw[this];rfl
   have e2:b8 ((fs.map (xM P (me P hd))++[me P hd])++l2.map (xM P (me P hd))) (ps.length+1+j)=b8 (l2.map (xM P (me P hd))) j:=by
    have:=yN (X:=fs.map (xM P (me P hd))++[me P hd]) (Y:=l2.map (xM P (me P hd))) (i:=j);rw[az,lf,cA] at this;exact this
   rw[e1,e2,key (by lia) λr hr=>wide r (ax.mpr (.inr (.tail _ hr)))]
end
theorem sJ {α β:Type} {F:α->β->Prop}:∀{l1:List α} {l2:List β} (_:Paired F l1 l2) (i:Nat),Paired F (l1.eraseIdx i) (l2.eraseIdx i)
 | _,_,.nil,_=>.nil
 | _,_,.cons _ r,0=>r
 | _,_,.cons h r,i+1=>.cons h (sJ r i)
theorem Lu:c∈Cp xs i↔c < i/\xs.getD c 0≠0:=by
 unfold Cp;rw[oC,zZ];simp
theorem bK.toE {K:FG9} (h:bK K H0 H l rows):∃us,H l=some (.lst us)/\Paired (lX K (λq=>H0 q=none/\q≠l) H) rows us:=by
 obtain ⟨us,g,pr,nn⟩:=h;exact ⟨us,g,kH (λxs v hv ⟨q,e,a,b⟩=>⟨q,e,⟨a,λz=>nn (by rw[<- z,<- e];exact hv)⟩,b⟩) pr⟩
theorem zh {α:Type} {v:α}:∀{l:List α},l.Nodup->v∉l->∀j,(l.set j v).Nodup
 | [],_,_,_=>kW
 | a :: l,h,hn,0=>by
  rw[dw] at h;rw[List.set_cons_zero,dw];exact ⟨λz=>hn (.tail _ z),h.2⟩
 | a :: l,h,hn,j+1=>by
  rw[dw] at h;rw[List.set_cons_succ,dw];refine ⟨λz=>?_,zh h.2 (λz=>hn (.tail _ z)) j⟩;rcases bE z with z | z
  ·exact h.1 z
  ·exact hn (by rw[z];exact .head _)
structure iQ (K:FG9) (A:Addr->Prop) (H:Hp) (n:Nat) (C:V->Rat->Prop) (m p l b q0:Addr) (us ws vs:List V):Prop where
 bag:fD H b
 inn:Inner H b q0
 gm:H m=some (.lst us)
 gp:H p=some (.lst ws)
 gl:H l=some (.lst vs)
 lm:us.length=n
 row:∀x∈us++vs++ws,eN K A H n (C x) x
 nd:(us++vs++ws).Nodup
section
variable {K:FG9} {A:Addr->Prop} {H H':Hp} {n:Nat} {C C':V->Rat->Prop} {m p l b q0 q:Addr} {us ws vs zs:List V} {y:Rat} {v:V}
theorem iQ.same (h:iQ K A H n C m p l b q0 us ws vs) (e:aE H H'):iQ K A H' n C m p l b q0 us ws vs :=
 ⟨h.bag.same e,(e.upto (p:=b)).2 _ h.inn,e _ _ h.gm,e _ _ h.gp,e _ _ h.gl,h.lm,λx hx=>(h.row x hx).same e,h.nd⟩
theorem iQ.upto (h:iQ K A H n C m p l b q0 us ws vs) (M:CP A m p l b q0) (u:cC b H H') (B':fD H' b):iQ K A H' n C m p l b q0 us ws vs :=
 ⟨B',u.2 _ h.inn,u.other M.mb h.gm,u.other M.pb h.gp,u.other M.lb h.gl,h.lm,λx hx=>(h.row x hx).upto u h.bag M.ab,h.nd⟩
theorem iQ.weak (h:iQ K A H n C m p l b q0 us ws vs) (w:∀x∈us++vs++ws,∀y,C x y->C' x y):iQ K A H n C' m p l b q0 us ws vs :=
 ⟨h.bag,h.inn,h.gm,h.gp,h.gl,h.lm,λx hx=>(h.row x hx).weak (λ_ z=>z) (w x hx),h.nd⟩
theorem iQ.put (h:iQ K A H n C m p l b q0 us ws vs) (M:CP A m p l b q0) (aq:A q) (hq:H q=some (.lst zs)) (hv:bU K H y v) (hc:C (.ref q) y) (j:Nat):iQ K A (upd H q (.lst (zs.set j v))) n C m p l b q0 us ws vs:=by
 have ne:∀{z},¬A z->z≠q:=λh e=>h (by rw[e];exact aq)
 refine ⟨h.bag.upd h.inn (ne M.ab).symm (ne M.aq).symm,h.inn.upd (ne M.ab).symm,by rw[a9 (ne M.am)];exact h.gm,by rw[a9 (ne M.ap)];exact h.gp,by rw[a9 (ne M.al)];exact h.gl,h.lm,λx hx=>?_,h.nd⟩;by_cases e:x=.ref q
 ·subst e;exact (h.row _ hx).put hq hv hc j
 ·obtain ⟨q1,qs,rfl,a1,r1,l1,c1⟩:=h.row x hx;exact ⟨q1,qs,rfl,a1,r1.updL hq (λz=>e (by rw[z])),l1,c1⟩
theorem iQ.set (h:iQ K A H n C m p l b q0 us ws vs) (M:CP A m p l b q0) (hx:eN K A H n (C v) v) (hn:v∉us++vs++ws) (j:Nat):iQ K A (upd H m (.lst (us.set j v))) n C m p l b q0 (us.set j v) ws vs:=by
 have mem:∀x∈us.set j v++vs++ws,x=v\/x∈us++vs++ws:=λx hx=>by
  rcases ax.mp hx with hx | hx
  ·rcases ax.mp hx with hx | hx
   ·rcases bE hx with hx | hx
    ·exact .inr (by simp [hx])
    ·exact .inl hx
   ·exact .inr (by simp [hx])
  ·exact .inr (by simp [hx])
 refine ⟨h.bag.upd h.inn M.mb M.mq,h.inn.upd M.mb,aG,by rw[a9 M.mp.symm];exact h.gp,by rw[a9 M.ml.symm];exact h.gl,by rw[dA];exact h.lm,λx hx'=>?_,?_⟩
 ·rcases mem x hx' with rfl | hx'
  ·exact hx.other h.gm M.am
  ·exact (h.row x hx').other h.gm M.am
 ·have nd:=h.nd;rw[bX] at nd hn ⊢;obtain ⟨n1,n2,n3⟩:=c6.mp nd;refine c6.mpr ⟨?_,n2,λa ha c hc=>?_⟩
  ·rcases gO j us.length with z | z
   ·exact zh n1 (λz'=>hn (ax.mpr (.inl z'))) j
   ·rw[List.set_eq_of_length_le z];exact n1
  ·rcases bE ha with ha | rfl
   ·exact n3 a ha c hc
   ·exact λz=>hn (ax.mpr (.inr (by rw[z];exact hc)))
end
theorem Es (h0:0 < M) (h1:M<=2^800) (hW:W<=2^140) (h:Fr M W x):ky x :=
 DE h0 (ar h1 (aw (by decide) (by decide))) (ar hW (aw (by decide) (by decide))) h
theorem Jr {t V c:Nat} (ht:t<=3) (hV:V<=2^20) (hc:c<=9):c*(9^t*V)<=2^140:=by
 have h1:9^t<=9^3:=aw (by decide) ht;have h2:c*(9^t*V)<=9*(9^3*2^20):=bf hc (bf h1 hV);exact ar h2 (ar (show 9*(9^3*2^20)<=2^40 by decide) (aw (by decide) (by decide)))
theorem nE {α:Type} {l:List α} {v:α} (h:l.Nodup) (hn:v∉l):(l++[v]).Nodup:=c6.mpr ⟨h,by simp,λa ha c hc=>by rw[ck.mp hc];exact λz=>hn (by rw[<- z];exact ha)⟩
section
variable {K:FG9} {a:Addr} {xs:List V} {g:TG} {tf:TT} {te:TE} {Q:VK} {σ₀:St} {H:Hp} {α β:Type}
theorem zI (G:Hp->β->V->Prop) (C:β->Prop) (hB:fD H b) (hl:n<=1000) (hG:∀{H' H'' c x},G H' c x->cC b H' H''->fD H' b->G H'' c x)
  (hA:∀{H' c x},G H' c x->∃q,x=V.ref q/\H' q≠none)
  (hs:∀(i:Nat) H' NY NN,i < n->cC b H H'->fD H' b->(∀y c H2,cC b H' H2->fD H2 b->C c->G H2 c y->(∃q,y=V.ref q/\H' q=none)->NY y H2)->oI σ₀ g tf te (.int i) H' NY NN)
  (hd:∀ys cs H' p,H p=none->cC b H H'->fD H' b->H' p=some (.lst ys)->cs.length=n->ys.Nodup->(∀c∈cs,C c)->Paired (G H') cs ys->(∃H2,H2 p=none/\Paired (G H2) cs ys)->Q (.ref p) H'):pR (CT 0 n) σ₀ g tf te Q H:=by
 refine oa (λi ys H'=>cC b H H'/\fD H' b/\∃cs,cs.length=i/\ys.Nodup/\(∀c∈cs,C c)/\Paired (G H') cs ys) (aR (bB (by lia))) ⟨(aE.refl _).upto,hB,[],rfl,kW,(λ_ z=>nomatch z),.nil⟩ ?_ ?_
 ·rintro i ys H' hi hlen ⟨u,B,cs,lc,nd,hc,pr⟩;rw[wI];refine hs i H' _ _ hi u B λy c H2 u2 B2 cc gy ⟨q,ey,nq⟩=>⟨u.trans u2,B2,cs++[c],by simp [lc],nE nd (λz=>by obtain ⟨c',_,gc⟩:=cJ pr z;obtain ⟨q',e',h'⟩:=hA gc;rw[ey] at e';cases e';exact h' nq),A9 hc cc,cx (Paired.imp' (λ_ _ z=>hG z u2 B) pr) (.cons gy .nil)⟩
 ·rintro ys H' hy ⟨u,B,cs,lc,nd,hc,pr⟩ p hp;have s:aE H' (upd H' p (.lst ys)):=aE.new hp;exact hd ys cs _ p (u.none B hp) (u.same s) (B.same s) aG lc nd hc (Paired.imp' (λ_ _ z=>hG z s.upto B) pr) ⟨H',hp,pr⟩
end
structure DN (K:FG9) (A:Addr->Prop) (n:Nat) (C:Rat->Prop) (m p l b q0:Addr) (us ws vs:List V) (H0 H:Hp):Prop where
 mix:iQ K A H n (λ_=>C) m p l b q0 us ws vs
 gp:H p=some (.lst ws)
 gl:H l=some (.lst vs)
 kp:gB A b m H0 H
section
variable {K:FG9} {A:Addr->Prop} {n:Nat} {C:Rat->Prop} {m p l b q0 q:Addr} {us ws vs:List V} {H0 H H':Hp} {y:Rat} {v:V}
theorem DN.same (h:DN K A n C m p l b q0 us ws vs H0 H) (e:aE H H'):DN K A n C m p l b q0 us ws vs H0 H':=⟨h.mix.same e,e _ _ h.gp,e _ _ h.gl,h.kp.same e⟩
theorem DN.upto (h:DN K A n C m p l b q0 us ws vs H0 H) (M:CP A m p l b q0) (u:cC b H H') (B:fD H' b):DN K A n C m p l b q0 us ws vs H0 H':=⟨h.mix.upto M u B,u.other M.pb h.gp,u.other M.lb h.gl,h.kp.upto u⟩
theorem DN.row (h:DN K A n C m p l b q0 us ws vs H0 H) (hx:x∈ws\/x∈vs):eN K A H n C x:=h.mix.row x (by rcases hx with hx | hx <;> simp [hx])
theorem DN.put (h:DN K A n C m p l b q0 us ws vs H0 H) (M:CP A m p l b q0) (hx:V.ref q∈ws\/V.ref q∈vs) (hv:bU K H y v) (hc:C y) (j:Nat):∃zs,H q=some (.lst zs)/\zs.length=n/\DN K A n C m p l b q0 us ws vs H0 (upd H q (.lst (zs.set j v))):=by
 obtain ⟨q',zs,qs,e,a,g,lz,_⟩:=(h.row hx).at;cases e;have ne:∀{z},¬A z->z≠q:=λh e=>h (by rw[e];exact a)
 exact ⟨zs,g,lz,h.mix.put M a g hv hc j,by rw[a9 (ne M.ap)];exact h.gp,by rw[a9 (ne M.al)];exact h.gl,h.kp.upd (.inl a)⟩
end
inductive BL (K:FG9) (vs:List V) (H:Hp) (Q:VK) (E9:XK):Prop
 | mk (b:Addr) (n w:Nat) (way first:Int):vs=[.ref b,.int n,.int way,.int first,.int w]->fD H b->n<=8->1<=w->w<=1000000->(∀r us H',H r=none->H' r=some (.lst us)->us.length=n->us.Nodup->(∀x∈us,eN K (λq=>H q=none/\q≠r) H' n (Dr (max w 6)) x)->fD H' b->cC b H H'->Q (.ref r) H')->BL K vs H Q E9
def PtF (n i o w c:Nat) (mv pt lk:LR9):Prop:=∃M V1:Nat,0 < M/\GF M V1 mv/\GF M V1 pt/\GF M V1 lk/\((w<=9/\M=2520/\V1=9^3*9)\/(9 < w/\M<=2^(c*((n+i+o)*n))/\V1=9^3*2^c))
inductive BM (K:FG9) (vs:List V) (H:Hp) (Q:VK) (E9:XK):Prop
 | mk (b:Addr) (n:Nat):vs=[.ref b,.int n]->fD H b->1<=n->n<=8->(∀r mv pt lk H',eh K H H' r mv pt lk->mv.length=n->pt.length=1->lk.length=1->jX mv pt lk->GF 1 1 mv->GF 1 1 pt->GF 1 1 lk->fD H' b->cC b H H'->Q (.ref r) H')->BM K vs H Q E9
theorem wb (M0:0 < M) (hM:M<=2^a) (hn:mv.length<=n0) (hV:(n0+1)*V1<=2^c) (fm:GF M V1 mv) (fp:GF M V1 pt) (h4:a<=400/\c<=40/\n0*(n0*(a+c)+4)<=1740/\n0*(n0*(n0*(a+c)+4)+a+c+4)<=8900):L5 mv pt a c:=by
 obtain ⟨h1,h2,h3,h5⟩:=h4;have e1:mv.length*(a+c)<=n0*(a+c):=aN _ hn;have e2:mv.length*(mv.length*(a+c)+4)<=n0*(n0*(a+c)+4):=bf hn (by lia);have e3:mv.length*(mv.length*(mv.length*(a+c)+4)+a+c+4)<=n0*(n0*(n0*(a+c)+4)+a+c+4):=bf hn (by lia);exact ⟨M,V1,M0,hM,ar (aN _ (by lia)) hV,fm,fp,h1,h2,by lia,by lia⟩
def IP (K:FG9):Sp:=λvs H Q _=>∃b:Addr,vs=[.ref b]/\fD H b /\
 ∀r mv pt lk H',eh K H H' r mv pt lk->6<=mv.length->jX mv pt lk->GF 1 (9^3) mv->GF 1 (9^3) pt->GF 1 (9^3) lk->fD H' b->cC b H H'->Q (.ref r) H'
section
variable {rows fs ls:LR9} {n r M W Wv Wb k P:Nat} {Pm Y Z B E a:Nat->Nat->Rat} {d:Rat} {ps:List Nat} {rs:LR9}
def NZ (rows:LR9) (n S:Nat):Prop:=2*S<=3990/\∃J:Nat->LR9->List Nat->Prop,J 0 rows []/\(∀P rs ps,J P rs ps->(∀i,ps.length<=i->i < rs.length->b8 rs i P=0)->J (P+1) rs ps) /\
 (∀P fs ls ps t,J P (fs++ls) ps->fs.length=ps.length->t < ls.length->P < n->(ls.getD t []).getD P 0≠0->J (P+1) ((fs.map (xM P (me P (ls.getD t [])) )++[me P (ls.getD t [])])++(ls.eraseIdx t).map (xM P (me P (ls.getD t [])))) (ps++[P])) /\
 (∀P rs ps,J P rs ps->yv rows n P rs ps)/\∀P rs ps,J P rs ps->P<=n->∀i,i < rows.length->∃D:Nat,0 < D/\D<=2^S/\∀c,Tp D (2^S) (b8 rs i c)
theorem Kx.lws {w a:Nat} (F:Kx rows n w a) (hw:∀xs∈rows,xs.length=n):NZ rows n (min rows.length n*(w+4)+a):=by
 obtain ⟨_,_,_,_,_,_,_,_,e⟩:=id F;refine ⟨e,yv rows n,yv.start hw,λ_ _ _ h z=>h.skip z,λ_ _ _ _ _ h hf ht hP hne=>h.lean hf ht hP hne,λ_ _ _ h=>h,λP rs ps h hP i hi=>?_⟩;obtain ⟨D,D0,D1,D2⟩:=h.sz F hP hi;exact ⟨D,D0,D1,λc=>(D2 c).mono (aw (by decide) (by lia))⟩
end
inductive wY (K:FG9) (vs:List V) (H:Hp) (Q:VK) (E9:XK):Prop
 | mk (p:Addr) (n S:Nat) (H0:Hp) (rows:LR9):vs=[.ref p,.int n]->bK K H0 H p rows->rows.length<=100->n<=100->(∀xs∈rows,xs.length=n)->NZ rows n S->(∀r R ps H',H r=none->aE H H'->bK K H H' r R->fw rows n R ps->ps.length<=rows.length->Q (.ref r) H')->wY K vs H Q E9
section
variable {K:FG9} {a:Addr} {xs:List V} {g:TG} {tf:TT} {te:TE} {Q:VK} {σ₀:St} {H:Hp} {α β:Type}
theorem zG {F:Hp->α->V->Prop} (G:Hp->β->V->Prop) (f:α->β) (hx:H a=some (.lst xs)) (pf:Paired (F H) as xs) (hl:as.length<=1000)
  (hF:∀{H H' c x},F H c x->aE H H'->F H' c x) (hG:∀{H H' c x},G H c x->aE H H'->G H' c x) (hA:∀{H' c x},G H' c x->∃q,x=V.ref q/\H' q≠none)
  (hs:∀(i:Nat) c x H' NY NN,as[i]?=some c->aE H H'->F H' c x->(∀y H2,aE H' H2->G H2 (f c) y->(∃q,y=V.ref q/\H' q=none)->NY y H2)->oI σ₀ g tf te x H' NY NN)
  (hd:∀ys H' p,H p=none->aE H H'->H' p=some (.lst ys)->ys.Nodup->(∀y∈ys,∃q,y=V.ref q/\H q=none/\q≠p)->Paired (G H') (as.map f) ys->Q (.ref p) H'):pR (JW K a) σ₀ g tf te Q H:=by
 have lx:=pf.length;refine dO (K:=K) (xs:=xs) (λi ys H'=>aE H H'/\ys.Nodup/\(∀y∈ys,∃q,y=V.ref q/\H q=none)/\Paired (G H') ((as.take i).map f) ys) (aR (bB (by lia))) ⟨aE.refl _,kW,(λ_ z=>nomatch z),.nil⟩ (λi ys H' _ ⟨s,_⟩=>bD.of (s _ _ hx)) ?_ ?_
 ·rintro i x ys H' hx' hlen ⟨s,nd,hn,pr⟩;obtain ⟨c,ec,hc⟩:=cG pf hx';refine hs i c x H' _ _ ec s (hF hc s) λy H2 s2 gy ⟨q,ey,nq⟩=>⟨s.trans s2,nE nd (λz=>?_),A9 hn ⟨q,ey,s.none nq⟩,?_⟩
  ·obtain ⟨c',_,gc⟩:=cJ pr z;obtain ⟨q',e',h'⟩:=hA gc;rw[ey] at e';cases e';exact h' nq
  ·rw[take_snoc ec,cD];exact cx (Paired.imp' (λ_ _ z=>hG z s2) pr) (.cons gy .nil)
 ·rintro ys H' hy ⟨s,nd,hn,pr⟩ p hp;rw[aJ (by lia)] at pr;refine hd ys _ p (s.none hp) (s.trans (aE.new hp)) aG nd (λy hy=>?_) (Paired.imp' (λ_ _ z=>hG z (aE.new hp)) pr);obtain ⟨q,e,nq⟩:=hn y hy;refine ⟨q,e,nq,λz=>?_⟩;obtain ⟨c',_,gc⟩:=cJ pr hy;obtain ⟨q',e',h'⟩:=hA gc;rw[e] at e';cases e';exact h' (by rw[z];exact hp)
end
structure NA (K:FG9) (H0 H:Hp) (n:Nat) (fd:Addr) (L:List (Addr×List V)):Prop where
 gf:H fd=some (.lst (L.map λe=>V.ref e.1))
 nf:H0 fd=none
 ls:∀e∈L,H0 e.1=none/\e.1≠fd/\H e.1=some (.lst e.2)
 nd:(L.map λe=>e.1).Nodup
 rows:∀e∈L,∀x∈e.2,eN K (λq=>(H0 q=none/\q≠fd)/\q∉L.map λe=>e.1) H n (Fr 1 1) x
 rd:(L.flatMap λe=>e.2).Nodup
section
variable {K:FG9} {H0 H H1:Hp} {n:Nat} {fd q:Addr} {L:List (Addr×List V)} {us:List V}
theorem NA.snoc (h:NA K H0 H n fd L) (s0:aE H0 H) (s:aE H H1) (hq:H q=none) (gq:H1 q=some (.lst us)) (nd:us.Nodup) (hr:∀x∈us,eN K (λz=>H z=none/\z≠q) H1 n (Fr 1 1) x):NA K H0 (upd H1 fd (.lst ((L.map λe=>V.ref e.1)++[.ref q]))) n fd (L++[(q,us)]):=by
 have qf:q≠fd:=λz=>by rw[z,h.gf] at hq;cases hq
 have old:∀{z},z∈(L.map λe=>e.1)->H z≠none:=λhz=>by
  obtain ⟨e,he,rfl⟩:=aA.mp hz;rw[(h.ls e he).2.2];exact λz=>nomatch z
 have g1:=s _ _ h.gf;refine ⟨by rw[aG,cD];rfl,h.nf,λe he=>?_,?_,λe he x hx=>?_,?_⟩
 ·rcases ax.mp he with he | he
  ·obtain ⟨a,b,c⟩:=h.ls e he;exact ⟨a,b,by rw[a9 b];exact s _ _ c⟩
  ·rw[ck.mp he];exact ⟨s0.none hq,qf,by rw[a9 qf];exact gq⟩
 ·rw[cD];exact nE h.nd λz=>old z hq
 ·have key:eN K (λz=>(H0 z=none/\z≠fd)/\z∉(L++[(q,us)]).map λe=>e.1) H1 n (Fr 1 1) x:=by
   rcases ax.mp he with he | he
   ·obtain ⟨z,qs,e1,⟨e2,e3⟩,e4,e5⟩:=h.rows e he x hx;refine ⟨z,qs,e1,⟨e2,λhz=>?_⟩,e4.same s,e5⟩;rw[cD] at hz;rcases ax.mp hz with hz | hz
    ·exact e3 hz
    ·have hz:z=q:=ck.mp hz;obtain ⟨_,gg,_⟩:=e4;rw[hz,hq] at gg;cases gg
   ·rw[ck.mp he] at hx;refine (hr x hx).weak (λz hz=>⟨⟨s0.none hz.1,λy=>by rw[y] at hz;rw[h.gf] at hz;exact absurd hz.1 (λw=>nomatch w)⟩,λy=>?_⟩) (λ_ w=>w);rw[cD] at y;rcases ax.mp y with y | y
    ·exact old y hz.1
    ·exact hz.2 (ck.mp y)
  exact key.other g1 (λz=>z.1.2 rfl)
 ·rw[List.flatMap_append];refine c6.mpr ⟨h.rd,by simpa using nd,λx hx y hy z=>?_⟩;obtain ⟨e,he,hx⟩:=List.mem_flatMap.mp hx;obtain ⟨w,qs,e1,_,⟨_,gg,_⟩,_⟩:=h.rows e he x hx;obtain ⟨w',_,e1',⟨hw,_⟩,_⟩:=hr y (by simpa using hy);rw[<- z,e1] at e1';cases e1';rw[hw] at gg;cases gg
end
section
variable {mv pt lk pus:LR9} {st pu go:List Rat} {n t T c:Nat}
theorem Cs (D:jX mv pt lk) (h:st.length=mv.length) (hp:pu.length=pt.length) (hc:c < mv.length):(dE mv pt st pu).getD c 0=bL mv.length (λj=>b8 mv c j*st.getD j 0)+bL pt.length λi=>pu.getD i 0*b8 pt i c:=by
 have wc:=D.mw _ (aS hc)
 have e:(dE mv pt st pu).getD c 0=cZ (mv[c]++pt.map λxs=>xs.getD c 0) (st++pu):=by
  unfold dE;rw[aa,bO,af hc,FW hc];rfl
 rw[e,pH (by lia),mh (by lia),mh (by rw[ag];lia),wc,ag];congr 1
 ·refine aM λj _=>?_
  unfold b8;rw[aa (l:=mv),af hc];rfl
 ·refine aM λi hi=>?_
  rw[cQ];congr 1;unfold b8;rw[aa,aB,aa (l:=pt),af hi];rfl
end
structure Nl (mv pt:LR9) (st pu:List Rat):Prop where
 f2:∀xs∈mv,uK xs st
 part:∀kk,∀x∈nextK mv pt st pu kk,ky x
 su:∀u∈pu,ky u
 sp:∀row∈pt,∀y∈row,ky y
 mul:∀u∈pu,∀row∈pt,∀y∈row,ky (u*y)
inductive BK (K:FG9) (vs:List V) (H:Hp) (Q:VK) (E9:XK):Prop
 | mk (r s u:Addr) (H0:Hp) (mv pt lk:LR9) (st pu:List Rat):vs=[.ref r,.ref s,.ref u]->eh K H0 H r mv pt lk->jX mv pt lk->cM K H s st->cM K H u pu->st.length=mv.length->pu.length=pt.length->Nl mv pt st pu->(∀t H',H t=none->aE H H'->cM K H' t (dE mv pt st pu)->Q (.ref t) H')->BK K vs H Q E9
structure Bd (mv pt:LR9) (M1 M2 V a1 a2 c:Nat):Prop where
 m1:0 < M1
 m2:0 < M2
 b1:M1<=2^a1
 b2:M2<=2^a2
 gm:GF M1 V mv
 gp:GF M2 V pt
 vc:(mv.length+4)*V<=2^c
section
variable {mv pt lk pus:LR9} {st pu go:List Rat} {M1 M2 V a1 a2 c N Np p t T ν:Nat}
theorem Bd.v1 (B:Bd mv pt M1 M2 V a1 a2 c):V<=2^c:=ar (wH _ (by lia)) B.vc
theorem kn (h0:0 < M) (h1:M<=2^a) (h2:W<=2^b) (hab:a+b<=3990) (h:Fr M W x):ky x:=by
 refine Ab (Tp.of h (av _)) h0 (ar h1 (aw (by decide) (by lia))) ?_;refine ar (bf h2 h1) ?_;rw[<- bS];exact aw (by decide) (by lia)
theorem Bd.next (B:Bd mv pt M1 M2 V a1 a2 c) (D:jX mv pt lk) (ls:st.length=mv.length) (lu:pu.length=pt.length) (N0:0 < N) (dv:M2*Np∣M1*N) (hs:∀x∈st,Fr N (2^p) x) (hu:∀x∈pu,Fr Np (2^p) x) (hN:N<=2^ν) (sz:a1+ν+c+p<=3900) (sp2:a2+c<=3900):Nl mv pt st pu/\∀x∈dE mv pt st pu,Fr (M1*N) (2^(c+p)) x:=by
 have V1:=B.v1;have i4:=D.i4;have MN0:0 < M1*N:=bQ B.m1 N0;have MN:M1*N<=2^(a1+ν):=by rw[bS];exact bf B.b1 hN
 have Np0:0 < Np:=by
  rcases qX Np with z | z
  ·rw[z,Nat.mul_zero] at dv;have:=Nat.eq_zero_of_zero_dvd dv
   lia
  ·exact z
 have NpMN:Np<=M1*N:=ar (wH _ B.m2) (fM MN0 dv)
 have one:∀u∈pu,∀row∈pt,∀y∈row,Fr (M1*N) (V*2^p) (u*y):=λu hu' row hr y hy=>by
  have:=(B.gp row hr y hy).mul (hu u hu');rw[cQ];exact this.dvd dv
 have part:∀kk,kk<=pt.length->∀x∈nextK mv pt st pu kk,Fr (M1*N) (2^(c+p)) x:=λkk hkk x hx=>by
  obtain ⟨j,hj,e⟩:=bZ hx;rw[gY] at hj;have e2:=xI (mv:=mv) (pt:=pt) (st:=st) (pu:=pu) (k:=kk) hj;rw[aa,af (by rw[gY];exact hj)] at e2;have e3:x=cZ (mv[j]++(pt.map λxs=>xs.getD j 0).take kk) (st++pu.take kk):=by rw[<- e,<- e2];rfl
  have wj:=D.mw _ (aS hj);rw[e3,pH (by lia)];have f1:=Fr.dot (B.gm _ (aS hj)) hs;rw[wj] at f1
  have f2:Fr (M1*N) (4*(V*2^p)) (cZ ((pt.map λxs=>xs.getD j 0).take kk) (pu.take kk)):=by
   have hc:∀y∈(pt.map λxs=>xs.getD j 0).take kk,Fr M2 V y:=λy hy=>by
    obtain ⟨xs,hxs,rfl⟩:=aA.mp (cf hy);rw[aa];cases e:xs[j]? with
    | none=>exact Fr.zero
    | some z=>exact B.gp xs hxs z (ao e)
   have:=Fr.dot (ys:=pu.take kk) hc (λy hy=>hu y (cf hy));refine (this.dvd dv).mono (aN _ ?_);rw[bY,ag]
   lia
  refine (f1.add f2).mono ?_;rw[<- Iq,bS,<- cE];exact aN _ B.vc
 have szb:∀{x:Rat},Fr (M1*N) (2^(c+p)) x->ky x:=λh=>kn MN0 MN (av _) (by lia) h
 have all:∀kk,∀x∈nextK mv pt st pu kk,Fr (M1*N) (2^(c+p)) x:=λkk x hx=>by
  rcases gO pt.length kk with z | z
  ·have e:nextK mv pt st pu kk=nextK mv pt st pu pt.length:=(pX (by lia) (by lia)).trans (pX (av _) (by lia)).symm;rw[e] at hx;exact part _ (av _) x hx
  ·exact part kk z x hx
 refine ⟨⟨λxs hx=>⟨a1,c,ν,p,⟨M1,V,B.m1,B.b1,V1,B.gm xs hx⟩,⟨N,2^p,N0,hN,av _,hs⟩,by lia⟩,λkk x hx=>szb (all kk x hx),λu hu'=>?_,λrow hr y hy=>?_,λu hu' row hr y hy=>szb ((one u hu' row hr y hy).mono (by rw[bS];exact aN _ V1))⟩,λx hx=>?_⟩
 ·exact kn Np0 (ar NpMN MN) (av _) (by lia) (hu u hu')
 ·exact kn B.m2 B.b2 V1 (by lia) (B.gp row hr y hy)
 ·rw[<- pX (k:=pt.length) (av _) (by lia)] at hx;exact all _ x hx
end
section
variable {mv pt lk pus:LR9} {st pu go:List Rat} {M1 M2 V a1 a2 c N Np p t T ν k:Nat}
theorem Ci (h:M<=2^a) (hN:N<=2^ν):M^t*N<=2^(a*t+ν):=by
 rw[bS,Nat.pow_mul];exact bf (Nat.pow_le_pow_left h t) hN
theorem Bd.states (B:Bd mv pt M1 M2 V a1 a2 c) (D:jX mv pt lk) (ls:st.length=mv.length) (wp:∀xs∈pus,xs.length=pt.length) (N0:0 < N) (hN:N<=2^ν) (dv:M2*Np∣N) (hs:∀x∈st,Fr N (2^p) x) (hu:∀xs∈pus,∀x∈xs,Fr Np (2^p) x) (sz:a1*(pus.length+1)+ν+c*(pus.length+1)+p<=3900) (sp2:a2+c<=3900):∀k,k<=pus.length->(∀x∈Ad mv pt st pus k,Fr (M1^k*N) (2^(c*k+p)) x)/\∀pu,pus[k]?=some pu->Nl mv pt (Ad mv pt st pus k) pu:=by
 have key:∀k,k<=pus.length->(∀x∈Ad mv pt st pus k,Fr (M1^k*N) (2^(c*k+p)) x)->∀pu,pus[k]?=some pu->Nl mv pt (Ad mv pt st pus k) pu/\∀x∈dE mv pt (Ad mv pt st pus k) pu,Fr (M1*(M1^k*N)) (2^(c+(c*k+p))) x:=λk hk f pu hpu=>by
  have mp:=ao hpu;have kl:=(aF.mp hpu).1;have e1:a1*(k+1)<=a1*(pus.length+1):=eL _ (by lia);have e2:c*(k+1)<=c*(pus.length+1):=eL _ (by lia);rw[Ip,Nat.mul_one] at e1 e2;refine B.next D (DX ls hk) (wp pu mp) (bQ (tR B.m1) N0) ?_ f (λx hx=>(hu pu mp x hx).mono (aw (by decide) (Nat.le_add_left _ _))) (Ci B.b1 hN) (by lia) sp2;exact jQ dv (jQ (eX _ _) (eX _ _))
 have fr:∀k,k<=pus.length->∀x∈Ad mv pt st pus k,Fr (M1^k*N) (2^(c*k+p)) x:=by
  intro k
  induction k with
  | zero =>
   intro _ x hx;rw[Nat.pow_zero,tS,Nat.mul_zero,Nat.zero_add];exact hs x hx
  | succ k ih =>
   intro hk x hx;have e:=af (show k < pus.length by lia);rw[sD e] at hx;have:=(key k (by lia) (ih (by lia)) _ e).2 x hx;rw[<- cE,cB M1,<- fF,show c+(c*k+p)=c*(k+1)+p by rw[Ip];lia] at this;exact this
 exact λk hk=>⟨fr k hk,λpu hpu=>(key k hk (fr k hk) pu hpu).1⟩
end
section
variable {X:Cx}
theorem FC (hc:X.calm=true):mH X (.builtin "max") (λxs H Q=>∃(p:Addr) (ns:List Int),xs=[.ref p]/\bD X.K H p (ns.map V.int)/\0 < ns.length/\∀M,M∈ns->(∀a,a∈ns->a<=M)->Q (.int M) H):=by
 intro pins s σ H xs us Q I r h;obtain ⟨p,ns,rfl,hp,hne,q⟩:=h;obtain ⟨u,rfl,ru⟩:=vals1 r;cases ru;obtain ⟨its,r2,pl,_⟩:=I.list hp;have hi:=intsAre_of r2;have hl:=pl.isList;obtain ⟨xs,e⟩:=hi.allInts.items
 have hns:ns=xs.toList.map (·.1):=by
  rw[<- hi.numsOf,<- nums_intItems,<- e]
 have hsz:0 < xs.size:=by
  have h3:=hne;rw[hns,ag,Array.length_toList] at h3;exact h3
 rw[e] at hl;refine max_intList (I.ok.hd hc) hl hsz λv h' tk hv hk=>?_
 obtain ⟨t,rfl⟩:=intItems_at hv;obtain ⟨h1,h2⟩:=argBest_gt (numAt xs) (xs.size - 1);refine ⟨.int _,H,I.kept hk,⟨_,rfl⟩,q _ ?_ λa ha=>?_⟩
 ·rw[hns,numAt_eq];exact getD_in (by rw[ag,Array.length_toList];lia)
 ·rw[hns] at ha;obtain ⟨j,hj,rfl⟩:=mem_getD ha;rw[ag,Array.length_toList] at hj;rw[<- numAt_eq];exact h2 j (by lia)
end
theorem ze {α β:Type} {f:α->β}:∀{l1:List α} {l2:List β},Paired (λa b=>b=f a) l1 l2->l2=l1.map f
 | _,_,.nil=>rfl
 | _,_,.cons h r=>by rw[h,ze r];rfl
def StP (mv pt:LR9) (T:Nat):Prop:=T<=12/\(T<=3\/((∀xs∈mv++pt,∀x∈xs,x.den<=9/\x.num.natAbs < 1000)/\(5 < mv.length->T<=mv.length)/\(3<=mv.length->mv.length<=5->T<=mv.length+1)))
def Md (x:Rat):Int:=(x.den:Int)+(x.num.natAbs:Int) / 1000*9
theorem JL (h:Md x<=9):x.den<=9/\x.num.natAbs < 1000:=by
 unfold Md at h;have:=x.den_pos
 lia
inductive yW (K:FG9) (vs:List V) (H:Hp) (Q:VK) (E9:XK):Prop
 | mk (b r:Addr) (H0:Hp) (mv pt lk:LR9):vs=[.ref b,.ref r]->fD H b->H0 b≠none->eh K H0 H r mv pt lk->jX mv pt lk->(∀xs∈mv++pt,∀x∈xs,ky x)->(∀(T:Nat) H',StP mv pt T->fD H' b->cC b H H'->Q (.int T) H')->yW K vs H Q E9
inductive BH (K:FG9) (vs:List V) (H:Hp) (Q:VK) (E9:XK):Prop
 | mk (b r:Addr) (T w:Nat) (H0:Hp) (mv pt lk:LR9):vs=[.ref b,.ref r,.int T,.int w]->T<=100->1<=w->w<=1000->fD H b->H0 b≠none->eh K H0 H r mv pt lk->jX mv pt lk->(∀p pus H',H p=none->bK K H H' p pus->pus.length=T->(∀xs∈pus,xs.length=pt.length/\∀x∈xs,Dr (max w 6) x)->fD H' b->cC b H H'->Q (.ref p) H')->BH K vs H Q E9
theorem GS (ws vs:List V) (M1 M2 M3:Nat):∃μ:V->Nat,(∀x∈ws,μ x=M2)/\(∀x∈vs,x∉ws->μ x=M3)/\(∀x,x∉ws->x∉vs->μ x=M1)/\∀x,μ x=M1\/μ x=M2\/μ x=M3:=by
 classical
 refine ⟨λx=>if x∈ws then M2 else if x∈vs then M3 else M1,λx h=>if_pos h,λx h h'=>?_,λx h h'=>?_,λx=>?_⟩
 ·show (if x∈ws then M2 else if x∈vs then M3 else M1)=M3
  rw[if_neg h',if_pos h]
 ·show (if x∈ws then M2 else if x∈vs then M3 else M1)=M1
  rw[if_neg h,if_neg h']
 ·show (if x∈ws then M2 else if x∈vs then M3 else M1)=M1\/(if x∈ws then M2 else if x∈vs then M3 else M1)=M2\/(if x∈ws then M2 else if x∈vs then M3 else M1)=M3
  by_cases h:x∈ws
  ·rw[if_pos h];exact .inr (.inl rfl)
  ·rw[if_neg h];by_cases h':x∈vs
   ·rw[if_pos h'];exact .inr (.inr rfl)
   ·rw[if_neg h'];exact .inl rfl
theorem iQ.apart {K:FG9} (h:iQ K A H n C m p l b q0 us ws vs):(∀x∈us,x∉ws/\x∉vs)/\∀x∈vs,x∉ws:=by
 obtain ⟨n1,n2,n3⟩:=c6.mp h.nd;obtain ⟨n4,n5,n6⟩:=c6.mp n1;exact ⟨λx hx=>⟨λz=>n3 x (ax.mpr (.inl hx)) x z rfl,λz=>n6 x hx x z rfl⟩,λx hx z=>n3 x (ax.mpr (.inr hx)) x z rfl⟩
theorem iQ.fr3 {K:FG9} (h:iQ K A H n (λ_=>Dr (2^c)) m p l b q0 us ws vs):∃M1 M2 M3,0 < M1/\0 < M2/\0 < M3/\M1<=2^(c*(n*n))/\M2<=2^(c*(ws.length*n))/\M3<=2^(c*(vs.length*n))/\(∀x∈us,eN K A H n (Fr M1 (2^c)) x)/\(∀x∈ws,eN K A H n (Fr M2 (2^c)) x)/\∀x∈vs,eN K A H n (Fr M3 (2^c)) x:=by
 have one:∀l:List V,(∀x∈l,x∈us++vs++ws)->∃M,0 < M/\M<=2^(c*(l.length*n))/\∀x∈l,eN K A H n (Fr M (2^c)) x:=λl hl=>by
  obtain ⟨ra,pa,la,ha⟩:=xu λx hx=>h.row x (hl x hx)
  obtain ⟨M,m0,m1,m2⟩:=D7 (c:=c) (n:=n) (rows:=ra) ha;exact ⟨M,m0,by rw[la] at m1;exact m1,Dg pa λqs hq=>⟨(ha qs hq).1,m2 qs hq⟩⟩
 obtain ⟨M1,a1,a2,a3⟩:=one us λx hx=>by simp [hx]
 obtain ⟨M2,b1,b2,b3⟩:=one ws λx hx=>by simp [hx]
 obtain ⟨M3,c1,c2,c3⟩:=one vs λx hx=>by simp [hx]
 rw[h.lm] at a2;exact ⟨M1,M2,M3,a1,b1,c1,a2,b2,c2,a3,b3,c3⟩
inductive yZ (K:FG9) (xs:List V) (H:Hp) (Q:VK) (E9:XK):Prop
 | mk (b m p l q0:Addr) (n V1:Nat) (μ:V->Nat) (A:Addr->Prop) (us ws vs:List V):xs=[.ref b,.ref m,.ref p,.ref l]->CP A m p l b q0->iQ K A H n (λx=>Fr (μ x) V1) m p l b q0 us ws vs->n<=8->ws.length<=4->vs.length<=4->(∀x,0 < μ x)->(∀x,μ x<=2^800)->(∃M,∀x,x∉ws->x∉vs->μ x=M)->V1<=2^20->(∀q,H q=none->A q)->(∀r us' H',H' r=some (.tup [.ref m,.ref p,.ref l])->iQ K A H' n (λx=>Fr (μ x) (9^3*V1)) m p l b q0 us' ws vs->gB A b m H H'->Q (.ref r) H')->yZ K xs H Q E9
def NW (n i o w c:Nat) (mv pt lk:LR9):Prop:=∃M1 M2 M3 V1:Nat,0 < M1/\0 < M2/\0 < M3/\GF M1 V1 mv/\GF M2 V1 pt/\GF M3 V1 lk/\((w<=9/\M1=2520/\M2=2520/\M3=2520/\V1=9^3*9)\/(9 < w/\M1<=2^(c*(n*n))/\M2<=2^(c*(i*n))/\M3<=2^(c*(o*n))/\V1=9^3*2^c))
inductive yX (K:FG9) (vs:List V) (H:Hp) (Q:VK) (E9:XK):Prop
 | mk (b:Addr) (n i o w c:Nat):vs=[.ref b,.int n,.int i,.int o,.int w]->fD H b->n<=8->i<=4->o<=4->1<=w->w<=1000000->max w 6<=2^c->c<=20->c*((n+i+o)*n)<=800->(∀r mv pt lk H',eh K H H' r mv pt lk->mv.length=n->pt.length=i->lk.length=o->jX mv pt lk->NW n i o w c mv pt lk->fD H' b->cC b H H'->Q (.ref r) H')->yX K vs H Q E9
def Rg (mv pt:LR9) (w:Nat):Prop:=(w<=9/\Bd mv pt 1 1 (9^3) 0 0 14)\/(w<=9/\mv.length<=5/\Bd mv pt 2520 2520 (9^3*9) 12 12 16)\/(w=1000/\mv.length<=2/\∃M1 M2,Bd mv pt M1 M2 (9^3*2^20) 80 160 33)
def IS (K:FG9):Sp:=λvs H Q _=>∃b:Addr,vs=[.ref b]/\fD H b /\
 ∀t r (w a c:Nat) mv pt lk H',H' t=some (.tup [.ref r,.int w])->eh K H H' r mv pt lk->jX mv pt lk->Me mv pt lk->L5 mv pt a c->Rg mv pt w->1<=w->w<=1000->fD H' b->cC b H H'->Q (.ref t) H'
theorem DA {M V:Nat} (h:GF M V l) (k:Nat):GF (k*M) V l:=λxs hx x hx'=>(h xs hx x hx').scaleL k
theorem NW.n {n i o w c:Nat} (h:NW n i o w c mv pt lk):PtF n i o w c mv pt lk:=by
 obtain ⟨M1,M2,M3,V1,a1,a2,a3,f1,f2,f3,hc⟩:=h;rcases hc with ⟨w9,rfl,rfl,rfl,e⟩ | ⟨w9,e1,e2,e3,e⟩
 ·exact ⟨2520,V1,by decide,f1,f2,f3,.inl ⟨w9,rfl,e⟩⟩
 ·refine ⟨M1*M2*M3,V1,bQ (bQ a1 a2) a3,?_,?_,?_,.inr ⟨w9,?_,e⟩⟩
  ·have:=DA f1 (M2*M3);rwa [show M2*M3*M1=M1*M2*M3 by rw[cB (M2*M3),cE]] at this
  ·have:=DA f2 (M1*M3);rwa [show M1*M3*M2=M1*M2*M3 by rw[cE,cB M3,cE]] at this
  ·exact DA f3 (M1*M2)
  ·refine ar (bf (bf e1 e2) e3) ?_;rw[<- bS,<- bS,show c*((n+i+o)*n)=c*(n*n)+c*(i*n)+c*(o*n) by rw[Iq,Iq,Ip,Ip]];exact av _
open PySem.MeetsSeq
section
theorem vY {M V:Nat} {f:Nat->Rat}:∀k,(∀i,i < k->Fr M V (f i))->Fr M (k*V) (bL k f)
 | 0,_=>Fr.zero
 | k+1,h=>by
  rw[wG];exact (vY k λi hi=>h i (by lia)).add (h k (by lia))
variable {d j n w M:Nat} {go ws:List Rat} {rows:LR9}
end
def kBl:Kind Bool where
 R:=λ_ _ x i=>x=.bl i
 d:=0
 inj:=λ_ h1 h2=>by rw[h1] at h2;cases h2;rfl
 rc:=λ{X pins σ H s x y v u a b A} I rx ry h1 h2 _=>by
  subst h1 h2;cases (show v=Value.bool a from rx);cases (show u=Value.bool b from ry);have q:=SeqAt.RcAt.bool_bool (A:=A) (s:=s) a b;rwa [cP] at q
 ne:=λ{X pins σ H s x y v u a b A} I rx ry h1 h2 _=>by
  subst h1 h2;cases (show v=Value.bool a from rx);cases (show u=Value.bool b from ry);have q:=SeqAt.RcNeAt.bool_bool (A:=A) (s:=s) a b;rwa [cP] at q
 eq:=λ{X pins σ H s x y v u a b A} I rx ry h1 h2 _=>by
  subst h1 h2;cases (show v=Value.bool a from rx);cases (show u=Value.bool b from ry);have q:=SeqAt.EqAt.bool_bool (A:=A) (s:=s) a b;rwa [cP] at q
section
variable {mv pt lk F R:LR9} {n m:Nat} {ps:List Nat} {x:Nat->Rat} {st pu:List Rat}
theorem IE {xs ys:List Rat} (h:ys.length=xs.length) (hi:i < xs.length):(List.zipWith (λx y=>x+y) xs ys).getD i 0=xs.getD i 0+ys.getD i 0:=by
 rw[aa,bO,af hi,af (show i < ys.length by lia),aa,aa,af hi,af (show i < ys.length by lia)];rfl
end
section
variable {mv pt lk F:LR9} {M1 M2 M3 E V1 V0 a c n0 n:Nat}
theorem DF {M V i j:Nat} (h:GF M V rows):Fr M V (b8 rows i j):=by
 unfold b8;rw[aa (l:=rows)];cases ei:rows[i]? with
 | none=>show Fr M V (([]:List Rat).getD j 0);exact Fr.zero
 | some xs =>
  show Fr M V (xs.getD j 0)
  rw[aa];cases ej:xs[j]? with
  | none=>exact Fr.zero
  | some y=>exact h xs (ao ei) y (ao ej)
end
inductive xf (K:FG9) (vs:List V) (H:Hp) (Q:VK) (E9:XK):Prop
 | mk (p q:Addr) (w:Nat) (H0 H1:Hp) (one other:LR9):vs=[.ref p,.ref q,.int w]->bK K H0 H p one->bK K H1 H q other->one.length<=1000->other.length<=1000->w<=1000->((∀xs∈one,xs.length=other.length/\∀ys∈cm other w,uK ys xs))->(∀xs∈other,xs.length=w)->(∀r H',H r=none->aE H H'->bK K H H' r (gF one other w)->Q (.ref r) H')->xf K vs H Q E9
inductive gG {α:Type}:Sem α->Prop
 | pure (a:α):gG (.pure a)
 | raise (e:Value):gG (.raise e)
 | uns (w:String):gG (.unsupported w)
 | rule {t:String} {k:Unit->Sem α} (h:∀u,gG (k u)):gG (.rule t k)
 | load {a:Addr} {p:Option Value} {k:Obj->Sem α} (h:∀o,gG (k o)):gG (.load a p k)
 | update {a:Addr} {p:Option Value} {f:Obj->Obj} {k:Unit->Sem α} (hf:∀o,(f o).dict=o.dict) (h:∀u,gG (k u)):gG (.update a p f k)
 | alloc {o:Obj} {k:Addr->Sem α} (h:∀a,gG (k a)):gG (.alloc o k)
 | alive {a:Addr} {k:Option Obj->Sem α} (h:∀o,gG (k o)):gG (.loadIfAlive a k)
 | stack {k:List (Code×Pos)->Sem α} (h:∀l,gG (k l)):gG (.stack k)
 | reg {a:Addr} {k:Unit->Sem α}:gG (.register a k)
 | ask {k:Setting->Sem α} (h:∀x,gG (k x)):gG (.ask k)
theorem gG.bind {m:Sem α} {f:α->Sem β} (hm:gG m) (hf:∀a,gG (f a)):gG (m >>= f):=by
 show gG (Sem.bind m f)
 induction hm with
 | pure a=>exact hf a
 | raise e=>exact .raise e
 | uns w=>exact .uns w
 | rule _ ih=>exact .rule λu=>ih u
 | load _ ih=>exact .load λu=>ih u
 | update hg _ ih=>exact .update hg λu=>ih u
 | alloc _ ih=>exact .alloc λu=>ih u
 | alive _ ih=>exact .alive λu=>ih u
 | stack _ ih=>exact .stack λu=>ih u
 | reg=>exact .reg
 | ask _ ih=>exact .ask λu=>ih u
def gL (e:Addr) (d:Option Addr) (h:Heap):Prop:=e < h.objs.size/\∀o,h.objs[e]?=some o->o.dict=d
theorem gL.get (x:gL e d h) (q:h.get? e=some o):o.dict=d:=by
 unfold Heap.get? at q
 split at q
 ·cases q
 ·exact x.2 o q
theorem gL.of (q:h.get? e=some o):gL e o.dict h:=by
 refine ⟨Heap.lt_size q,λo' q'=>?_⟩;unfold Heap.get? at q
 split at q
 ·cases q
 ·rw[q'] at q;cases q;rfl
theorem gL.update (x:gL e d h) (hf:∀o,(f o).dict=o.dict):gL e d (h.update a f):=by
 obtain ⟨objs,l⟩:=h;refine ⟨by show e < (objs.modify a f).size;rw[Array.size_modify];exact x.1,λo q=>?_⟩;have q:(objs.modify a f)[e]?=some o:=q;rw[Array.getElem?_modify] at q
 split at q
 ·obtain ⟨o',q',rfl⟩:=Option.map_eq_some_iff.mp q;rw[hf];exact x.2 o' q'
 ·exact x.2 o q
theorem gL.push (x:gL e d h):gL e d (h.push o):=by
 obtain ⟨objs,l⟩:=h;refine ⟨by show e < (objs.push o).size;rw[Array.size_push];exact EJ x.1,λo' q=>?_⟩;have q:(objs.push o)[e]?=some o':=q;rw[Array.getElem?_push,if_neg (b9 x.1)] at q;exact x.2 o' q
section
variable {M:Model} {e:Addr} {d:Option Addr}
theorem IF {t:Sem α} (ht:gG t) {Q:α->Pos->Shared->Prop}:∀{p:Pos} {s:Shared},Sem.wp M Γ t Q E p s->gL e d s.heap →
  Sem.wp M Γ t (λa p s'=>Q a p s'/\gL e d s'.heap) (λv p s'=>E v p s'/\gL e d s'.heap) p s:=by
 induction ht with
 | pure a=>exact λh x=>⟨h,x⟩
 | raise v=>exact λh x=>⟨h,x⟩
 | uns w=>exact λh _=>h
 | reg=>exact λh _=>h
 | rule _ ih=>exact λh x=>ih () h x
 | load _ ih=>exact λ⟨o,ho,h⟩ x=>⟨o,ho,ih o h x⟩
 | update hf _ ih=>exact λ⟨ha,h⟩ x=>⟨ha,ih () h (x.update hf)⟩
 | alloc _ ih=>exact λh x=>ih _ h x.push
 | alive _ ih=>exact λh x=>ih _ h x
 | stack _ ih=>exact λh x=>ih _ h x
 | ask _ ih=>exact λh x=>ih _ h x
theorem mL {t:Sem α} (ht:gG t) {Q:α->Shared->Prop} (h:wpAny M A t Q E s) (x:gL e d s.heap) :
  wpAny M A t (λa s'=>Q a s'/\gL e d s'.heap) (λv s'=>E v s'/\gL e d s'.heap) s:=λΓ p hΓ=>IF ht (h Γ p hΓ) x
end
theorem Ib (a:Addr) (p:Option Value):gG (Sem.load a p Sem.pure):=.load λo=>.pure o
theorem CD (v:Value):gG (fieldsOf v):=by
 unfold fieldsOf;cases v <;> try exact .uns _
 refine gG.bind (Ib _ _) λo=>?_
 cases o.data <;> first | exact .pure _ | exact .uns _
theorem sT (v:Value) (i:Nat):gG (field v i):=by
 unfold field;refine gG.bind (CD v) λvs=>?_
 split
 ·exact .pure _
 ·exact .uns _
theorem xK (f:Array Value->Array Value) (o:Obj):(o.mapFields f).dict=o.dict:=by
 obtain ⟨c,d,dt,sl⟩:=o;cases dt <;> rfl
theorem pI (v:Value) (i:Nat) (x:Value):gG (setField v i x):=by
 unfold setField;cases v <;> try exact .uns _
 show gG (updateField _ i x)
 unfold updateField;refine gG.bind (Ib _ _) λo=>?_
 cases o.data <;> try exact .uns _
 dsimp only
 split
 ·exact .update (λo=>xK _ o) λu=>.pure u
 ·exact .uns _
theorem nZ (e:Value) (f:Option Addr):gG (setFlight e f):=by
 unfold setFlight;refine gG.bind (sT e 1) λtb=>?_
 split
 ·exact pI _ _ _
 ·exact .pure _
theorem Fy (env:Env) (l:List Env):gG (behindIsImport env l):=by
 unfold behindIsImport
 split
 ·exact .pure _
 ·split
  ·exact .pure _
  ·exact gG.bind (sT _ _) λ_=>.pure _
theorem JH (env:Env) (b:Bool):∀l:List Env,gG (keptBack env b l)
 | []=>by
  simp only[keptBack]
  split
  ·exact .pure _
  ·refine gG.bind ?_ λ_=>.pure _
   unfold underTheClaimsCaller;exact gG.bind (.stack λl=>.pure l) λ_=>.pure _
 | _ :: _=>.pure _
theorem CC:∀l:List Env,gG (readyFrames l)
 | []=>.pure _
 | env :: outer=>by
  unfold readyFrames
  split
  ·refine gG.bind (Ib _ _) λo=>?_
   split
   ·exact .pure _
   ·refine gG.bind (Fy _ _) λb=>gG.bind (JH _ _ _) λv=>gG.bind (.update (λ_=>rfl) λu=>.pure u) λ_=>CC outer
  ·exact .uns _
theorem DJ (env:Env):gG (PySem.frameOf env):=by
 unfold PySem.frameOf;refine gG.bind (gG.bind (.stack λl=>.pure l) λ_=>.pure _) λl=>gG.bind ?_ λo=>?_
 ·unfold frameObject
  split
  ·exact .pure _
  ·exact gG.bind (CC _) λ_=>.pure _
 ·cases o
  ·exact .uns _
  ·exact .pure _
theorem Ia (f:Addr) (b:Bool):gG (entryPlaceOf f b):=by
 unfold entryPlaceOf;refine gG.bind (.stack λl=>.pure l) λl=>?_
 split <;> exact .pure _
theorem Ic (a b c d e:Value) (l:List Value):gG (EntryCells.newEntry a b c d e l):=by
 unfold EntryCells.newEntry newFields;generalize ([a,b,c,d,e]++if l.isEmpty then List.replicate 6 Value.none else l).toArray=vs;have fin:gG (newObjAsIs (.type "traceback") (.fields vs)):=gG.bind (.alloc λa=>.pure a) λ_=>.pure _
 unfold newObj
 dsimp only
 split
 ·exact gG.bind (.uns _) λ_=>fin
 ·exact fin
theorem Eu (e:Value) (env:Env):gG (noteFrame e env):=by
 unfold noteFrame
 split
 ·refine gG.bind (sT e 1) λh=>?_
  have last:∀f:Addr,gG (do setField e 1 (<- EntryCells.newEntry h (<- PySem.frameOf env) .none (rawInt f) .none (<- entryPlaceOf f (h != .none)))):=λf =>
   gG.bind (DJ env) λ_=>gG.bind (Ia _ _) λ_=>gG.bind (Ic _ _ _ _ _ _) λ_=>pI _ _ _
  split
  ·refine gG.bind (sT _ _) λv=>?_
   split
   ·exact .pure _
   ·exact gG.bind (pI _ _ _) λ_=>last _
  ·exact last _
 ·exact .uns _
theorem DI (env:Env) (e:Value):gG (leaving env e):=gG.bind (Eu e env) λ_=>nZ e none
theorem fy.there (x:fy P w H h a o):∃u,h.get? a=some u:=by
 cases o with
 | lst xs=>obtain ⟨_,_,_,_,e⟩:=x;exact ⟨_,e⟩
 | tup xs=>obtain ⟨_,_,_,o,e,_⟩:=x;exact ⟨_,e⟩
 | dK kvs=>obtain ⟨_,_,_,_,o,_,_,e,_⟩:=x;exact ⟨_,e⟩
 | dT kvs=>obtain ⟨_,_,_,_,o,_,_,e,_⟩:=x;exact ⟨_,e⟩
 | set S n=>obtain ⟨o,_,_,_,e,_⟩:=x;exact ⟨_,e⟩
 | ins C dx fs=>obtain ⟨_,_,_,e,_⟩:=x;exact ⟨_,e⟩
 | own y=>exact x
 | xd fs=>obtain ⟨_,⟨_,_,_,e,_⟩,_⟩:=x;exact ⟨_,e⟩
 | rng lo hi=>obtain ⟨_,_,_,e⟩:=x;exact ⟨_,e⟩
 | frz ob u=>obtain ⟨e,_⟩:=x;exact ⟨_,e⟩
 | tbl ps=>exact ⟨_,(show h.get? a=some _ from x)⟩
 | met f y=>exact ⟨_,(show h.get? a=some _ from x)⟩
 | ext φ=>exact x.2.1
section
variable {P:Program} {w:World} {fs:List Addr} {H H1 H2:Hp} {h0 h1 h2 B:Heap}
theorem HR (U:Un fs [] H H1 h0 h1) (ok:uJ P w H1 h1) (hB1:B.StaysIn h1) (hB2:B.StaysIn h2) (up:h1.UpToSlots h2)
  (c1:∀b u,H1 b=some u->∃o,B.get? b=some o) (c2:∀b o,h0.get? b=some o->b∉fs->∃o',B.get? b=some o')
  (hf:∀b∈fs,H b=none) (hd:∀b∈fs,∀o,h0.get? b=some o->∀vs,o.data≠.fields vs):Un fs [] H H1 h0 h2/\uJ P w H1 h2:=by
 have same:∀b o,h1.get? b=some o->(∃o',B.get? b=some o')->h2.get? b=some o:=λb o e ⟨o',eb⟩=>by
  have z:=hB1 _ _ eb;rw[e] at z;cases z;exact hB2 _ _ eb
 have slot:∀b o,h0.get? b=some o->b∈fs->∃sl,h2.get? b=some { o with slots:=sl }:=λb o e hb=>by
  obtain ⟨sl,e1⟩:=U.slot b o e (hf b hb) hb (by simp);obtain ⟨sl2,e2⟩:=up b _ e1 (hd b hb o e);exact ⟨sl2,e2⟩
 refine ⟨⟨λb o e n hb hx=>same b o (U.keep b o e n hb hx) (c2 b o e hb),λb o e n hb _=>slot b o e hb,U.free,λb o e hx=>?_,U.tups,U.frzs,U.tbls⟩,λa o e=>?_⟩
 ·by_cases hb:b∈fs
  ·obtain ⟨sl,q⟩:=slot b o e hb;exact ⟨_,q⟩
  ·obtain ⟨o',q⟩:=c2 b o e hb;exact ⟨o',hB2 _ _ q⟩
 ·refine (ok a o e).stay (λb u hb q=>same b u q ?_) (λ_ q=>q) λ_ _ q=>q
  rcases hb with z | z
  ·rw[z];exact c1 a o e
  ·exact c1 b _ z
end
structure Nu (P:Program) (w:World) (outer:List Env) (H:Hp) (s:Shared) (H':Hp) (ea t:Addr) (cls:Value) (B:Heap) (s':Shared):Prop where
 os:s'.os=s.os
 bare:AllBare s'.gens
 un:Un (wm outer) [] H H' s.heap s'.heap
 hok:uJ P w H' s'.heap
 fly:Heap.FlyingW B outer ea cls (.ref t) s'.heap
 c1:∀b u,H' b=some u->∃o,B.get? b=some o
 c2:∀b o,s.heap.get? b=some o->b∉wm outer->∃o',B.get? b=some o'
structure Fly (P:Program) (w:World) (outer:List Env) (H:Hp) (s:Shared) (H':Hp) (ea t:Addr) (cls:Value) (dx:Option Addr) (B:Heap) (s':Shared):Prop extends Nu P w outer H s H' ea t cls B s' where
 dct:gL ea dx s'.heap
def L7 (P:Program) (w:World):FI:=λouter H s E e s'=>∃ea t cls dx H' B,e=.ref ea/\Fly P w outer H s H' ea t cls dx B s'/\E cls dx H'
section
variable {P:Program} {w:World} {K:FG9} {mg:Str->Option Value} {base:Heap} {N:List Str} {qual:Str} {scope:Scope} {f:Addr} {cd:Value} {A:Around} {outer:List Env} {s:Shared} {H:Hp} {E:XK}
theorem HM (hf:env.frame=some L):wm (env :: outer)=L :: wm outer:=by unfold wm;rw[pS,hf]
theorem FQ {σ:St} (I:Inv (yK (L7 P w) P w K mg base N qual scope f cd A outer s H E) pins σ H1 s1)
  (hx:Heap.MadeExcOf s1.heap h' e cls vs) (hE:E cls none H1):(yK (L7 P w) P w K mg base N qual scope f cd A outer s H E).xe (.ref e) { s1 with heap:=h' }:=by
 have hfr:(A.deeper (envOfC qual scope s.heap.objs.size f cd)).frames=some (envOfC qual scope s.heap.objs.size f cd :: outer):=I.ok.frames;have hstk:s1.heap.FunFrames base (envOfC qual scope s.heap.objs.size f cd :: outer):=I.stack;have nL:∀b o,s.heap.get? b=some o->b≠s.heap.objs.size:=λb o q=>b9 (Heap.lt_size q)
 have hD:gL e none h':=by
  obtain ⟨t,q,_⟩:=hx.there;exact gL.of q
 refine wpAny_mono (mL (e:=e) (d:=none) (DI _ _) (wpAny_leaves_madeW (E:=λ_ _=>False) (Q:=λ_ s2=>∃t,Nu P w outer H s H1 e t cls (PySem.W.hideAll s1.heap (wm (envOfC qual scope s.heap.objs.size f cd :: outer))) s2)
  (base:=PySem.W.hideAll s1.heap (wm (envOfC qual scope s.heap.objs.size f cd :: outer))) (h:=s1.heap) (L:=s.heap.objs.size) hfr rfl (λb o q=>CU _ q)
  (PySem.W.funFrames_hide hstk λenv he b hb=>CV.mpr ⟨env,he,hb⟩) hx λh2 t x1 x2 x3 x4=>?_) hD) (λ_ s2 ⟨⟨t,F⟩,dc⟩=>⟨e,t,cls,none,H1,_,rfl,⟨F,dc⟩,hE⟩) (λ_ _ z=>z.1.elim)
 have c1:∀b u,H1 b=some u->∃o,(PySem.W.hideAll s1.heap (wm (envOfC qual scope s.heap.objs.size f cd :: outer))).get? b=some o:=λb u q=>by
  obtain ⟨o,e⟩:=(I.hok b u q).there
  exact ⟨o,Bn _ e λz=>by
   have:=I.stkFree b z;rw[q] at this;cases this⟩
 have c2:∀b o,s.heap.get? b=some o->b∉wm outer->∃o',(PySem.W.hideAll s1.heap (wm (envOfC qual scope s.heap.objs.size f cd :: outer))).get? b=some o':=λb o q hb=>by
  obtain ⟨o',e⟩:=I.base.there b o q (aO);refine ⟨o',Bn _ e λz=>?_⟩;rw[HM (L:=s.heap.objs.size) rfl] at z;rcases aD.mp z with z | z
  ·exact nL b o q z
  ·exact hb z
 have hU:Un (wm outer) [] H H1 s.heap s1.heap:=I.base
 obtain ⟨U2,ok2⟩:=HR hU I.hok (λb o q=>CU _ q) x1.1 ((Heap.UpToSlots.of_keeps hx.keeps).trans x4) c1 c2 I.ok.frf (λb hb o q=>by
  obtain ⟨_,o',e',d⟩:=I.ok.funs.mem hb;have e':s.heap.get? b=some o':=e';rw[q] at e';cases e';exact d)
 exact ⟨t,I.os,I.bare,U2,ok2,x1,c1,c2⟩
end
def Throws (X:Cx) (E:XK):Prop:=∀(pins:List (Addr×Obj)) (σ:St) (H:Hp) (s:Shared) (h':Heap) (e:Addr) (cls:Value) (vs:List Value),Inv X pins σ H s->Heap.MadeExcOf s.heap h' e cls vs->E cls none H->X.xe (.ref e) { s with heap:=h' }
theorem C5 {K:FG9} :
  Throws (yK (L7 P w) P w K mg base N qual scope f cd A outer s H E) E:=λ_ _ _ _ _ _ _ _ I hx hE=>FQ I hx hE
def KN (C:Addr) (E:XK):TS:=λ_ _ H=>E (.ref C) none H
abbrev FR:List Value:=[.type "ValueError",.type "Exception",.type "BaseException",.type "object"]
theorem JE {K:FG9} (X':K.In h) (hk:PySem.W.excIn K C FR "ValueError.__new__"=true) :
  ∃bm N nm q bs hdct sn sub ab col dd k0 k1 k2 k3 k5 mN,h.get? C=some (excClassObj nm q C N bs bm hdct sn sub ab col dd k0 k1 k2 k3 k5 "ValueError.__new__")/\h.Ns N mN/\mN "__init__"=none/\OwnTail h FR bm:=by
 unfold PySem.W.excIn at hk
 split at hk
 ·rename_i dd cd sl ho
  split at hk
  ·rename_i C' bm k0 k1 k2 k3 n k5 hm hs
   simp only[dS,beq_iff_eq,Bool.not_eq_true'] at hk;obtain ⟨⟨⟨⟨⟨rfl,rfl⟩,hdel⟩,ht⟩,hok⟩,hni⟩:=hk;obtain ⟨nm,bs,mro,ns,qn,hd',sn,sub,ab,col,del⟩:=cd
   dsimp only at hm hdel hok hni
   subst hm hdel
   have hsl:sl=#[k0,k1,k2,k3,some (.builtin "ValueError.__new__"),k5]:=by
    obtain ⟨l⟩:=sl;simp only at hs;rw[hs]
   subst hsl;exact ⟨bm,ns,nm,qn,bs,hd',sn,sub,ab,col,dd,k0,k1,k2,k3,k5,_,X' _ _ ho,.of_isNs (PySem.W.isNs_of_in X' hok),PySem.W.nsMap_none_of_in X' hok hni,PySem.W.tail_of_in X' ht⟩
  ·cases hk
 ·cases hk
theorem E8 {X:Cx} {E:XK} {x:Str} {C:Addr} {np cpos pos:Pos} (hx:Throws X E) (hc:X.calm=true) (hg:Gl X x) (hm:X.mg x=some (.ref C)) (hk:PySem.W.excIn X.K C FR "ValueError.__new__"=true)
  (hd:(x == ("__debug__":Str))=false:=by decide):PS X (.Raise (some (.Call (.Name x np) [] [] cpos)) none pos) (KN C E):=by
 intro pins s σ H D I h;have O:=JE I.kIn hk;obtain ⟨tl,N,nm,q,bs,hdct,sn,sub,ab,col,dd,k0,k1,k2,k3,k5,mN,hC,hN,hni,T⟩:=O
 refine wpAny_Raise_call_subT (C:=C) (nm:=nm) (q:=q) (N:=N) (bs:=bs) (bm:=tl) (hdct:=hdct) (sn:=sn) (sub:=sub) (ab:=ab) (col:=col) (dd:=dd) (k0:=k0) (k1:=k1) (k2:=k2) (k3:=k3) (k5:=k5)
  KA (mN:=mN) (T.hasType KA.hasBase) (I.ok.hd hc) rfl hni (p5 I hg hm ⟨rfl,?_⟩ hd)
 exact evalArgs_empty ⟨rfl,bH _,hC,hN,T,λh' e hm=>hx pins σ H s h' e _ _ I hm h⟩
abbrev Cx.tr (X:Cx) (pn:List (Addr×Obj)) (xe:Value->Shared->Prop):Cx:={ X with pn:=pn,xe:=xe }
abbrev Cx.sm (X:Cx) (ea:Addr):Cx:={ X with A:=X.A.mark (some (.ref ea)),calm:=false,xe:=λ_ _=>False }
section
variable {X:Cx} {pins:List (Addr×Obj)} {σ:St} {H H':Hp} {s:Shared}
theorem Inv.tr (I:Inv X pins σ H s) (xe:Value->Shared->Prop):Inv (X.tr (X.pn++pins) xe) [] σ H s :=
 ⟨⟨I.ok.mod,I.ok.kind,I.ok.glob,I.ok.blt,I.ok.above,I.ok.inj,I.ok.has,I.ok.cab,I.ok.hd,I.ok.frames,I.ok.stk,I.ok.exf,I.ok.bs,I.ok.bsz,I.ok.noex,I.ok.exfs,I.ok.funs,I.ok.frf⟩,
  I.os,I.bare,I.base,I.loc,I.cell,I.free,I.freeC,λp hp=>I.pin p (by simpa using hp),I.hok,I.len⟩
theorem Inv.untr (I:Inv (X.tr (X.pn++pins) xe) ps σ H s):Inv X pins σ H s :=
 ⟨⟨I.ok.mod,I.ok.kind,I.ok.glob,I.ok.blt,I.ok.above,I.ok.inj,I.ok.has,I.ok.cab,I.ok.hd,I.ok.frames,I.ok.stk,I.ok.exf,I.ok.bs,I.ok.bsz,I.ok.noex,I.ok.exfs,I.ok.funs,I.ok.frf⟩,
  I.os,I.bare,I.base,I.loc,I.cell,I.free,I.freeC,λp hp=>I.pin p (fG _ hp),I.hok,I.len⟩
theorem Inv.sm (I:Inv X pins σ H s) (ea:Addr):Inv (X.sm ea) pins σ H s :=
 ⟨⟨I.ok.mod,I.ok.kind,I.ok.glob,I.ok.blt,I.ok.above,I.ok.inj,I.ok.has,I.ok.cab,λz=>Bool.noConfusion z,I.ok.frames,I.ok.stk,I.ok.exf,I.ok.bs,I.ok.bsz,I.ok.noex,I.ok.exfs,I.ok.funs,I.ok.frf⟩,
  I.os,I.bare,I.base,I.loc,I.cell,I.free,I.freeC,I.pin,I.hok,I.len⟩
theorem Inv.forget (ok:X.Ok) (I:Inv (X.sm ea) pins σ H s) (hn:h'.Ns X.env.locals m') (hs:Heap.SameBut X.env.locals s.heap h') :
  Inv X pins (List.replicate X.N.length none) H { s with heap:=h',toks:=t' }:=by
 have neL:∀b o,X.s₀.heap.get? b=some o->b≠X.env.locals:=λb o e=>b9 (ba (Heap.lt_size e) ok.above)
 refine ⟨ok,I.os,I.bare,⟨λb o e n hb hx=>(hs.2 b (neL b o e)).trans (I.base.keep b o e n hb hx),λb o e n hb hx=>?_,I.base.free,λb o e hx=>?_,I.base.tups,I.base.frzs,I.base.tbls⟩,⟨m',hn,λi x v e1 e2 e3=>?_⟩,λx c e=>?_,I.free,I.freeC,λp hp=>?_,λb u e=>?_,dM⟩
 ·obtain ⟨sl,e1⟩:=I.base.slot b o e n hb hx;exact ⟨sl,(hs.2 b (neL b o e)).trans e1⟩
 ·obtain ⟨o',e1⟩:=I.base.there b o e hx;exact ⟨o',(hs.2 b (neL b o e)).trans e1⟩
 ·rw[vP] at e2
  split at e2 <;> cases e2
 ·obtain ⟨v,z⟩:=I.cell x c e;exact ⟨v,z.sameBut hs (I.cne x c e)⟩
 ·obtain ⟨e,n,ne,nf,d⟩:=I.pin p hp;exact ⟨(hs.2 p.1 ne).trans e,n,ne,nf,d⟩
 ·have fr:H X.env.locals=none:=I.free;refine (I.hok b u e).stay (λc v hc q=>(hs.2 c ?_).trans q) (λ_ q=>q) λ_ _ q=>q
  rintro rfl;rcases hc with z | z
  ·rw[<- z,fr] at e;cases e
  ·rw[fr] at z;cases z
theorem Inv.trackO (I:Inv X pins σ H s) (hn:H a=none) (new:fy X.prog X.w (upd H a o) s.heap a o) (n0:X.s₀.heap.get? a=none) (nL:a≠X.env.locals) (nC:∀x c,X.env.cells.lookup x=some c->c≠a)
  (nP:∀p∈X.pn++pins,p.1≠a):Inv X pins σ (upd H a o) s:=by
 have ne:∀b u,H b=some u->b≠a:=λb u q=>dW q hn
 refine ⟨I.ok,I.os,I.bare,⟨I.base.keep,I.base.slot,λb ob e n hx=>?_,I.base.there,λb xs q=>?_,λb ob u q=>?_,λb ps q=>?_⟩,I.loc,I.cell,?_,λx c e=>?_,λp hp=>?_,λb u e=>?_,I.len⟩
 ·rw[a9 (λz=>by rw[z,n0] at e;cases e)];exact I.base.free b ob e n hx
 ·have q':=I.base.tups b xs q;rw[a9 (ne _ _ q')];exact q'
 ·have q':=I.base.frzs b ob u q;rw[a9 (ne _ _ q')];exact q'
 ·obtain ⟨m,q'⟩:=I.base.tbls b ps q;exact ⟨m,by rw[a9 (ne _ _ q')];exact q'⟩
 ·rw[a9 (Ne.symm nL)];exact I.free
 ·rw[a9 (nC x c e)];exact I.freeC x c e
 ·obtain ⟨e,n,r⟩:=I.pin p hp;exact ⟨e,by rw[a9 (nP p hp)];exact n,r⟩
 ·by_cases hb:b=a
  ·subst hb;rw[aG] at e;cases e;exact new
  ·rw[a9 hb] at e;exact (I.hok b u e).stay (λc v _ q=>q) (λc q=>by rw[a9 (ne _ _ q)];exact q) λc xs q=>by rw[a9 (ne _ _ q)];exact q
end
def HW (a:Addr) (cls:Value) (dx:Option Addr):HO:=.ext λh=>∃o vs,h.get? a=some o/\o.cls=cls/\o.data=.fields vs/\o.dict=dx
def EF (CX:FI) (X:Cx) (E:St->XK):Prop:=∀(pins:List (Addr×Obj)) (σ:St) (H:Hp) (s:Shared) (e:Value) (s':Shared),Inv X pins σ H s->CX X.stack H s (E σ) e s'->X.xe e s'
def FY (sp:Sp) (dvs:List V) (E:St->XK) (t:TA):TE:=λσ H Q=>t σ H λvs H1=>sp (vs++dvs) H1 Q (E σ)
section
variable {X:Cx} {CX:FI} {k:Nat} {f C:Addr} {fd:FuncData} {ps:List Str} {sp:Sp} {dvs:List V} {ds:List Value} {E:St->XK} {x n:Str} {p pos hpos np:Pos} {e:Expr} {es:List Expr} {t:TA}
theorem GH (F:cw X.prog X.w X.K X.mg X.base CX k f fd ps sp) (hr:jm k X.A) (hg:Gl X x) (hm:X.mg x=some (.ref f)) (hk:PySem.W.keepIn X.K (.ref f)=true) (hb:Binds X.K fd ps ds) (hd:cp dvs ds) (hx:EF CX X E)
  (ha:PA X (e :: es) t) (hdb:(x == ("__debug__":Str))=false:=by decide) (he:starEach (e :: es) X.env=(false,eval e X.env) :: starEach es X.env:=by rfl) (hpl:(backTo pos (starEach es X.env)).any (·.1)=false:=by rfl) :
  PE X (.Call (.Name x p) (e :: es) [] pos) (FY sp dvs E t):=by
 intro pins s σ H Q I h;refine wpAny_Call_Name_kw (p5 I hg hm ?_ hdb);refine qW (h₀:=X.base) I.ok.mod.kin hk (eY (ha pos pins s σ H _ I h) λus s1 ⟨vs,H1,I1,r,q⟩=>⟨I1.kIn,?_⟩) he hpl;have r2:cp (vs++dvs) (us++ds):=r.append hd;have hl:(us++ds).length=ps.length:=by rw[<- r2.length];exact F.len _ _ _ _ q
 refine wpAny_call (codeAny_mono (F.run X.A X.stack s1 H1 ⟨us,[]⟩ (us++ds) (vs++dvs) Q (E σ) hr I1.env0 (hb s1 us I1.kIn hl) r2 q) λr s' hq=>?_);cases r with
 | error e=>exact hx pins σ H1 s1 e s' I1 hq
 | ok fl =>
  cases fl with
  | ret u=>exact I1.after hq
  | next=>exact False.elim hq
  | brk=>exact False.elim hq
  | cont=>exact False.elim hq
structure yP (X:Cx) (pins:List (Addr×Obj)) (σ:St) (H0:Hp) (s0:Shared) (H':Hp) (ea t:Addr) (cls:Value) (dx:Option Addr) (B:Heap) (s1:Shared):Prop where
 I:Inv X pins σ H0 s0
 F:Fly X.prog X.w X.stack H0 s0 H' ea t cls dx B s1
section
variable {pins:List (Addr×Obj)} {σ:St} {H0 H':Hp} {s0 s1:Shared} {ea tt:Addr} {cls:Value} {dx:Option Addr} {B h:Heap}
theorem yP.inv (L:yP X pins σ H0 s0 H' ea tt cls dx B s1) (fl:Heap.FlyingW B X.stack ea cls (.ref tt) h) (up:s1.heap.UpToSlots h):Inv X pins σ H' { s1 with heap:=h }:=by
 obtain ⟨U,ok⟩:=HR L.F.un L.F.hok L.F.fly.1 fl.1 up L.F.c1 L.F.c2 L.I.stkFree (λb hb o q=>by
  obtain ⟨_,o',e',d⟩:=L.I.stack.mem hb;rw[q] at e';cases e';exact d)
 have os:s1.os=s0.os:=L.F.os;have bare:AllBare s1.gens:=L.F.bare;obtain ⟨hh,g,d,t,os'⟩:=s1
 dsimp only at os bare
 subst os;exact Inv.call (s:=s0) (h':=h) (g':=g) (d':=d) (t':=t) (ch:=[]) L.I U ok bare (λb z=>absurd z (by simp))
theorem yP.new (L:yP X pins σ H0 s0 H' ea tt cls dx B s1):s0.heap.get? ea=none:=by
 obtain ⟨_,n,fr,oe,vs,T,oT,ts,he,hc,hd,_⟩:=L.F.fly;cases q:s0.heap.get? ea with
 | none=>rfl
 | some o =>
  by_cases hb:ea∈wm X.stack
  ·obtain ⟨_,o',e',d⟩:=fr.mem hb;rw[he] at e';cases e';exact absurd hd (d vs)
  ·obtain ⟨o',e'⟩:=L.F.c2 ea o q hb;rw[n] at e';cases e'
theorem yP.none_ (L:yP X pins σ H0 s0 H' ea tt cls dx B s1):H' ea=none:=by
 cases q:H' ea with
 | none=>rfl
 | some u =>
  obtain ⟨o,e⟩:=L.F.c1 ea u q;rw[L.F.fly.2.1] at e;cases e
theorem yP.track (L:yP X pins σ H0 s0 H' ea tt cls dx B s1) (hex:X.ex=[]) (fl:Heap.FlyingW B X.stack ea cls (.ref tt) h) (up:s1.heap.UpToSlots h) (dc:gL ea dx h):Inv X pins σ (upd H' ea (HW ea cls dx)) { s1 with heap:=h }:=by
 have nw:=L.new;have some_ne:∀b o,s0.heap.get? b=some o->b≠ea:=λb o q z=>by rw[z,nw] at q;cases q
 refine (L.inv fl up).trackO L.none_ ?_ ?_ ?_ (λx c e=>?_) (λp hp=>?_)
 ·obtain ⟨_,_,_,oe,vs,T,oT,ts,he,hc,hd,_⟩:=fl;exact ⟨⟨oe,vs,he,hc.1,hd,dc.get he⟩,⟨oe,he⟩,λh1 h2 ⟨o,vs,a,b⟩ k=>⟨o,vs,k o a,b⟩⟩
 ·cases q:X.s₀.heap.get? ea with
  | none=>rfl
  | some o =>
   obtain ⟨o',e'⟩:=L.I.base.there ea o q (by rw[hex];exact aO);rw[nw] at e';cases e'
 ·obtain ⟨m,⟨o,_,_,ho,_⟩,_⟩:=L.I.loc;exact Ne.symm (some_ne _ o ho)
 ·obtain ⟨v,o,ho,_⟩:=L.I.cell x c e;exact some_ne _ o ho
 ·exact some_ne _ _ (L.I.pin p hp).1
end
def HB (X:Cx) (hs:List ExceptHandler) (hr:Ends->St->Value->Option Addr->Hp->Prop):Prop :=
 ∀(pins:List (Addr×Obj)) (σ:St) (H0:Hp) (s0:Shared) (H':Hp) (ea tt:Addr) (cls:Value) (dx:Option Addr) (B:Heap) (s1:Shared) (h:Heap) (D:Ends),yP X pins σ H0 s0 H' ea tt cls dx B s1->Heap.FlyingW B X.stack ea cls (.ref tt) h->s1.heap.UpToSlots h->gL ea dx h →
  hr D σ cls dx H'->wpAny (model X.prog X.w) X.A (handleBy (.ref ea) X.env hs) (SP X pins D) X.xe { s1 with heap:=h }
def KR (D:Ends):Ends:={ nx:=λ_ _=>False,rt:=D.rt }
def Nc:Ends->St->Value->Option Addr->Hp->Prop:=λ_ _ _ _ _=>False
theorem LN:HB X [] Nc:=λ_ _ _ _ _ _ _ _ _ _ _ _ _ _ _ _ _ z=>False.elim z
def hAs (K:FG9) (C:Addr) (i:Nat) (ts:Addr->TS) (hr:Ends->St->Value->Option Addr->Hp->Prop):Ends->St->Value->Option Addr->Hp->Prop:=λD σ cls dx H =>
 (PySem.W.exmOne K cls (.ref C)=some true/\∀ea,H ea=none->ts ea (KR D) (σ.set i (some (.ref ea))) (upd H ea (HW ea cls dx)))\/(PySem.W.exmOne K cls (.ref C)=some false/\hr D σ cls dx H)
theorem Nb {i:Nat} {b₀:Stmt} {suite:List Stmt} {rest:List ExceptHandler} {ts:Addr->TS} {hr:Ends->St->Value->Option Addr->Hp->Prop} (hex:X.ex=[]) (hg:Gl X x) (hm:X.mg x=some (.ref C)) (nd:X.N.Nodup) (hi:X.N[i]?=some n)
  (hl:X.env.scope.names.lookup n=some .local) (hs:∀ea,Bj (X.sm ea) (b₀ :: suite) (ts ea)) (hrest:HB X rest hr) (hdb:(x == ("__debug__":Str))=false:=by decide) :
  HB X (.ExceptHandler (some (.Name x np)) (some n) (b₀ :: suite) hpos :: rest) (hAs X.K C i ts hr):=by
 intro pins σ H0 s0 H' ea tt cls dx B s1 h D L fl up dc hq;have J:=L.inv fl up;refine wpAny_handleBy_cons (codeAny_handlers_test (p5 (X:=X.sm ea) (J.sm ea) hg hm ?_ hdb)) (by intro q;cases q)
 have LT:PySem.W.Looks (model X.prog X.w) h (typeOf (.ref ea)) cls:=by
  obtain ⟨o,e,c⟩:=fl.there;exact c ▸ (PySem.W.Looks.ld e).andThen .now
 rcases hq with ⟨hb,hts⟩ | ⟨hb,hq⟩
 ·refine (PySem.W.exm_one (show X.K.In h from J.kIn) LT hb) _ _ _ _ (λ_ _ q=>q) ?_;refine codeAny_handlers_suite_as ?_;refine wpAny_mono (mL (e:=ea) (d:=dx) (nZ _ _) (lands_againW (E:=λ_ _=>False) (Q:=λ_ s2=>∃h6,s2={ s1 with heap:=h6 }/\Heap.FlyingW B X.stack ea cls (.ref tt) h6/\h.UpToSlots h6) fl λh6 fl6 up6=>⟨h6,rfl,fl6,up6⟩) dc) ?_ (λ_ _ z=>z.1.elim);rintro _ _ ⟨⟨h6,rfl,fl6,up6⟩,dc6⟩;have J6:=(L.track hex fl6 (up.trans up6) dc6).sm ea;refine oK (X:=X.sm ea) J6 nd hi (.inl hl) (show RelV (.ref ea) (.ref ea) from rfl) (λs' I'=>?_) (.inr hl);refine wpAny_mono (hs ea pins s' _ _ _ I' (hts ea L.none_)) (λf s2 hsp=>?_) λ_ _ z=>False.elim z
  cases f with
  | next=>obtain ⟨_,_,_,z⟩:=hsp;exact False.elim z
  | brk=>obtain ⟨_,_,_,z⟩:=hsp;exact False.elim z
  | cont=>obtain ⟨_,_,_,z⟩:=hsp;exact False.elim z
  | ret u =>
   obtain ⟨v,σ',H2,J2,rv,q⟩:=hsp;obtain ⟨m,hn,_⟩:=id J2.loc;refine wpAny_nameGoes hl hn (by rw[L.I.ok.kind];rfl) λh' m' hn' hs'=>?_
   exact ⟨v,_,H2,J2.forget L.I.ok hn' hs',rv,q⟩
 ·refine (PySem.W.exm_one (show X.K.In h from J.kIn) LT hb) _ _ _ _ (λ_ _ q=>q) ?_;exact hrest pins σ H0 s0 H' ea tt cls dx B s1 h D L fl up dc hq
def Mn (hr:Ends->St->Value->Option Addr->Hp->Prop) (tb:(St->XK)->TS):TS:=λD σ H=>tb (hr D) D σ H
theorem Ll (hst:X.stack=X.env :: X.outer) (hfr:X.env.frame=some X.env.locals)
  (hb:∀pn xe E,EF (L7 X.prog X.w) (X.tr pn xe) E->Bj (X.tr pn xe) body (tb E)) (hh:HB X (h₀ :: hs) hr):PS X (.Try body (h₀ :: hs) [] [] pos) (Mn hr tb):=by
 intro pins s σ H D I h;refine wpAny_Try_except ?_;refine wpAny_mono (hb (X.pn++pins) (λe s1=>∃σ' H0 s0 H' ea t cls dx B,e=.ref ea/\yP X pins σ' H0 s0 H' ea t cls dx B s1/\hr D σ' cls dx H') (hr D) ?_ [] s σ H D (I.tr _) h) (λf s1 hsp=>?_) (λe s1 hx=>?_)
 ·rintro ps σ' H1 s1 e s' J ⟨ea,t,cls,dx,H',B,rfl,F,hE⟩;exact ⟨σ',H1,s1,H',ea,t,cls,dx,B,rfl,⟨J.untr,F⟩,hE⟩
 ·cases f with
  | next=>obtain ⟨σ',H',J,q⟩:=hsp;exact wpAny_execs_nil ⟨σ',H',J.untr,q⟩
  | brk=>obtain ⟨σ',H',J,q⟩:=hsp;exact ⟨σ',H',J.untr,q⟩
  | cont=>obtain ⟨σ',H',J,q⟩:=hsp;exact ⟨σ',H',J.untr,q⟩
  | ret u=>obtain ⟨v,σ',H',J,r,q⟩:=hsp;exact ⟨v,σ',H',J.untr,r,q⟩
 ·obtain ⟨σ',H0,s0,H',ea,t,cls,dx,B,rfl,L,hq⟩:=hx;have hfrm:X.A.frames=some (X.env :: X.outer):=by rw[<- hst];exact L.I.ok.frames
  have fl:Heap.FlyingW B (X.env :: X.outer) ea cls (.ref t) s1.heap:=by rw[<- hst];exact L.F.fly
  refine wpAny_mono (mL (e:=ea) (d:=dx) (Eu _ _) (wpAny_looks_onW (E:=λ_ _=>False) (Q:=λ_ s2=>∃h4,s2={ s1 with heap:=h4 }/\Heap.HeldW B (X.env :: X.outer) ea cls (.ref t) X.env.locals h4/\s1.heap.UpToSlots h4) hfrm hfr fl λh4 held up4=>⟨h4,rfl,held,up4⟩) L.F.dct) ?_ (λ_ _ z=>z.1.elim);rintro _ _ ⟨⟨h4,rfl,held,up4⟩,dc4⟩;refine wpAny_mono (mL (e:=ea) (d:=dx) (nZ _ _) (wpAny_landsW (E:=λ_ _=>False) (Q:=λ_ s2=>∃h5,s2={ s1 with heap:=h5 }/\Heap.FlyingW B (X.env :: X.outer) ea cls (.ref t) h5/\h4.UpToSlots h5) held λh5 fl5 up5=>⟨h5,rfl,fl5,up5⟩) dc4) ?_ (λ_ _ z=>z.1.elim);rintro _ _ ⟨⟨h5,rfl,fl5,up5⟩,dc5⟩;exact hh pins σ' H0 s0 H' ea t cls dx B s1 h5 D L (by rw[hst];exact fl5) (up4.trans up5) dc5 hq
end
section
variable {K:FG9} {x t:Value} {Hh:Heap->Prop}
theorem Jx (ty:∀(M:Model) (h:Heap),Hh h->PySem.W.Looks M h (typeOf x) t) (e:PySem.W.kitOne K t c=some true):Answers (λs=>K.In s.heap/\Hh s.heap) x c true:=by
 rintro dep tk prog w A R ⟨h0,gs,dr,tt,os⟩ ⟨⟨kin,p⟩,hq⟩;have lt:=ty (model prog w) h0 p;unfold PySem.W.kitOne at e;unfold Builtin.«isinstance.nested»;refine wpAny_bind (vM lt ?_);rcases Mi (t == c) with q | q
 ·rw[q];exact wpAny_bind (wpAny_rule (wpAny_pure (hq tt)))
 ·rw[q] at e ⊢;obtain ⟨a1,a2,a3⟩:=PySem.W.kit_cls (M:=model prog w) kin e;rw[if_neg br];refine wpAny_bind (vM a1 ?_);rw[if_pos (beq_self_eq_true _)]
  k_delta "plainIsInstance"
  refine wpAny_bind (wpAny_bind (vM a2 ?_));rw[if_neg (by simp)];refine wpAny_bind (vM (lt.andThen a3) ?_)
  first | exact wpAny_pure (wpAny_pure (hq tt)) | (rw[if_pos rfl];first | exact wpAny_pure (wpAny_pure (hq tt)) | exact wpAny_pure (hq tt) | exact wpAny_bind (wpAny_pure (wpAny_pure (hq tt))))
end
open PySem.W
section
variable {prog:Program} {w:World} {A:Around} {E:Value->Shared->Prop} {h:Heap} {g:Array GenState} {d:Drawn} {t:Nat} {os:OsState} {a C:Addr} {o:Obj} {od:Option Obj} {K:Frag}
theorem LV (X:K.In h) (I:InstAt h a o C od) (hm:mroIn K C (.type "BaseException")=some true) (hq:Q () ⟨h,g,d,t,os⟩) :
  wpAny M A (checkBuiltinCall "BaseException.__getattribute__" ⟨[.ref a,nv],[]⟩) Q E ⟨h,g,d,t,os⟩:=by
 have b1:builtinKind "BaseException.__getattribute__"=some .slot:=by decide +kernel
 have b2:splitId "BaseException.__getattribute__"=some ("BaseException","__getattribute__"):=by decide +kernel
 have b3:=F.args_bexc_ga (.ref a) nv;have LI:Looks M h (isInstance (.ref a) (.type "BaseException")) true:=I.type.andThen (looks_mroIn X hm);simp only[checkBuiltinCall,b1,b2];refine wpAny_bind (Looks.at LI ?_)
 (repeat (first | assumption | wp_step))
theorem JB (X:K.In h) (I:InstAt h a o C od) (hm:mroIn K C (.type "BaseException")=some true) (hm2:mroIn K C (.type "object")=some true) (hc:(clsIn K C).isSome=true)
  (ha:findIn K (.ref C) "__class__"=some (some (.builtin "object.__class__"))) (hn:specialIn K (.builtin "object.__class__") "__get__"=some (some (.builtin "getset_descriptor.__get__"))) (htk:takesIn K (.builtin "object.__class__")=some true)
  (hq:R (.ok (.ret (.ref C))) ⟨h,g,d,t,os⟩):codeAny (model prog w) A (.call (.builtin "BaseException.__getattribute__") ⟨[.ref a,.str "__class__" tk],[]⟩) R ⟨h,g,d,t,os⟩:=by
 have hf:findObj K C od "__class__"=some (.bind (.builtin "getset_descriptor.__get__") (.builtin "object.__class__")):=by
  obtain ⟨cd,hc⟩:=tU.mp hc;unfold findObj;rw[hc,Option.bind_some,ha,Option.bind_some];simp [hn,htk]
 have L0:=I.type (M:=model prog w);have L1:=looks_find (M:=model prog w) X I hf;refine codeAny_call_builtin (by decide +kernel) F.entry_bexc_ga (LV X I hm ?_);unfold Builtin.«object.__getattribute__»;refine wpAny_bind (wpAny_pure ?_)
 dsimp only
 refine wpAny_bind (m:=Builtin.ObjectAttr.attrName (.str "__class__" tk)) (wpAny_pure ?_);refine wpAny_bind (Looks.at L0 ?_);refine wpAny_bind (Looks.at L1 ?_)
 dsimp only
 unfold Builtin.ObjectAttr.bindTo;refine wpAny_bind (wpAny_holding (wpAny_call (class_get (s:=⟨h,g,d,t,os⟩) (ox:=o) (od:=od) X I hm2 ?_)));exact wpAny_pure hq
theorem Fu (X:K.In h) (I:InstAt h a o C od) (hga:findIn K (.ref C) "__getattribute__"=some (some (.builtin "BaseException.__getattribute__"))) (hgt:findIn K (.ref C) "__getattr__"=some none)
  (hm:mroIn K C (.type "BaseException")=some true) (hm2:mroIn K C (.type "object")=some true) (hc:(clsIn K C).isSome=true)
  (ha:findIn K (.ref C) "__class__"=some (some (.builtin "object.__class__"))) (hn:specialIn K (.builtin "object.__class__") "__get__"=some (some (.builtin "getset_descriptor.__get__"))) (htk:takesIn K (.builtin "object.__class__")=some true)
  (hq:Q (some (.ref C)) ⟨h,g,d,t+1,os⟩):wpAny (model prog w) A (getAttr? (.ref a) "__class__") Q E ⟨h,g,d,t,os⟩:=by
 have L0:=I.type (M:=model prog w);have L1:=looks_findIn (M:=model prog w) X hga;have L2:=looks_findIn (M:=model prog w) X hgt;unfold getAttr? getAttrBy? getAttrBy;refine wpAny_bind (wpAny_mkText (wpAny_bind (wpAny_attempt (wpAny_holding (wpAny_bind (Looks.at L0 (wpAny_bind (Looks.at L1 ?_))))))))
 have ne:(onTheHeap (Value.ref C) && Value.builtin "BaseException.__getattribute__" == Value.builtin "object.__getattribute__")=false:=by
  rw[show (Value.builtin "BaseException.__getattribute__" == Value.builtin "object.__getattribute__")=false by decide +kernel,Bool.and_false]
 dsimp only
 rw[ne,if_neg br];unfold getAttrByItsOwn;refine wpAny_bind (show wpAny _ _ (typeLookup (.ref C) "__getattr__") _ _ _ from Looks.at L2 (wpAny_bind (wpAny_attempt (wpAny_holding ?_))));unfold callGetattribute boundAndCalled;rw[Bool.false_and,if_neg br];have fb:bindSpecial (.builtin "BaseException.__getattribute__") (.ref a)=pure (.builtin "BaseException.__getattribute__",[.ref a]):=F.excAttr_ValueError.ga.bind (.ref a);rw[fb];refine wpAny_bind (wpAny_pure (wpAny_call (JB X I hm hm2 hc ha hn htk ?_)));exact wpAny_pure (wpAny_pure hq)
end
structure ND (K:Frag) (C:Addr):Prop where
 ga:findIn K (.ref C) "__getattribute__"=some (some (.builtin "BaseException.__getattribute__"))
 gt:findIn K (.ref C) "__getattr__"=some none
 mb:mroIn K C (.type "BaseException")=some true
 mo:mroIn K C (.type "object")=some true
 hd:hasDictIn K C=true
 ca:findIn K (.ref C) "__class__"=some (some (.builtin "object.__class__"))
 sg:specialIn K (.builtin "object.__class__") "__get__"=some (some (.builtin "getset_descriptor.__get__"))
 tk:takesIn K (.builtin "object.__class__")=some true
theorem ND.obj {K:Frag} (e:ND K C):∃c d cd sl,K.lookup C=some ⟨c,d,.cls cd,sl⟩:=by
 obtain ⟨cd,hc,_⟩:=any_some e.hd;unfold clsIn at hc
 split at hc
 ·exact ⟨_,_,_,_,by assumption⟩
 ·cases hc
theorem G9 {K:Frag} {a C:Addr} (e:ND K C):KitX K (.ref a) (.ref C) (λh=>∃o,InstAt h a o C none) where
 ty:=λ_ _ _ ⟨_,I⟩=>I.type
 it:=λ_ _ X _=>by
  obtain ⟨c,d,cd,sl,lk⟩:=e.obj;intro A' Q' E' s' k q;unfold isType loadHead;exact wpAny_bind (wpAny_loadPart (k _ _ (X _ _ lk)) (wpAny_pure q))
 ne:=λh tp dd its n sl X htp=>by
  obtain ⟨c,d,cd,sl',lk⟩:=e.obj;rcases Mi (Value.ref C == Value.ref tp) with q | q
  ·have z:C=tp:=Value.ref.inj (beq_iff_eq.mp q);subst z;rw[X _ _ lk] at htp;cases htp
  ·exact q
 ca:=λ{prog w A E Q s} X ⟨_,I⟩ k=>by
  obtain ⟨cd,hc,_⟩:=any_some e.hd;obtain ⟨h,g,d,t,os⟩:=s;exact Fu X I e.ga e.gt e.mb e.mo (by rw[hc];rfl) e.ca e.sg e.tk k
theorem HV {σ:St} (I:Inv X pins σ H s) (e:H a=some (HW a (.ref C) none)):∃o,InstAt s.heap a o C none:=by
 obtain ⟨⟨o,vs,g,c,d,dd⟩,_⟩:=(show fy X.prog X.w H s.heap a (HW a (.ref C) none) from I.hok a _ e);obtain ⟨oc,od,dt,sl⟩:=o
 dsimp only at c d dd
 subst c d dd;exact ⟨_,g,rfl,rfl,trivial⟩
section
variable {X:Cx} {pins:List (Addr×Obj)} {σ:St} {H:Hp} {s:Shared}
theorem LF (I:Inv X pins σ H s) (e:H a=some (HW a cls dx)) (k:PySem.W.kitOne X.K cls c=some true) (h:∀tk,Q (.bool true) { s with toks:=tk }) :
  wpAny (model X.prog X.w) A (call (.builtin "isinstance") [.ref a,c]) Q E s:=by
 obtain ⟨p,_⟩:=(show fy X.prog X.w H s.heap a (HW a cls dx) from I.hok a _ e)
 refine call_isinstance (S:=λ_ R s=>(X.K.In s.heap/\∃o vs,s.heap.get? a=some o/\o.cls=cls/\o.data=.fields vs/\o.dict=dx)/\∀tk,R (.ok (.ret (.bool true))) { s with toks:=tk })
  (λprog w A R s hs=>isinstance_outer (Jx (Hh:=λh=>∃o vs,h.get? a=some o/\o.cls=cls/\o.data=.fields vs/\o.dict=dx) (λM h ⟨o,_,e1,e2,_⟩=>?_) k 0 _ prog w A R s hs) (λz=>nomatch z)) ⟨⟨I.kIn,p⟩,h⟩
 exact e2 ▸ (PySem.W.Looks.ld e1).andThen .now
def E7 (K:FG9) (c:Value):V->Hp->VK->Prop:=λx H Q=>∃a cls dx,x=.ref a/\H a=some (HW a cls dx)/\((PySem.W.kitOne K cls c=some true/\Q (.bl true) H)\/∃C b,cls=.ref C/\dx=none/\ND K C/\PySem.W.kitOne K cls c=some b/\Q (.bl b) H)
theorem Jz {K:FG9} (h:ta σ H λx H1=>E7 K c x H1 Q):ie ta (ie (tC cv) wN) σ H (λvs H1=>∃x,vs=[x,cv]/\E7 K c x H1 Q):=by
 show ta σ H λx H1=>∃x',[x,cv]=[x',cv]/\E7 K c x' H1 Q
 have e:(λx H1=>∃x',[x,cv]=[x',cv]/\E7 K c x' H1 Q)=λx H1=>E7 K c x H1 Q:=by
  funext x H1;exact propext ⟨λ⟨x',e,q⟩=>by cases e;exact q,λq=>⟨x,rfl,q⟩⟩
 rw[e];exact h
theorem Js {a:Expr} {ta:TE} {pos:Pos} {c:Str} {C:Addr} {p p2:Pos} (hg:Gl X "isinstance") (hm:X.mg "isinstance"=none) (hgc:Gl X c) (hmc:X.mg c=some (.ref C)) (ha:PE X a ta)
  (hd:(c == ("__debug__":Str))=false:=by decide) (he:starEach [a,.Name c p2] X.env=[(false,eval a X.env),(false,eval (.Name c p2) X.env)]:=by rfl)
  (hpl:(backTo pos (starEach [.Name c p2] X.env)).any (·.1)=false:=by rfl) (he2:starEach [.Name c p2] X.env=[(false,eval (.Name c p2) X.env)]:=by rfl):PE X (.Call (.Name "isinstance" p) [a,.Name c p2] [] pos) (Mc (E7 X.K (.ref C)) ta):=by
 intro pins s σ H Q I h;refine wpAny_Call_Name_kw (gW I hg hm PyProof.Rows.boot_isinstance ?_);have hA:PA X [a,.Name c p2] (ie ta (ie (tC (.ref C)) wN)):=ae ha (ae (kG hgc hmc rfl hd) ai he2) (by rw[he,he2]);refine PyProof.Rows.callWith_builtin1 (eY (hA pos pins s σ H _ I (Jz h)) λus s1 ⟨vs,H1,I1,r1,x,e,q1⟩=>?_) (by rw[he,he2]) hpl;subst e;obtain ⟨u,w',rfl,ru,rt⟩:=vals2 r1;cases rt;obtain ⟨ea,cls,dx,rfl,ee,⟨ek,q⟩ | ⟨C',b,rfl,rfl,ex,ek,q⟩⟩:=q1
 ·cases ru;exact LF I1 ee ek λtk=>⟨.bl true,H1,I1.tok tk,rfl,q⟩
 ·cases ru;exact cK (G9 ex) I1.kIn (HV I1 ee) ek (λz=>nomatch z) λtk=>⟨.bl b,H1,I1.tok tk,rfl,q⟩
end
theorem Gy (h:t σ H λvs H1=>sp vs H1 Q (E σ)):FY sp [] E t σ H Q:=by
 show t σ H λvs H1=>sp (vs++[]) H1 Q (E σ)
 simpa only [jY] using h
theorem KY (h:tb (hr D) D σ H):Mn hr tb D σ H:=h
section
variable {P:Program} {w:World} {K:FG9} {mg:Str->Option Value} {base:Heap}
theorem FH.okX {st:Stmt} (F:FH K x qual st f fd) (S:a7 N ps (aH st)) (len:∀vs H Q E,sp vs H Q E->vs.length=ps.length)
  (hbody:∀(cdv:Value) (A:Around) (outer:List Env) (s:Shared) (H:Hp) (vs:List V) (Q:VK) (E:XK),jm k (A.deeper (envOfC qual (aH st) s.heap.objs.size f cdv))->sp vs H Q E →
   ∃t,Bj (yK (L7 P w) P w K mg base N qual (aH st) f cdv A outer s H E) (fZ st) t/\t { nx:=λ_ H'=>Q .non H',rt:=Q } (start N vs) H):cw P w K mg base (L7 P w) (k+1) f fd ps sp:=by
 obtain ⟨oc,od,kV,doc,pm,an,cdv,ct,osl,rfl,lk,hcd⟩:=F.ex;exact Kr lk hcd S len λA outer s H vs Q E hr hsp=>hbody cdv A outer s H vs Q E hr hsp
end
def ibM (inv mv rows:LR9) (n:Nat):LR9:=gF (gF inv mv n) (cm rows n) n
def ibP (inv pt:LR9):LR9:=pt.map λxs=>inv.map λr=>cZ r xs
def pU (w:List Rat) (rows:LR9) (n:Nat):List Rat:=(List.range n).map λi=>bL n λk=>w.getD k 0*b8 rows k i
theorem CA {rows:LR9} (h:rows[i]?=some xs):b8 (rows.map f) i j=(f xs).getD j 0:=by
 unfold b8;rw[aa (l:=rows.map f),aB,h];rfl
theorem pF (h:rows[i]?=some xs):b8 rows i j=xs.getD j 0:=by
 unfold b8;rw[aa (l:=rows),h];rfl
theorem Ei {rows:LR9} {f:List Rat->Rat} (h:rows[i]?=some xs):(rows.map f).getD i 0=f xs:=by
 rw[aa,aB,h];rfl
theorem pe {f:Nat->Rat} (h:i < n):((List.range n).map f).getD i 0=f i:=by
 rw[aa,aB,cO h];rfl
theorem oG (h:i < w):b8 (cm rows w) i j=b8 rows j i:=by
 unfold cm;rw[pF (xs:=rows.map λxs=>xs.getD i 0) (by rw[aB,cO h];rfl)];unfold b8;rw[aa,aa (l:=rows),aB];cases rows[j]? <;> rfl
theorem A3 (hw:∀r∈rows,r.length=n) (hx:xs.length=n) (hi:i < rows.length):(rows.map λr=>cZ r xs).getD i 0=bL n λa=>b8 rows i a*xs.getD a 0:=by
 have e:=af hi;have l:=hw _ (aS hi);rw[Ei e,mh (by lia),l];exact aM λa _=>by rw[pF e]
theorem By (hi:i < one.length) (ho:∀xs∈one,xs.length=other.length) (hj:j < w):b8 (gF one other w) i j=bL other.length λl=>b8 one i l*b8 other l j:=by
 have e:=af hi;have l:=ho _ (aS hi);unfold gF;rw[CA e];unfold cm;rw[EL,pe hj];show cZ (other.map λxs=>xs.getD j 0) _=_
 rw[mh (by rw[ag];lia),ag];refine aM λa ha=>?_
 rw[pF e,cQ];congr 1;rw[Ei (af ha),pF (af ha)]
theorem xV {xs ys:List Rat} (h1:xs.length=n) (h2:ys.length=n) (h:∀i,i < n->xs.getD i 0=ys.getD i 0):xs=ys:=by
 refine gE (by lia) λi a b=>?_
 have:=h i (by lia);rw[aa,aa,af a,af b] at this;exact this
theorem xi:(pU w rows n).length=n:=by simp [pU]
theorem D6 (h:i < n):(pU w rows n).getD i 0=bL n λk=>w.getD k 0*b8 rows k i:=pe h
section
variable {inv mv pt lk rows:LR9} {n:Nat} {own pu:List Rat}
theorem nW (hi:ks inv n):(ibM inv mv rows n).length=n:=by unfold ibM gF;rw[ag,ag,hi.1]
theorem Kk:∀xs∈ibM inv mv rows n,xs.length=n:=λxs hx=>by
 unfold ibM gF at hx;obtain ⟨ys,_,rfl⟩:=aA.mp hx;rw[ag,cV]
theorem JX:∀xs∈gF one other n,xs.length=n:=λxs hx=>by
 unfold gF at hx;obtain ⟨ys,_,rfl⟩:=aA.mp hx;rw[ag,cV]
theorem HD (hi:ks inv n) (hm:ks mv n) (h1:i < n) (h2:k < n):b8 (ibM inv mv rows n) i k=bL n λc=>(bL n λa=>b8 inv i a*b8 mv a c)*b8 rows k c:=by
 unfold ibM;rw[By (by unfold gF;rw[ag,hi.1];exact h1) (λxs hx=>by rw[cV];exact JX xs hx) h2,cV];refine aM λc hc=>?_
 rw[oG hc,By (by rw[hi.1];exact h1) (λxs hx=>by rw[hi.2 xs hx,hm.1]) hc,hm.1]
theorem GK (h:qg (cm rows n) inv n) (ha:a < n) (hd:d < n):(bL n λi=>b8 rows i a*b8 inv i d)=if a=d then 1 else 0:=by
 rw[<- h a ha d hd];exact aM λi _=>by rw[oG ha]
theorem C7 (h:qg (cm rows n) inv n) (hw:∀i,i < n->w.getD i 0=bL n λd=>b8 inv i d*f d):pU w rows n=(List.range n).map f:=by
 refine xV xi (by simp) λa ha=>?_
 rw[D6 ha,pe ha]
 have e:(bL n λk=>w.getD k 0*b8 rows k a)=bL n λd=>(bL n λk=>b8 rows k a*b8 inv k d)*f d:=by
  rw[aM (g:=λk=>bL n λd=>b8 rows k a*b8 inv k d*f d) λk hk=>by
   rw[hw k hk,cQ,<- cN];exact aM λd _=>by grind]
  rw[fU];refine aM λd _=>?_
  rw[cQ,<- cN];exact aM λk _=>by grind
 rw[e,aM (g:=λd=>(if a=d then 1 else 0)*f d) λd hd=>by rw[GK h ha hd],HZ ha]
theorem KQ (h:qg inv (cm rows n) n) (hi:i < n) (ho:own.length=n):(bL n λa=>b8 inv i a*(pU own rows n).getD a 0)=own.getD i 0:=by
 have e:(bL n λa=>b8 inv i a*(pU own rows n).getD a 0)=bL n λk=>(bL n λa=>b8 inv i a*b8 (cm rows n) a k)*own.getD k 0:=by
  rw[aM (g:=λa=>bL n λk=>b8 inv i a*b8 (cm rows n) a k*own.getD k 0) λa ha=>by
   rw[D6 ha,<- cN];exact aM λk _=>by rw[oG ha];grind]
  rw[fU];refine aM λk _=>?_
  rw[cQ,<- cN];exact aM λa _=>by grind
 rw[e,aM (g:=λk=>(if i=k then 1 else 0)*own.getD k 0) λk hk=>by rw[h i hi k hk],HZ hi]
theorem LU:(M.map λxs=>xs.getD k 0).getD i 0=b8 M i k:=by
 unfold b8;rw[aa,aa (l:=M),aB];cases M[i]? <;> rfl
theorem LJ (h:qg (cm rows n) inv n) (hi:ks inv n) (hm:ks mv n) (hr:ks rows n) (ek:rows[k]?=some row):pU ((ibM inv mv rows n).map λxs=>xs.getD k 0) rows n=mv.map λr=>cZ r row:=by
 have hk:k < n:=by
  have:=(aF.mp ek).1;rw[hr.1] at this;exact this
 have lr:row.length=n:=hr.2 row (ao ek);rw[C7 h (f:=λd=>bL n λc=>b8 mv d c*row.getD c 0) λi hi'=>?_]
 ·refine xV (n:=n) (by simp) (by rw[ag,hm.1]) λa ha=>?_
  rw[pe ha,A3 hm.2 lr (by rw[hm.1];exact ha)]
 ·rw[LU,HD hi hm hi' hk]
  have e:(bL n λc=>(bL n λa=>b8 inv i a*b8 mv a c)*b8 rows k c)=bL n λc=>bL n λa=>b8 inv i a*(b8 mv a c*row.getD c 0):=aM λc _=>by
   rw[pF ek,cQ,<- cN];exact aM λa _=>by grind
  rw[e,fU];exact aM λa _=>cN
theorem LH (h:qg (cm rows n) inv n) (hi:ks inv n) (ly:ys.length=n):pU (inv.map λr=>cZ r ys) rows n=ys:=by
 rw[C7 h (f:=λd=>ys.getD d 0) λi hi'=>A3 hi.2 ly (by rw[hi.1];exact hi')];exact xV (by simp) ly λa ha=>pe ha
theorem LK (hi:ks inv n) (hp:∀xs∈pt,xs.length=n) (h1:p < pt.length) (h2:i < n):b8 (ibP inv pt) p i=bL n λd=>b8 inv i d*b8 pt p d:=by
 have e:=af h1;unfold ibP;rw[CA e,A3 hi.2 (hp _ (aS h1)) (by rw[hi.1];exact h2)];exact aM λd _=>by rw[pF e]
theorem Hw (h:qg (cm rows n) inv n) (hi:ks inv n) (hr:ks rows n) (D:jX mv pt lk) (ln:mv.length=n) (D':jX (ibM inv mv rows n) (ibP inv pt) lk') (lo:own.length=n) (lu:pu.length=pt.length) :
  pU (dE (ibM inv mv rows n) (ibP inv pt) own pu) rows n=dE mv pt (pU own rows n) pu:=by
 have hm:ks mv n:=⟨ln,λxs hx=>by rw[D.mw xs hx,ln]⟩;have lp:(ibP inv pt).length=pt.length:=by unfold ibP;rw[ag]
 have lM:=nW (mv:=mv) (rows:=rows) hi;rw[C7 h (f:=λd=>(bL n λc=>b8 mv d c*(pU own rows n).getD c 0)+bL pt.length λp=>pu.getD p 0*b8 pt p d) λi hi'=>?_]
 ·refine xV (n:=n) (by simp) (by unfold dE;rw[bG,cV];lia) λa ha=>?_
  rw[pe ha,Cs D (by rw[xi];lia) lu (by lia),ln]
 ·rw[Cs D' (by rw[lM];exact lo) (by rw[lp];exact lu) (by rw[lM];exact hi'),lM,lp]
  have e1:(bL n λj=>b8 (ibM inv mv rows n) i j*own.getD j 0)=bL n λd=>b8 inv i d*bL n λc=>b8 mv d c*(pU own rows n).getD c 0:=by
   have a1:(bL n λj=>b8 (ibM inv mv rows n) i j*own.getD j 0)=bL n λc=>(bL n λa=>b8 inv i a*b8 mv a c)*(pU own rows n).getD c 0:=by
    rw[aM (g:=λj=>bL n λc=>(bL n λa=>b8 inv i a*b8 mv a c)*(own.getD j 0*b8 rows j c)) λj hj=>by
     rw[HD hi hm hi' hj,cQ,<- cN];exact aM λc _=>by grind]
    rw[fU];exact aM λc hc=>by rw[D6 hc,<- cN]
   rw[a1,aM (g:=λc=>bL n λa=>b8 inv i a*(b8 mv a c*(pU own rows n).getD c 0)) λc _=>by
    rw[cQ,<- cN];exact aM λa _=>by grind]
   rw[fU];exact aM λa _=>cN
  have e2:(bL pt.length λp=>pu.getD p 0*b8 (ibP inv pt) p i)=bL n λd=>b8 inv i d*bL pt.length λp=>pu.getD p 0*b8 pt p d:=by
   rw[aM (g:=λp=>bL n λd=>b8 inv i d*(pu.getD p 0*b8 pt p d)) λp hp=>by
    rw[LK hi (λxs hx=>by rw[D.pw xs hx,ln]) hp hi',<- cN];exact aM λd _=>by grind]
   rw[fU];exact aM λa _=>cN
  rw[e1,e2,<- oJ];exact aM λd _=>by grind
theorem JA (hr:ks rows n) (ly:ys.length=n) (lo:own.length=n):cZ (rows.map λr=>cZ r ys) own=cZ ys (pU own rows n):=by
 rw[mh (by rw[ag,hr.1];lia),ag,hr.1,mh (by rw[xi];exact ly),ly]
 rw[aM (g:=λk=>bL n λa=>ys.getD a 0*(own.getD k 0*b8 rows k a)) λk hk=>by
  rw[A3 hr.2 ly (by rw[hr.1];exact hk),cQ,<- cN];exact aM λa _=>by grind]
 rw[fU];exact aM λa ha=>by rw[D6 ha,<- cN]
theorem jC (hr:ks rows n):ks (cm rows n) n:=⟨cV,λxs hx=>by rw[pT xs hx,hr.1]⟩
theorem sN (h:qg A C n):qg (cm C n) (cm A n) n:=λi hi k hk=>by
 have e:=h k hk i hi;rw[aM (g:=λj=>b8 A k j*b8 C j i) λj hj=>by rw[oG hi,oG hj,cQ],e];by_cases z:k=i
 ·rw[if_pos z,if_pos z.symm]
 ·rw[if_neg z,if_neg λw=>z w.symm]
theorem C2 (hA:ks A n):cm (cm A n) n=A:=by
 have:=EN (rows:=A) (w:=n) hA.2;rwa [hA.1] at this
theorem zq (hr:ks rows n) (F:FF (kL rows (cg n)) (n+n) w) (RR:fw (kL (cm rows n) (cg n)) (n+n) R ps) (RR0:fw rows n R0 ps0):ps=List.range n↔¬ps0.length < n:=by
 have hT:=jC hr;constructor
 ·rintro rfl;obtain ⟨hB,o1,o2⟩:=AS hT RR;have q1:=sN o1;have q2:=sN o2;rw[C2 hr] at q1 q2;have R2:=Cv hr (jC hB) q2 q1;exact (Cz hr R2 (by simp) RR0).mp rfl
 ·intro h;obtain ⟨R1,p1,_,_,S⟩:=E4 (rows:=kL rows (cg n)) (n:=n+n) (wd hr.2 oF.2) F;have RR1:=S.rr;have l1:=S.km;have e1:=(Cz hr RR1 (by rw[pB (by rw[oF.1,hr.1]),hr.1] at l1;exact l1) RR0).mpr h;rw[e1] at RR1;obtain ⟨hB,o1,o2⟩:=AS hr RR1;have R2:=Cv hT (jC hB) (sN o2) (sN o1);exact (RR.same R2).2
end
structure vW (mv pt lk rows:LR9) (M1 M2 V a1 a2 c Mr:Nat):Prop where
 B:Bd mv pt M1 M2 V a1 a2 c
 r0:0 < Mr
 r1:Mr<=2^38
 rr:GF Mr (2^28) rows
 ex:mv.length*70+a1+a2<=560
 c33:c<=33
 a1:a1<=80
 lf:∃M3 V3:Nat,0 < M3/\M3<=2^400/\V3<=2^120/\GF M3 V3 lk
structure EH (inv:LR9) (n D:Nat):Prop where
 d0:0 < D
 d1:D<=2^(n*70)
 tp:∀xs∈inv,∀x∈xs,Tp D (2^(n*70)) x
theorem p7 {M V w:Nat} (h:GF M V rows):GF M V (cm rows w):=λys hy y hy'=>by
 obtain ⟨j,_,rfl⟩:=aA.mp hy;obtain ⟨xs,hx,rfl⟩:=aA.mp hy';rw[aa];cases e:xs[j]? with
 | none=>exact Fr.zero
 | some z=>exact h xs hx z (ao e)
theorem fY {M V k j:Nat} (h:GF M V rows) (M0:0 < M) (hM:M<=2^k) (hV:V<=2^j):∀xs∈rows,rT k j xs:=λxs hx=>⟨M,V,M0,hM,hV,h xs hx⟩
theorem rQ {M V k j:Nat} (h:GF M V rows) (M0:0 < M) (hM:M<=2^k) (hV:V<=2^j) (hk:k+j<=3990):∀xs∈rows,∀x∈xs,ky x:=λxs hx x hx'=>kn M0 hM hV hk (h xs hx x hx')
theorem Cy {M N V W w:Nat} (h1:GF N W one) (h2:GF M V other):GF (M*N) (other.length*(V*W)) (gF one other w):=λxs hx x hx'=>by
 unfold gF at hx;obtain ⟨os,ho,rfl⟩:=aA.mp hx;obtain ⟨ys,hy,rfl⟩:=aA.mp hx';have l:=pT ys hy;rw[<- l];exact Fr.dot (p7 h2 ys hy) (h1 os ho)
theorem Kp {M N V W n:Nat} (h1:GF N W one) (h2:GF M V other) (hw:∀xs∈one,xs.length=n):GF (N*M) (n*(W*V)) (other.map λxs=>one.map λr=>cZ r xs):=λzs hz z hz'=>by
 obtain ⟨xs,hx,rfl⟩:=aA.mp hz;obtain ⟨r,hr,rfl⟩:=aA.mp hz';have:=Fr.dot (h1 r hr) (h2 xs hx);rwa [hw r hr] at this
theorem wg {M V W:Nat} (h:GF M V rows) (hv:V<=W):GF M W rows:=λxs hx x hx'=>(h xs hx x hx').mono hv
section
variable {mv pt lk rows inv:LR9} {M1 M2 V a1 a2 c Mr D n:Nat}
theorem EH.gf (h:EH inv n D):GF D (2^(n*70)) inv:=λxs hx x hx'=>(h.tp xs hx x hx').fr h.d0
theorem vW.swT (z:vW mv pt lk rows M1 M2 V a1 a2 c Mr) (hr:ks rows mv.length) (n8:mv.length<=8):FF (kL (cm rows mv.length) (cg mv.length)) (mv.length+mv.length) 66:=by
 have w66:(2:Nat)^38<=2^66:=aw (by decide) (by decide);refine Hu (M:=Mr) (jC hr) (by lia) z.r0 (ar z.r1 w66) (by decide) (λxs hx x hx'=>Tp.of (p7 z.rr xs hx x hx') ?_) (by lia);exact ar (eL _ z.r1) (by rw[<- bS];exact av _)
theorem vW.sw (z:vW mv pt lk rows M1 M2 V a1 a2 c Mr) (hr:ks rows mv.length) (n8:mv.length<=8):FF (kL rows (cg mv.length)) (mv.length+mv.length) 66:=by
 have w66:(2:Nat)^38<=2^66:=aw (by decide) (by decide);refine Hu (M:=Mr) hr (by lia) z.r0 (ar z.r1 w66) (by decide) (λxs hx x hx'=>Tp.of (z.rr xs hx x hx') ?_) (by lia);exact ar (eL _ z.r1) (by rw[<- bS];exact av _)
theorem v5 (h1:x<=2^i) (h2:y<=2^j) (h:i+j<=k):x*y<=2^k:=ar (bf h1 h2) (by rw[<- bS];exact aw (by decide) h)
theorem vW.im (z:vW mv pt lk rows M1 M2 V a1 a2 c Mr) (i:EH inv mv.length D):GF (M1*D) (2^(c+mv.length*70)) (gF inv mv mv.length):=wg (Cy i.gf z.B.gm) (by
 rw[<- cE,bS];exact aN _ (ar (aN _ (vN _ 4)) z.B.vc))
theorem vW.md (z:vW mv pt lk rows M1 M2 V a1 a2 c Mr) (i:EH inv mv.length D):0 < M1*D/\M1*D<=2^560:=⟨bQ z.B.m1 i.d0,v5 z.B.b1 i.d1 (by have:=z.ex;lia)⟩
theorem vW.ibM (z:vW mv pt lk rows M1 M2 V a1 a2 c Mr) (i:EH inv mv.length D) (n8:mv.length<=8):GF (Mr*(M1*D)) (2^(31+(c+mv.length*70))) (ibM inv mv rows mv.length):=wg (Cy (z.im i) (p7 z.rr)) (by
 rw[cV,<- cE,bS 2 31];exact aN _ (v5 (i:=3) (j:=28) (k:=31) (by lia) (av _) (by decide)))
theorem vW.ibP (z:vW mv pt lk rows M1 M2 V a1 a2 c Mr) (i:EH inv mv.length D) (hi:ks inv mv.length):GF (D*M2) (2^(c+mv.length*70)) (ibP inv pt):=wg (Kp i.gf z.B.gp hi.2) (by
 rw[cB (2^(mv.length*70)),<- cE,bS];exact aN _ (ar (aN _ (vN _ 4)) z.B.vc))
theorem vW.ibL (z:vW mv pt lk rows M1 M2 V a1 a2 c Mr) (hr:ks rows mv.length) (n8:mv.length<=8):∃M W:Nat,0 < M/\M<=2^438/\W<=2^151/\GF M W (lk.map λxs=>rows.map λr=>cZ r xs):=by
 obtain ⟨M3,V3,m0,m1,v1,g⟩:=z.lf;exact ⟨_,_,bQ z.r0 m0,v5 z.r1 m1 (by decide),v5 (i:=3) (by lia) (v5 (k:=148) (av (2^28)) v1 (by decide)) (by decide),Kp z.rr g hr.2⟩
structure F71 (mv pt lk rows inv:LR9):Prop where
 f1:∀xs∈inv,∀ys∈cm mv mv.length,uK ys xs
 f2:∀xs∈gF inv mv mv.length,∀ys∈cm (cm rows mv.length) mv.length,uK ys xs
 f3:∀ys∈pt,∀xs∈inv,uK xs ys
 f4:∀ys∈lk,∀xs∈rows,uK xs ys
 g1:FG (ibM inv mv rows mv.length)
 g2:FG (ibP inv pt)
 g3:FG (lk.map λxs=>rows.map λr=>cZ r xs)
theorem vW.fit (z:vW mv pt lk rows M1 M2 V a1 a2 c Mr) (i:EH inv mv.length D) (hi:ks inv mv.length) (hr:ks rows mv.length) (n8:mv.length<=8):F71 mv pt lk rows inv:=by
 have ex:=z.ex;have c3:=z.c33;have iN:=fY i.gf i.d0 i.d1 (av _);have v1:=z.B.v1;obtain ⟨M3,V3,m0,m1,w1,g⟩:=z.lf;obtain ⟨ML,WL,l0,l1,l2,lg⟩:=z.ibL hr n8
 refine ⟨λxs hx ys hy=>⟨_,_,_,_,fY (p7 z.B.gm) z.B.m1 z.B.b1 v1 ys hy,iN xs hx,by lia⟩,
  λxs hx ys hy=>⟨_,_,_,_,fY (p7 (p7 z.rr)) z.r0 z.r1 (av _) ys hy,fY (z.im i) (z.md i).1 (z.md i).2 (av _) xs hx,by lia⟩,
  λys hy xs hx=>⟨_,_,_,_,iN xs hx,fY z.B.gp z.B.m2 z.B.b2 v1 ys hy,by lia⟩,
  λys hy xs hx=>⟨_,_,_,_,fY z.rr z.r0 z.r1 (av _) xs hx,fY g m0 m1 w1 ys hy,by decide⟩,
  λxs hx x hx'=>C6 (rQ (z.ibM i n8) (bQ z.r0 (z.md i).1) (v5 z.r1 (z.md i).2 (av _)) (av _) (by lia) xs hx x hx'),
  λxs hx x hx'=>C6 (rQ (z.ibP i hi) (bQ i.d0 z.B.m2) (v5 (k:=560) i.d1 z.B.b2 (by lia)) (av _) (by lia) xs hx x hx'),
  λxs hx x hx'=>C6 (rQ lg l0 l1 l2 (by decide) xs hx x hx')⟩
theorem vW.line (z:vW mv pt lk rows M1 M2 V a1 a2 c Mr) (i:EH inv mv.length D) (hi:ks inv mv.length) (n8:mv.length<=8) (hl:∀x∈l,(∃xs∈L2.ibM inv mv rows mv.length,x∈xs)\/(∃xs∈L2.ibP inv pt,x∈xs)\/x=0):rT 598 624 l:=by
 have ex:=z.ex;have c3:=z.c33;refine ⟨M2*(Mr*(M1*D)),2^(31+(c+mv.length*70)),bQ z.B.m2 (bQ z.r0 (z.md i).1),?_,aw (by decide) (by lia),λx hx=>?_⟩
 ·exact v5 z.B.b2 (v5 (k:=38+(a1+mv.length*70)) z.r1 (v5 z.B.b1 i.d1 (av _)) (av _)) (by lia)
 ·rcases hl x hx with ⟨xs,h1,h2⟩ | ⟨xs,h1,h2⟩ | rfl
  ·exact (z.ibM i n8 xs h1 x h2).scaleL M2
  ·refine ((z.ibP i hi xs h1 x h2).mono (aw (by decide) (by lia))).dvd ?_;exact ⟨Mr*M1,by rw[cB D,cE,cB Mr (M1*D),cE,cB M1 (D*Mr),cE]⟩
  ·exact Fr.zero
theorem vW.own (i:EH inv mv.length D) (n8:mv.length<=8) (h:qg inv (cm rows mv.length) mv.length) {own:List Rat} (lo:own.length=mv.length) (hs:∀x∈pU own rows mv.length,Fr S (2^p) x):∀x∈own,Fr (D*S) (2^(mv.length*70+p+3)) x:=λx hx=>by
 obtain ⟨j,hj,e⟩:=bZ hx;have e2:=KQ h (own:=own) (i:=j) (by lia) lo;rw[aa,af hj,e] at e2;have e3:x=bL mv.length λa=>b8 inv j a*(pU own rows mv.length).getD a 0:=e2.symm
 rw[e3];refine (vY (M:=D*S) (V:=2^(mv.length*70)*2^p) mv.length λa ha=>?_).mono (v5 (i:=3) (by lia) (v5 (av _) (av _) (av _)) (by lia));refine (DF i.gf).mul ?_;rw[aa];cases e:(pU own rows mv.length)[a]? with
 | none=>exact Fr.zero
 | some z=>exact hs z (ao e)
end
inductive BQ (K:FG9) (C cF:Addr) (vs:List V) (H:Hp) (Q:VK) (E:XK):Prop
 | mk (x r:Addr) (H0 H1:Hp) (mv pt lk rows:LR9) (M1 M2 V a1 a2 c Mr:Nat):vs=[.ref x,.ref r]->jW K H0 H C x mv pt lk->jX mv pt lk->bK K H1 H r rows->ks rows mv.length->vW mv pt lk rows M1 M2 V a1 a2 c Mr →
   (∀R ps H',fw (kL (cm rows mv.length) (cg mv.length)) (mv.length+mv.length) R ps->ps≠List.range mv.length->aE H H'->E (.ref cF) none H') →
   (∀z H' inv R D,fw (kL (cm rows mv.length) (cg mv.length)) (mv.length+mv.length) R (List.range mv.length)->inv=R.map (λxs=>xs.drop mv.length)->EH inv mv.length D->aE H H'->jW K H H' C z (ibM inv mv rows mv.length) (ibP inv pt) (lk.map λxs=>rows.map λr=>cZ r xs)->Q (.ref z) H')->BQ K C cF vs H Q E
theorem AU (D:jX mv pt lk) (hi:ks inv mv.length) (hr:ks rows mv.length):jX (ibM inv mv rows mv.length) (ibP inv pt) (lk.map λxs=>rows.map λr=>cZ r xs):=by
 have lM:=nW (mv:=mv) (rows:=rows) hi;refine ⟨by rw[lM];exact D.n8,by unfold ibP;rw[ag];exact D.i4,by rw[ag];exact D.o4,λxs hx=>by rw[lM];exact Kk xs hx,λxs hx=>?_,λxs hx=>?_⟩
 ·obtain ⟨ys,_,rfl⟩:=aA.mp hx;rw[ag,lM,hi.1]
 ·obtain ⟨ys,_,rfl⟩:=aA.mp hx;rw[ag,lM,hr.1]
inductive yY (K:FG9) (C:Addr) (vs:List V) (H:Hp) (Q:VK) (E9:XK):Prop
 | mk (x p q:Addr) (H0:Hp) (mv pt lk:LR9) (st pu:List Rat):vs=[.ref x,.ref p,.ref q]->jW K H0 H C x mv pt lk->jX mv pt lk->cM K H p st->cM K H q pu->st.length=mv.length->pu.length=pt.length->(∀l:List Rat,(∀y∈l,(∃xs∈mv,y∈xs)\/(∃xs∈pt,y∈xs)\/y=0)->uK l (st++pu))->(∀r H',H r=none->aE H H'->cM K H' r (dE mv pt st pu)->Q (.ref r) H')->yY K C vs H Q E9
inductive BG (K:FG9) (C:Addr) (vs:List V) (H:Hp) (Q:VK) (E9:XK):Prop
 | mk (x p:Addr) (H0:Hp) (mv pt lk:LR9) (st:List Rat):vs=[.ref x,.ref p]->jW K H0 H C x mv pt lk->jX mv pt lk->cM K H p st->st.length=mv.length->(∀xs∈lk,uK xs st)->(∀r H',H r=none->aE H H'->cM K H' r (L2.seenQ lk st)->Q (.ref r) H')->BG K C vs H Q E9
def Kc (ws:List Rat) (rows:LR9) (n j:Nat):List Rat:=(List.range n).map λi=>bL j λk=>ws.getD k 0*b8 rows k i
theorem pV:(Kc ws rows n j).length=n:=by simp [Kc]
theorem F9 (e:rows[j]?=some row) (l:row.length=n):List.zipWith (λx y=>x+y) (Kc ws rows n j) (row.map λy=>ws.getD j 0*y)=Kc ws rows n (j+1):=by
 refine xV (n:=n) (by rw[bG,pV,ag];lia) pV λi hi=>?_
 rw[IE (by rw[ag,pV];exact l) (by rw[pV];exact hi)];unfold Kc;rw[pe hi,pe hi];show _=bL j _+ws.getD j 0*b8 rows j i
 rw[pF e];congr 1;rw[aa,aB,aa (l:=row)];rw[af (by lia)];rfl
structure JS (ws:List Rat) (rows:LR9) (n:Nat):Prop where
 sw:∀k,k < n->ky (ws.getD k 0)
 sr:∀xs∈rows,∀x∈xs,ky x
 sp:∀k i,ky (ws.getD k 0*b8 rows k i)
 ss:∀j i,j<=n->ky (bL j λk=>ws.getD k 0*b8 rows k i)
theorem Eo {M V i:Nat} {xs:List Rat} (h:∀x∈xs,Fr M V x):Fr M V (xs.getD i 0):=by
 rw[aa];cases e:xs[i]? with
 | none=>exact Fr.zero
 | some z=>exact h z (ao e)
theorem vZ (n8:n<=8) (M0:0 < M) (M1:M<=2^a) (h:∀x∈ws,Fr M (2^p) x) (r0:0 < Mr) (r1:Mr<=2^38) (hr:GF Mr (2^28) rows) (hs:a+p<=3900):JS ws rows n:=by
 have q:∀k i,Fr (M*Mr) (2^p*2^28) (ws.getD k 0*b8 rows k i):=λk i=>(Eo h).mul (DF hr)
 refine ⟨λk _=>kn M0 M1 (av _) (by lia) (Eo h),rQ hr r0 r1 (av _) (by decide),λk i=>?_,λj i hj=>?_⟩
 ·exact kn (bQ M0 r0) (v5 M1 r1 (av _)) (v5 (av _) (av _) (av _)) (by lia) (q k i)
 ·exact kn (bQ M0 r0) (v5 M1 r1 (av _)) (v5 (i:=3) (by lia) (v5 (av _) (av _) (av _)) (av _)) (by lia) (vY j λk _=>q k i)
inductive BF (K:FG9) (vs:List V) (H:Hp) (Q:VK) (E9:XK):Prop
 | mk (p q:Addr) (n:Nat) (H0:Hp) (ws:List Rat) (rows:LR9):vs=[.ref p,.ref q,.int n]->cM K H p ws->bK K H0 H q rows->ws.length=n->ks rows n->n<=8->JS ws rows n->(∀r H',H r=none->aE H H'->cM K H' r (pU ws rows n)->Q (.ref r) H')->BF K vs H Q E9
structure mJ (K:FG9) (b l:Addr) (n t:Nat) (H H':Hp) (vs:List V) (rows:LR9):Prop where
 B:fD H' b
 u:cC b H H'
 nl:H l=none
 g:H' l=some (.lst vs)
 pr:Paired (c4 K H H') rows vs
 ni:V.ref l∉vs
 w:ks rows n
 f:GF (3^t) (3^t) rows
section
variable {K:FG9} {b l q:Addr} {n t j:Nat} {H H' H2:Hp} {vs:List V} {rows:LR9} {xs:List Rat}
theorem mJ.ne (_:mJ K b l n t H H' vs rows) (hB:fD H b):∀{a},H a=none->a≠b:=λh z=>hB.at (by rw[<- z];exact h)
theorem mJ.upto (h:mJ K b l n t H H' vs rows) (hB:fD H b) (u:cC b H' H2) (B:fD H2 b):mJ K b l n t H H2 vs rows :=
 ⟨B,h.u.trans u,h.nl,u.other (h.ne hB h.nl) h.g,Paired.imp' (λ_ _ ⟨q,e,nq,R⟩=>⟨q,e,nq,R.upto u h.B (h.ne hB nq)⟩) h.pr,h.ni,h.w,h.f⟩
theorem mJ.same (h:mJ K b l n t H H' vs rows) (s:aE H' H2):mJ K b l n t H H2 vs rows :=
 ⟨h.B.same s,h.u.same s,h.nl,s _ _ h.g,Paired.imp' (λ_ _ z=>z.same s) h.pr,h.ni,h.w,h.f⟩
theorem mJ.set (h:mJ K b l n t H H' vs rows) (hB:fD H b) (s:aE H' H2) (nq:H' q=none) (R:cM K H2 q xs) (lx:xs.length=n) (fx:∀x∈xs,Fr (3^(t+1)) (3^(t+1)) x) :
  mJ K b l n (t+1) H (upd H2 l (.lst (vs.set j (.ref q)))) (vs.set j (.ref q)) (rows.set j xs):=by
 have h2:=h.same s;obtain ⟨q5,I5,xs5,gq5⟩:=h2.B.inner
 have lq:l≠q5:=λz=>by
  obtain ⟨q0,I0,xs0,gq0⟩:=hB.inner;have:=Inner.inj (h2.u.2 _ I0) I5;subst this;rw[<- z,h.nl] at gq0;cases gq0
 have ql:q≠l:=λz=>by rw[z,h.g] at nq;cases nq
 refine ⟨h2.B.upd I5 (h.ne hB h.nl) lq,h2.u.after h.nl,h.nl,aG,?_,λz=>?_,⟨by rw[dA];exact h.w.1,λys hy=>?_⟩,λys hy y hy'=>?_⟩
 ·refine rG ⟨q,rfl,h.u.none h.B nq,R.updL h2.g ql⟩ j ?_;refine kH (λxs v hv ⟨q',e,nq',R'⟩=>⟨q',e,nq',R'.updL h2.g λw=>h.ni (by rw[<- w,<- e];exact hv)⟩) h2.pr
 ·rcases bE z with z | z
  ·exact h.ni z
  ·cases z;exact ql rfl
 ·rcases bE hy with hy | rfl
  ·exact h.w.2 ys hy
  ·exact lx
 ·rcases bE hy with hy | rfl
  ·rw[fF,cB];exact ((h.f ys hy y hy').scaleL 3).mono (wH _ (by decide))
  ·exact fx y hy'
theorem Ee (h:t<=16):3^t<=2^26:=ar (aw (by decide) h) (by decide)
theorem mJ.szn (h:mJ K b l n t H H' vs rows) (ht:t<=16):∀xs∈rows,∀x∈xs,ky x:=rQ h.f (tR (by decide)) (Ee ht) (Ee ht) (by decide)
theorem mJ.at (h:mJ K b l n t H H' vs rows) (hj:j < n):∃row q,rows[j]?=some row/\vs[j]?=some (.ref q)/\row∈rows/\cM K H' q row:=by
 obtain ⟨row,v,er,ev,mr,q,rfl,_,R⟩:=df h.pr (i:=j) (by rw[h.w.1];exact hj);exact ⟨row,q,er,ev,mr,R⟩
end
inductive xh (K:FG9) (vs:List V) (H:Hp) (Q:VK) (E9:XK):Prop
 | mk (b:Addr) (n:Nat):vs=[.ref b,.int n]->fD H b->n<=8->(∀r rows T H',H r=none->bK K H H' r rows->ks rows n->T<=16->GF (3^T) (3^T) rows->fD H' b->cC b H H'->Q (.ref r) H')->xh K vs H Q E9
def ibL (rows lk:LR9):LR9:=lk.map λxs=>rows.map λr=>cZ r xs
structure Nv (mv pt lk rows inv pus:LR9) (st:List Rat):Prop where
 nx:∀i pu,pus[i]?=some pu->Nl mv pt (Ad mv pt st pus i) pu
 lo:∀i,i<=pus.length->∀ys∈lk,uK ys (Ad mv pt st pus i)
 mo:∀i pu own,pus[i]?=some pu->own.length=mv.length->pU own rows mv.length=Ad mv pt st pus i->∀l:List Rat,(∀y∈l,(∃xs∈ibM inv mv rows mv.length,y∈xs)\/(∃xs∈ibP inv pt,y∈xs)\/y=0)->uK l (own++pu)
 se:∀i own,i<=pus.length->own.length=mv.length->pU own rows mv.length=Ad mv pt st pus i->(∀xs∈ibL rows lk,uK xs own)/\JS own rows mv.length
theorem JR {start:List Rat} {M1 M2 V a1 a2 c Mr D w:Nat} (z:vW mv pt lk rows M1 M2 V a1 a2 c Mr) (i:EH inv mv.length D) (hi:ks inv mv.length) (hR:ks rows mv.length) (o1:qg inv (cm rows mv.length) mv.length) (DD:jX mv pt lk)
  (ls:start.length=mv.length) (hs:∀x∈start,Dr 6 x) (w1:w<=1000) (hp:∀xs∈pus,xs.length=pt.length/\∀x∈xs,Dr (max w 6) x) (lp:pus.length<=4):Nv mv pt lk rows inv pus (pU start rows mv.length):=by
 have n8:=DD.n8;have i4:=DD.i4;have ex:=z.ex;have c3:=z.c33;have a8:=z.a1;obtain ⟨Np,p0,p1,pf⟩:=D7 (c:=10) (n:=pt.length) (rows:=pus) λqs hq=>⟨(hp qs hq).1,λy hy=>⟨ar ((hp qs hq).2 y hy).1 (by lia),ar ((hp qs hq).2 y hy).2 (by lia)⟩⟩
 have p2:Np<=2^160:=ar p1 (aw (by decide) (by have:=bf lp i4;lia))
 have f0:∀x∈pU start rows mv.length,Fr (2520*Mr) (2^40) x:=λx hx=>by
  obtain ⟨j,_,rfl⟩:=aA.mp hx;refine (vY (M:=2520*Mr) (V:=9*2^28) mv.length λk _=>?_).mono (ar (aN _ n8) (by decide));exact (Eo λx hx=>A2 ⟨ar (hs x hx).1 (by decide),ar (hs x hx).2 (by decide)⟩ (EK _)).mul (DF z.rr)
 have N0:0 < 2520*Mr*(M2*Np):=bQ (bQ (by decide) z.r0) (bQ z.B.m2 p0);have N1:2520*Mr*(M2*Np)<=2^(210+a2):=v5 (v5 (i:=12) (k:=50) (by decide) z.r1 (by decide)) (v5 z.B.b2 p2 (av _)) (by lia)
 have sz:a1*(pus.length+1)+(210+a2)+c*(pus.length+1)+40<=3900:=by
  have:=bf (show a1<=80 by lia) (show pus.length+1<=5 by lia);have:=bf c3 (show pus.length+1<=5 by lia)
  lia
 have st:=z.B.states (lk:=lk) (st:=pU start rows mv.length) (pus:=pus) (N:=2520*Mr*(M2*Np)) (Np:=Np) (p:=40) (ν:=210+a2) DD xi (λxs hx=>(hp xs hx).1) N0 N1 (eX _ _) (λx hx=>(f0 x hx).dvd (Nat.dvd_mul_right _ _)) (λxs hx x hx'=>(pf xs hx x hx').mono (aw (by decide) (by decide))) sz (by lia);have sB:∀k,k<=pus.length->M1^k*(2520*Mr*(M2*Np))<=2^(a1*k+(210+a2)):=λk _=>Ci z.B.b1 N1
 have ak:∀k,k<=pus.length->a1*k<=320/\c*k<=132:=λk hk=>by
  have:=bf (show a1<=80 by lia) (show k<=4 by lia);have:=bf c3 (show k<=4 by lia)
  lia
 have own:∀k o,k<=pus.length->o.length=mv.length->pU o rows mv.length=Ad mv pt (pU start rows mv.length) pus k->0 < D*(M1^k*(2520*Mr*(M2*Np)))/\D*(M1^k*(2520*Mr*(M2*Np)))<=2^1100/\∀x∈o,Fr (D*(M1^k*(2520*Mr*(M2*Np)))) (2^740) x:=λk o hk lo e=>by
  obtain ⟨k1,k2⟩:=ak k hk;refine ⟨bQ i.d0 (bQ (tR z.B.m1) N0),v5 i.d1 (sB k hk) (by lia),λx hx=>?_⟩;have q:=(st k hk).1;rw[<- e] at q;exact (vW.own i n8 o1 lo q x hx).mono (aw (by decide) (by lia))
 obtain ⟨M3,V3,m0,m1,v1,g⟩:=z.lf;obtain ⟨ML,WL,l0,l1,l2,lg⟩:=z.ibL hR n8;refine ⟨λk pu e=>(st k (aR (aF.mp e).1)).2 pu e,λk hk ys hy=>?_,λk pu o e lo es l hl=>?_,λk o hk lo es=>?_⟩
 ·obtain ⟨k1,k2⟩:=ak k hk;exact ⟨400,120,1100,172,fY g m0 m1 v1 ys hy,⟨_,_,bQ (tR z.B.m1) N0,ar (sB k hk) (aw (by decide) (by lia)),aw (by decide) (by lia),(st k hk).1⟩,by decide⟩
 ·have hk:k<=pus.length:=aR (aF.mp e).1;obtain ⟨b0,b1,of⟩:=own k o hk lo es;refine ⟨598,624,1100,740,z.line i hi n8 hl,⟨_,_,b0,b1,av _,λx hx=>?_⟩,by decide⟩;rcases ax.mp hx with hx | hx
  ·exact of x hx
  ·refine ((pf pu (ao e) x hx).mono (aw (by decide) (by decide))).dvd ?_;exact jQ (eX Np M2) (jQ (eX _ _) (jQ (eX _ _) (eX _ _)))
 ·obtain ⟨b0,b1,of⟩:=own k o hk lo es;exact ⟨λxs hx=>⟨438,151,1100,740,fY lg l0 l1 l2 xs hx,⟨_,_,b0,b1,av _,of⟩,by decide⟩,vZ n8 b0 b1 of z.r0 z.r1 z.rr (by decide)⟩
theorem KG (h:Rg mv pt w) (F:Me mv pt lk) (n8:mv.length<=8) (r0:0 < Mr) (r1:Mr<=2^38) (rr:GF Mr (2^28) rows):∃M1 M2 V a1 a2 c,vW mv pt lk rows M1 M2 V a1 a2 c Mr:=by
 have lf:∃M3 V3:Nat,0 < M3/\M3<=2^400/\V3<=2^120/\GF M3 V3 lk:=let ⟨M,W,a,b,c,_,_,d⟩:=F;⟨M,W,a,b,c,d⟩
 rcases h with ⟨_,B⟩ | ⟨_,n5,B⟩ | ⟨_,n2,M1,M2,B⟩
 ·exact ⟨_,_,_,_,_,_,B,r0,r1,rr,by lia,by decide,by decide,lf⟩
 ·exact ⟨_,_,_,_,_,_,B,r0,r1,rr,by lia,by decide,by decide,lf⟩
 ·exact ⟨_,_,_,_,_,_,B,r0,r1,rr,by lia,by decide,by decide,lf⟩
inductive DZ (K:FG9) (C:Addr) (vs:List V) (H:Hp) (Q:VK) (E9:XK):Prop
 | mk (x:Addr) (H0:Hp) (mv pt lk:LR9):vs=[.ref x]->jW K H0 H C x mv pt lk->(∀r H',aE H H'->eh K H0 H' r mv pt lk->Q (.ref r) H')->DZ K C vs H Q E9
inductive BP (K:FG9) (C:Addr) (vs:List V) (H:Hp) (Q:VK) (E9:XK):Prop
 | mk (x:Addr) (H0:Hp) (mv pt lk:LR9):vs=[.ref x,.int mv.length,.int pt.length,.int lk.length]->jW K H0 H C x mv pt lk->jX mv pt lk->FG mv->FG pt->FG lk->(∀H',aE H H'->Q (.bl true) H')->BP K C vs H Q E9
inductive yU (K:FG9) (C:Addr) (vs:List V) (H:Hp) (Q:VK) (E9:XK):Prop
 | mk (x r:Addr) (H0 H1:Hp) (mv pt lk rows:LR9) (M1 M2 V a1 a2 c Mr:Nat):vs=[.ref x,.ref r]->jW K H0 H C x mv pt lk->jX mv pt lk->bK K H1 H r rows->ks rows mv.length->vW mv pt lk rows M1 M2 V a1 a2 c Mr →
   (∀R ps t H',fw (kL (cm rows mv.length) (cg mv.length)) (mv.length+mv.length) R ps->ps≠List.range mv.length->aE H H'->H' t=some (.tup [.str "no",.bl true])->Q (.ref t) H') →
   (∀z t H' inv R D,fw (kL (cm rows mv.length) (cg mv.length)) (mv.length+mv.length) R (List.range mv.length)->inv=R.map (λxs=>xs.drop mv.length)->EH inv mv.length D->aE H H'->H' t=some (.tup [.str "told",.ref z])->jW K H H' C z (ibM inv mv rows mv.length) (ibP inv pt) (ibL rows lk)->Q (.ref t) H')->yU K C vs H Q E9
inductive BJ (K:FG9) (vs:List V) (H:Hp) (Q:VK) (E9:XK):Prop
 | mk (r o q:Addr) (H0 H1 H2:Hp) (mv pt lk rows inv:LR9) (M1 M2 V a1 a2 c Mr D:Nat):vs=[.ref r,.ref o,.ref q]->eh K H0 H r mv pt lk->eh K H1 H o (ibM inv mv rows mv.length) (ibP inv pt) (ibL rows lk)->bK K H2 H q rows->jX mv pt lk->ks rows mv.length->ks inv mv.length->qg (cm rows mv.length) inv mv.length->vW mv pt lk rows M1 M2 V a1 a2 c Mr->EH inv mv.length D->(∀H',aE H H'->Q (.bl true) H')->BJ K vs H Q E9
inductive BS (K:FG9) (C:Addr) (vs:List V) (H:Hp) (Q:VK) (E9:XK):Prop
 | mk (r x q s p:Addr) (H0 H1 H2 H3:Hp) (mv pt lk rows inv pus:LR9) (start:List Rat):vs=[.ref r,.ref x,.ref q,.ref s,.ref p]->eh K H0 H r mv pt lk->jW K H1 H C x (ibM inv mv rows mv.length) (ibP inv pt) (ibL rows lk)->bK K H2 H q rows->cM K H s start->bK K H3 H p pus->jX mv pt lk->ks rows mv.length->ks inv mv.length->qg (cm rows mv.length) inv mv.length->start.length=mv.length->(∀xs∈pus,xs.length=pt.length)->pus.length<=4->JS start rows mv.length->Nv mv pt lk rows inv pus (pU start rows mv.length)->(∀H',aE H H'->Q (.bl true) H')->BS K C vs H Q E9
end L2
open L2
local macro_rules | `(tactic| walk_at "hl") => `(tactic| first | (show _ ≤ sizeLine; with_unfolding_all decide) | (with_unfolding_all exact (by decide)))
local macro_rules | `(tactic| walk_at "sq") => `(tactic| first | with_reducible assumption | with_reducible exact kz.of (by assumption) | with_reducible exact bD.of (by assumption) | with_reducible exact kz.of aG | with_reducible exact bD.of aG | assumption)
local macro_rules | `(tactic| walk_at "sc") => `(tactic| first | (with_reducible show (0 : Int) < _; decide) | with_reducible exact JK (by decide) (by decide) | with_reducible exact A5 (by decide) (by decide) | with_reducible exact cpow_of (by decide) (by decide) (by decide))
local macro_rules | `(tactic| walk_at "rd") => `(tactic| first
  | with_reducible refine KZ ?_
  | with_reducible refine Ja ?_
  | with_reducible refine Ld ?_
  | with_reducible refine Gw ?_
  | ((with_reducible refine' KU ?hx1 ?_); (case hx1 => with_unfolding_all rfl))
  | with_reducible refine NI ?_
  | with_reducible refine MP ?_
  | with_reducible refine MS ?_
  | with_reducible refine MJ ?_
  | with_reducible refine NJ ?_
  | with_reducible refine Lc ?_
  | with_reducible refine K5 ?_
  | with_reducible refine rd_eqS ?_
  | with_reducible refine K4 ?_
  | with_reducible refine rd_eqB ?_
  | with_reducible refine rd_neB ?_
  | with_reducible refine Jd ?_
  | with_reducible refine Di ?_
  | with_reducible refine Lb ?_
  | with_reducible refine IX ?_
  | with_reducible refine Jb ?_
  | with_reducible refine Jc ?_
  | with_reducible refine Gv ?_
  | with_reducible refine IW ?_
  | with_reducible refine MK ?_
  | with_reducible refine K0 ?_
  | with_reducible refine rd_retN ?_
  | with_reducible refine K8 ?_
  | with_reducible refine Le ?_
  | with_reducible refine MO ?_
  | with_reducible refine K2 ?_
  | with_reducible refine Jo ?_
  | with_reducible refine rd_orV ?_
  | with_reducible refine IZ ?_
  | with_reducible refine K9 ?_
  | with_reducible refine KS ?_
  | with_reducible refine Jy ?_
  | with_reducible refine M6 ?_
  | with_reducible refine M7 ?_
  | with_reducible refine M8 ?_
  | with_reducible refine MI ?_
  | with_reducible refine K3 ?_
  | with_reducible refine Jk ?_
  | with_reducible refine KW ?_
  | with_reducible refine K6 ?_
  | with_reducible refine Jm ?_
  | with_reducible refine MQ ?_
  | with_reducible refine Jj ?_
  | with_reducible refine K1 ?_
  | with_reducible refine Jn ?_
  | ((with_reducible refine' rd_aug ?hx1 ?_); (case hx1 => with_unfolding_all rfl))
  | with_reducible refine K7 ?_
  | with_reducible refine Jg ?_
  | with_reducible refine Gx ?_
  | with_reducible refine Jh ?_
  | with_reducible refine MM ?_
  | with_reducible refine E5 ?_
  | with_reducible refine IY ?_
  | with_reducible refine La ?_
  | with_reducible refine Gu ?_
  | with_reducible refine Je ?_
  | with_reducible refine Gs ?_
  | with_reducible refine Gr ?_
  | ((with_reducible refine' Jl ?hx1 ?_); (case hx1 => with_unfolding_all rfl))
  | with_reducible refine IV ?_
  | with_reducible refine MR ?_
  | with_reducible refine rd_bm0 ?_
  | with_reducible refine rd_brk ?_
  | ((with_reducible refine' Jf ?hx1 ?hx2 ?_); (case hx1 => walk_at "sq"); (case hx2 => with_unfolding_all rfl))
  | with_reducible refine rd_cont ?_
  | ((with_reducible refine' fj ?hx1 ?_); (case hx1 => walk_at "sc"))
  | ((with_reducible refine' Dj ?hx1 ?hx2 ?_); (case hx1 => walk_at "sq"); (case hx2 => with_unfolding_all rfl))
  | ((with_reducible refine' bV ?hx1 ?hx2 ?_); (case hx1 => walk_at "sq"); (case hx2 => with_unfolding_all rfl))
  | ((with_reducible refine' Ji ?hx1 ?hx2 ?_); (case hx1 => walk_at "sq"); (case hx2 => with_unfolding_all rfl))
  | ((with_reducible refine' dC ?hx1 ?hx2 ?hx3 ?_); (case hx1 => with_reducible first | assumption | exact aG); (case hx2 => with_unfolding_all rfl); (case hx3 => with_unfolding_all rfl))
  | with_reducible refine ⟨_, rfl, ?_⟩
  | with_reducible refine ⟨_, _, rfl, ?_⟩)
local macro_rules | `(tactic| walk_at "w") => `(tactic| repeat walk_at "rd")
local macro_rules | `(tactic| walk_at "d") => `(tactic| exact ⟨rfl,rfl,rfl,by decide +kernel,rfl,by decide +kernel,by decide +kernel⟩)
namespace Lw
open PySem PySem.Spec PyProof.Rows L2 Nm
local macro_rules | `(tactic| exists $e) => `(tactic| (walk_at "w";refine $e))
set_option maxHeartbeats 4000000
def top (i:Nat):Stmt:=PySem.Challenge.pw_helmsum_k71_in_basis.main.body.getD i (.Pass ⟨0,0,0,0⟩)
abbrev rF:Stmt:=top 46
abbrev oU:Stmt:=top 47
abbrev jS:Stmt:=top 63
abbrev o6:Stmt:=top 65
abbrev rD:Stmt:=top 48
abbrev rB:Stmt:=top 49
abbrev oY:Stmt:=top 56
abbrev oX:Stmt:=top 51
abbrev uj:Stmt:=top 58
abbrev mX:Stmt:=top 60
abbrev iZ:Stmt:=top 66
abbrev lh:Stmt:=top 53
abbrev rC:Stmt:=top 54
abbrev o3:Stmt:=top 59
abbrev mV:Stmt:=top 61
abbrev k6:Stmt:=top 67
abbrev oO:Stmt:=top 40
abbrev rn:Stmt:=top 10
abbrev iY:Stmt:=top 11
abbrev oR:Stmt:=top 13
abbrev xp:Stmt:=top 16
abbrev kZ:Stmt:=top 41
abbrev dm:Stmt:=inClass (top 42) 0
abbrev lD:Stmt:=top 62
abbrev o5:Stmt:=top 68
abbrev mZ:Stmt:=top 76
abbrev kY:Stmt:=top 23
abbrev oQ:Stmt:=top 18
abbrev iq:Stmt:=top 12
abbrev jN:Stmt:=top 17
abbrev mS:Stmt:=top 29
abbrev uh:Stmt:=top 31
abbrev mT:Stmt:=top 30
abbrev As:Stmt:=top 32
abbrev xo:Stmt:=top 14
abbrev uc:Stmt:=top 33
abbrev rk:Stmt:=top 20
abbrev oP:Stmt:=top 25
abbrev jM:Stmt:=top 27
abbrev ue:Stmt:=top 28
abbrev uf:Stmt:=top 35
abbrev t9:Stmt:=top 19
abbrev ug:Stmt:=top 22
abbrev mR:Stmt:=top 24
abbrev rz:Stmt:=top 44
abbrev oS:Stmt:=top 80
abbrev oV:Stmt:=top 52
abbrev o7:Stmt:=top 50
abbrev mY:Stmt:=top 57
abbrev o8:Stmt:=top 75
abbrev i8:Stmt:=top 72
abbrev lC:Stmt:=top 73
abbrev j7:Stmt:=top 74
abbrev i5:Stmt:=top 79
abbrev k9:Stmt:=top 77
abbrev rE:Stmt:=top 55
abbrev ui:Stmt:=top 64
abbrev mW:Stmt:=top 81
abbrev jO:Stmt:=top 78
abbrev oW:Stmt:=top 70
abbrev mU:Stmt:=top 69
abbrev fA:Stmt:=inClass (top 42) 2
abbrev oZ:Stmt:=top 71
abbrev eQ:Stmt:=inClass (top 42) 1
abbrev m4:Stmt:=top 82
abbrev Ge:Stmt:=top 83
set_option genInjectivity false in
set_option genSizeOf false in
structure Ads where
 yt:Addr
 yg:FuncData
 vz:Addr
 uX:FuncData
 tI:Addr
 sZ:FuncData
 vH:Addr
 vg:FuncData
 yq:Addr
 yd:FuncData
 yo:Addr
 ya:FuncData
 vD:Addr
 vb:FuncData
 vC:Addr
 va:FuncData
 zV:Addr
 zF:FuncData
 tL:Addr
 tm:FuncData
 mE:Addr
 my:FuncData
 qR:Addr
 qI:FuncData
 yp:Addr
 yc:FuncData
 vF:Addr
 ve:FuncData
 tJ:Addr
 td:FuncData
 qP:Addr
 qG:FuncData
 vo:Addr
 uS:FuncData
 ym:Addr
 xY:FuncData
 mD:Addr
 mi:FuncData
 vv:Addr
 uV:FuncData
 CN:Addr
 CG:FuncData
 qO:Addr
 qF:FuncData
 iO:Addr
 iK:FuncData
 qT:Addr
 qK:FuncData
 vG:Addr
 vf:FuncData
 tO:Addr
 tw:FuncData
 qN:Addr
 qE:FuncData
 vq:Addr
 uU:FuncData
 kO:Addr
 kM:FuncData
 oz:Addr
 ou:FuncData
 tF:Addr
 sW:FuncData
 zT:Addr
 zD:FuncData
 tG:Addr
 sX:FuncData
 ED:Addr
 Ez:FuncData
 CM:Addr
 CF:FuncData
 zP:Addr
 zz:FuncData
 yk:Addr
 xX:FuncData
 vp:Addr
 uT:FuncData
 oy:Addr
 ot:FuncData
 zQ:Addr
 zA:FuncData
 zR:Addr
 zB:FuncData
 zO:Addr
 zy:FuncData
 zS:Addr
 zC:FuncData
 tE:Addr
 sV:FuncData
 yn:Addr
 xZ:FuncData
 vw:Addr
 uW:FuncData
 vA:Addr
 uY:FuncData
 vI:Addr
 vh:FuncData
 tN:Addr
 tu:FuncData
 vJ:Addr
 vm:FuncData
 mG:Addr
 mC:FuncData
 qS:Addr
 qJ:FuncData
 pO:Addr
 pJ:FuncData
 mF:Addr
 mB:FuncData
 qQ:Addr
 qH:FuncData
 yr:Addr
 ye:FuncData
 zU:Addr
 zE:FuncData
 tK:Addr
 tj:FuncData
 oA:Addr
 ow:FuncData
 vB:Addr
 uZ:FuncData
 tH:Addr
 sY:FuncData
 lW:Addr
 lT:FuncData
 vE:Addr
 vd:FuncData
 kq:Addr
 ko:FuncData
 tP:Addr
 tx:FuncData
 Kv:Addr
 Ku:FuncData
 a_NOUGHT:Addr
 a_ONE:Addr
 t_MOST_STATES:Tok
 t_MOST_PUTS:Tok
 t_MOST_LOOKS:Tok
 a_System:Addr
 a_SumError:Addr
 a_NoFit:Addr
structure Txt (K:W.Frag) (mg:Str->Option Value) (Z:Ads):Prop where
 pz:Df K mg "_law_bag" rF ["_law_script"] Z.yt Z.yg
 aK:Df K mg "_law_take" oU ["_law_bag_here","_law_many"] Z.vz Z.uX
 lN:Df K mg "_law_sizes" jS ["_law_bag_here"] Z.tI Z.sZ
 iH:Df K mg "_law_line" o6 ["_law_bag_here","_law_n"] Z.vH Z.vg
 dJ:Df K mg "_law_low" rD ["_law_top","_law_bottom"] Z.yq Z.yd
 gZ:Df K mg "_law_sum" rB ["_law_one","_law_other_here"] Z.yo Z.ya
 fX:Df K mg "_law_plus" oY ["_law_one","_law_other_here"] Z.vD Z.vb
 fW:Df K mg "_law_prod" oX ["_law_one","_law_other_here"] Z.vC Z.va
 dX:Df K mg "_law_by" uj ["_law_by_here","_law_row_here"] Z.zV Z.zF
 jv:Df K mg "_law_mixed" mX ["_law_bag_here","_law_move_here","_law_put","_law_look"] Z.tL Z.tm
 iG:Df K mg "_law_two_lines" iZ ["_law_bag_here"] Z.mE Z.my
 kh:Df K mg "_law_number" lh ["_law_bag_here","_law_wide"] Z.qR Z.qI
 fe:Df K mg "_law_row" rC ["_law_bag_here","_law_many","_law_wide"] Z.yp Z.yc
 nN:Df K mg "_law_move" o3 ["_law_bag_here","_law_n","_law_way","_law_first","_law_wide"] Z.vF Z.ve
 lO:Df K mg "_law_parts" mV ["_law_bag_here","_law_n","_law_ins","_law_outs","_law_wide"] Z.tJ Z.td
 kf:Df K mg "_law_system" k6 ["_law_bag_here"] Z.qP Z.qG
 iE:Df K mg "want_list" oO ["thing","at","most"] Z.vo Z.uS
 kJ:Df K mg "is_whole" rn ["thing"] Z.ym Z.xY
 eC:Df K mg "common_divisor" iY ["one","other"] Z.mD Z.mi
 nH:Df K mg "is_number" oR ["thing"] Z.vv Z.uV
 uA:Df K mg "is_row" xp ["thing","many"] Z.CN Z.CG
 fQ:Df K mg "copied_rows" kZ ["things","wide"] Z.qO Z.qF
 iL:Binds K Z.iK ["self","move","put","look"] []
 kS:FH K "__init__" "System.__init__" dm Z.iO Z.iK
 eV:Df K mg "_law_copied" lD ["_law_grid"] Z.qT Z.qK
 nO:Df K mg "_law_made" o5 ["_law_parts_here"] Z.vG Z.vf
 lQ:Df K mg "_law_basis" mZ ["_law_bag_here","_law_n"] Z.tO Z.tw
 fP:Df K mg "grid_turned" kY ["grid","wide"] Z.qN Z.qE
 iF:Df K mg "tops_over" oQ ["row","bottom"] Z.vq Z.uU
 gU:Df K mg "common_multiple" iq ["wholes"] Z.kO Z.kM
 eT:Df K mg "common_bottom" jN ["row"] Z.oz Z.ou
 lG:Df K mg "first_with" mS ["lines","begin","place"] Z.tF Z.sW
 rO:Df K mg "cleared" uh ["lines","at","place","before"] Z.zT Z.zD
 lH:Df K mg "brought_up" mT ["lines","at","to"] Z.tG Z.sX
 xJ:Df K mg "swept" As ["rows","wide"] Z.ED Z.Ez
 pZ:Df K mg "lowest" xo ["top","bottom"] Z.CM Z.CF
 rL:Df K mg "reduced" uc ["rows","wide"] Z.zP Z.zz
 pk:Df K mg "unit_row" rk ["many","at"] Z.yk Z.xX
 nF:Df K mg "unit_grid" oP ["many"] Z.vp Z.uT
 jg:Df K mg "leading_place" jM ["row"] Z.oy Z.ot
 rM:Df K mg "leading" ue ["rows"] Z.zQ Z.zA
 rN:Df K mg "inverse" uf ["grid"] Z.zR Z.zB
 nG:Df K mg "row_dot" t9 ["one","other"] Z.zO Z.zy
 jh:Df K mg "grid_on" ug ["grid","row"] Z.zS Z.zC
 ju:Df K mg "grid_times" mR ["one","other","wide"] Z.tE Z.sV
 jG:Df K mg "in_basis" rz ["system","rows"] Z.yn Z.xZ
 nI:Df K mg "_law_told" oS ["_law_system_here","_law_rows"] Z.vw Z.uW
 nJ:Df K mg "_law_quot" oV ["_law_one","_law_other_here"] Z.vA Z.uY
 nQ:Df K mg "_law_less" o7 ["_law_one","_law_other_here"] Z.vI Z.vh
 jw:Df K mg "_law_minus" mY ["_law_one","_law_other_here"] Z.tN Z.tu
 nR:Df K mg "_law_lean" o8 ["_law_rows","_law_wide"] Z.vJ Z.vm
 iJ:Df K mg "_law_is_number" i8 ["_law_thing"] Z.mG Z.mC
 kj:Df K mg "_law_is_row" lC ["_law_thing","_law_many"] Z.qS Z.qJ
 fu:Df K mg "_law_is_grid" j7 ["_law_thing","_law_many","_law_wide"] Z.pO Z.pJ
 iI:Df K mg "_law_is_system" i5 ["_law_thing","_law_n","_law_ins","_law_outs"] Z.mF Z.mB
 eU:Df K mg "_law_summed" k9 ["_law_weights","_law_rows","_law_n"] Z.qQ Z.qH
 kK:Df K mg "_law_dot" rE ["_law_one","_law_other_here"] Z.yr Z.ye
 kg:Df K mg "_law_on" ui ["_law_grid","_law_row_here"] Z.zU Z.zE
 lP:Df K mg "_law_other" mW ["_law_parts_here","_law_other_here","_law_rows"] Z.tK Z.tj
 ji:Df K mg "_law_parts_of" jO ["_law_system_here"] Z.oA Z.ow
 nK:Df K mg "_law_puts" oW ["_law_bag_here","_law_parts_here","_law_steps_here","_law_wide"] Z.vB Z.uZ
 lI:Df K mg "_law_steps" mU ["_law_bag_here","_law_parts_here"] Z.tH Z.sY
 pA:JU K Z.a_System "seen" Z.lW
 qM:Binds K Z.lT ["self","state"] []
 qV:FH K "seen" "System.seen" fA Z.lW Z.lT
 nM:Df K mg "_law_next" oZ ["_law_parts_here","_law_state","_law_puts_here"] Z.vE Z.vd
 oq:JU K Z.a_System "moved" Z.kq
 pN:Binds K Z.ko ["self","state","puts"] []
 pQ:FH K "moved" "System.moved" eQ Z.kq Z.ko
 lS:Df K mg "_law_along" m4 ["_law_parts_here","_law_told_here","_law_rows","_law_start","_law_puts_here"] Z.tP Z.tx
 Kz:FH K "law" "law" Ge Z.Kv Z.Ku
 abs:mg "abs"=none
 len:mg "len"=none
 min:mg "min"=none
 int:mg "int"=none
 range:mg "range"=none
 isinstance:mg "isinstance"=none
 list:mg "list"=none
 bool:mg "bool"=none
 tuple:mg "tuple"=none
 all:mg "all"=none
 enumerate:mg "enumerate"=none
 zip:mg "zip"=none
 sum:mg "sum"=none
 max:mg "max"=none
 mg_NOUGHT:mg "NOUGHT"=some (.ref Z.a_NOUGHT)
 sq_NOUGHT:∀H,kz K H Z.a_NOUGHT [.int 0,.int 1]
 mg_ONE:mg "ONE"=some (.ref Z.a_ONE)
 sq_ONE:∀H,kz K H Z.a_ONE [.int 1,.int 1]
 mg_MOST_STATES:mg "MOST_STATES"=some (.int 8 Z.t_MOST_STATES)
 mg_MOST_PUTS:mg "MOST_PUTS"=some (.int 4 Z.t_MOST_PUTS)
 mg_MOST_LOOKS:mg "MOST_LOOKS"=some (.int 4 Z.t_MOST_LOOKS)
 mg_System:mg "System"=some (.ref Z.a_System)
 cl_System:FK K Z.a_System
 na_move:iP K Z.a_System "move"
 na_states:iP K Z.a_System "states"
 na_put:iP K Z.a_System "put"
 na_ins:iP K Z.a_System "ins"
 na_look:iP K Z.a_System "look"
 na_outs:iP K Z.a_System "outs"
 mk_System:Mk K Z.a_System Z.iO
 mg_SumError:mg "SumError"=some (.ref Z.a_SumError)
 mg_NoFit:mg "NoFit"=some (.ref Z.a_NoFit)
 ex_NoFit:W.excIn K Z.a_NoFit FR "ValueError.__new__"=true
 xm_NoFit_NoFit:W.exmOne K (.ref Z.a_NoFit) (.ref Z.a_NoFit)=some true
 ki_NoFit_SumError:W.kitOne K (.ref Z.a_NoFit) (.ref Z.a_SumError)=some true
 ty_System:(∀{H:Hp} {a dx:Addr} {fs:List (Str×V)},H a=some (.ins Z.a_System dx fs)->rS K H (.ref a) (.ref Z.a_System))/\W.kitOne K (.ref Z.a_System) (.ref Z.a_System)=some true
section
variable {P:Program} {w:World} {K:W.Frag} {mg:Str->Option Value} {base:Heap} {Z:Ads}
theorem BY:a7 ["_law_script"] ["_law_script"] (aH rF):=by walk_at "d"
theorem Co (T:Txt K mg Z):cw P w K mg base fJ 1 Z.yt Z.yg ["_law_script"] (F8 K):=by
 refine T.pz.F.ok BY (λvs H Q E h=>?_) (λcdv A outer s H vs Q E hr h=>?_)
 ·obtain ⟨a,ns,rfl,_⟩:=h;rfl
 ·obtain ⟨a,ns,rfl,hS,hlen,k⟩:=h;refine ⟨_,(ay (aW (d7 (ae aj (ae aj (ae aj (ae (bT ["_law_cell"] [] [] (cb (xA Ah (pv 0) Aw (Av aj))) (λ_=>(aI (i:=0) (show ND9 ["_law_cell"] by decide +kernel))) (λ_=>bW) (λ_=>(bq tD (by rfl) T.abs PyProof.Rows.boot_abs (ae (pv 0) ai)))) ai))))))),?_⟩;refine aT (σ:=[some (.ref a)]) rfl ?_;exists ⟨a,_,rfl,hS,λl hl=>?_⟩;have hcl:(qe (ns.map V.int) none (some 63)).length<=63:=ar (vn _ _ _) (by simpa using hlen);refine ⟨l,rfl,⟨_,bD.of aG⟩,?_⟩;refine dO (K:=K) (a:=l) (xs:=qe (ns.map V.int) none (some 63)) (λi ys H'=>H'=upd H l (.lst (qe (ns.map V.int) none (some 63)))/\∃cs:List Int,ys=cs.map V.int/\∀x∈cs,0<=x) (ar hcl (by decide)) ⟨rfl,[],rfl,λ_ z=>nomatch z⟩ (λi ys H' _ ⟨e,_⟩=>by subst e;exact bD.of aG) ?_ ?_
  ·rintro i x ys H' hx hi ⟨rfl,cs,rfl,hcs⟩
   obtain ⟨z,rfl⟩:∃z,x=V.int z:=by
    have hm:x∈ns.map V.int:=List.mem_of_mem_drop (cf (ao hx));obtain ⟨z,_,e⟩:=aA.mp hm;exact ⟨z,e.symm⟩
   exists ⟨rfl,cs++[if z < 0 then -z else z],by simp,λx hx=>?_⟩;rcases ax.mp hx with hx | hx
   ·exact hcs x hx
   ·have e:x=if z < 0 then -z else z:=by simpa using hx
    subst e
    split <;> lia
  ·rintro ys H' hy ⟨rfl,cs,rfl,hcs⟩ p hp;exists ⟨by show 4<=sizeLine;decide,λb hb=>?_⟩;have n1:b≠p:=λz=>by rw[z,aG] at hb;cases hb
   have hb1:(upd H l (.lst (qe (ns.map V.int) none (some 63)))) b=none:=by rw[a9 n1] at hb;exact hb
   have s1:aE H (upd H l (.lst (qe (ns.map V.int) none (some 63)))):=aE.new hl;refine k b _ (s1.free hb1) ⟨p,0,1234567891,0,cs,aG,by rw[a9 n1.symm];exact aG,by decide,by decide,by lia,hcs⟩ ((s1.trans (aE.new hp)).trans (aE.new hb))
theorem fg:a7 ["_law_bag_here","_law_many","_law_more","_law_cell","_law_value","_law_first","_law_second"] ["_law_bag_here","_law_many"] (aH oU):=by walk_at "d"
theorem aP (T:Txt K mg Z):cw P w K mg base fJ 1 Z.vz Z.uX ["_law_bag_here","_law_many"] IQ:=by
 refine T.aK.F.ok fg (λvs H Q E h=>?_) (λcdv A outer s H vs Q E hr h=>?_)
 ·obtain ⟨p,n,rfl,_⟩:=h;rfl
 ·obtain ⟨p,n,rfl,⟨q,a,b,c,cs,hp,hq,ha,hc,hcl,hcs⟩,hn,hn2,k⟩:=h;have nqp:q≠p:=FD hp hq
  refine ⟨_,(fB (cy (aZ eB (aV bC (pv 0) aj) aj (bg _)) (au (aY (i:=2) fg.nd rfl (Or.inl rfl) aj)
   (fB (cy (aZ l8 (aV bC (pv 0) aj) (bq aX (by rfl) T.len aQ (ae (aV bC (pv 0) aj) ai)) (bg _)) (au (aY (i:=3) fg.nd rfl (Or.inl rfl) (aV bC (aV bC (pv 0) aj) (aV bC (pv 0) aj)))
   (au (Jq (pv 0) aj HI aj LG set_list)
   (au (cy (aZ zf (pv 3) aj (bg _)) (ay (dU (pv 3) (fk (pv 0) aj set_list))) bF)
   (ay (aY (i:=2) fg.nd rfl (Or.inl rfl) (bA eI (bA ka (pv 3) aj) aj)))))) bF)
   (ay (dU (bA ka (bA eI (bA cH (aV bC (pv 0) aj) aj) (pv 2)) aj) (fk (pv 0) aj set_list))))) bF)
   (au (cy (aZ qA (aV bC (pv 0) aj) aj (bg _)) (au (aY (i:=4) fg.nd rfl (Or.inl rfl) (bA ka (aV bC (pv 0) aj) (pv 1)))
   (au (dU (bA gK (aV bC (pv 0) aj) (pv 1)) (fk (pv 0) aj set_list))
   (ay (aW (pv 4))))) bF)
   (au (aY (i:=5) fg.nd rfl (Or.inl rfl) (bA ka (bA cH (aV bC (pv 0) aj) aj) aj))
   (au (aY (i:=6) fg.nd rfl (Or.inl rfl) (bA ka (bA cH (pv 5) aj) aj))
   (au (cy (aZ qA (pv 1) aj (bg _)) (ay (aW (bA ka (bA eI (bA cH (pv 6) aj) (pv 5)) (pv 1)))) bF)
   (ay (aW (bA ka (bA gK (pv 6) aj) (pv 1))))))))),?_⟩
  refine aT (σ:=[some (.ref p),some (.int n),none,none,none,none,none]) rfl ?_;refine ⟨λσ' H'=>∃(x y:Option V) (a' b' c':Int),σ'=[some (.ref p),some (.int n),x,y,none,none,none]/\H' p=some (.lst [.int a',.int b',.int c',.ref q])/\0<=a'/\0<=c'/\c'<=cs.length/\cC p H H',?_,?_⟩
  ·exists fq (λh0=>?_) (λh0=>?_)
   ·exists ⟨λσ' H'=>∃(m:Int) (y:Option V) (a' c':Int),σ'=[some (.ref p),some (.int n),some (.int m),y,none,none,none]/\H' p=some (.lst [.int a',.int b,.int c',.ref q])/\0<=a'/\0<=c'/\c'<=cs.length/\cC p H H',?_,?_⟩
    ·exists ⟨_,_,rfl,.inl (bD.of hq),?_⟩;exists fq (λh1=>?_) (λh1=>?_)
     ·have h1':c < cs.length:=by simpa using of_decide_eq_true h1
      obtain ⟨z,hz⟩:∃z,cs[c.toNat]?=some z:=⟨_,af (by lia)⟩;have hz0:0<=z:=hcs z (ao hz);exists bV (bD.of hq) (v:=.int z) ?_ ?_
      ·have:=cX (xs:=cs.map V.int) (j:=c.toNat) (v:=.int z) (by rw[aB,hz];rfl);rwa [Int.toNat_of_nonneg hc] at this
      exists fq (λh2=>?_) (λh2=>?_)
      ·exists ⟨_,_,z,c+1,rfl,aG,hz0,by lia,by lia,(cC.set hp).trans (cC.set aG)⟩
      ·exists ⟨_,_,a,c+1,rfl,aG,ha,by lia,by lia,cC.set hp⟩
     ·exists ⟨_,_,a,c,rfl,hp,ha,hc,hcl,cC.refl _⟩
    ·rintro σ' H' ⟨m,y,a',c',rfl,hp',ha',hc',hcl',u'⟩;exists ⟨_,_,a',_,c',rfl,aG,ha',hc',hcl',u'.trans (cC.set hp')⟩
   ·exists ⟨_,_,a,b,c,rfl,hp,ha,hc,hcl,cC.refl _⟩
  ·rintro σ' H' ⟨x,y,a',b',c',rfl,hp',ha',hc',hcl',u'⟩;have hq':H' q=some (.lst (cs.map V.int)):=u'.1 q _ hq nqp
   have sn:Sz 8999 n:=by
    show n.natAbs < 2^8999
    exact ba (show n.natAbs < 2^64 by lia) (aw (by decide) (by decide))
   exists fq (λh0=>?_) (λh0=>?_)
   ·exists fj (show (0:Int) < n from hn) ?_;exists fj (show mI _ _ from ⟨by lia,sn⟩) ?_;exists k _ _ (jZ _ (by lia)) (gP _ hn) ⟨q,_,b',c',cs,aG,by rw[a9 nqp];exact hq',?_,hc',hcl',hcs⟩ (u'.trans (cC.set hp'));rw[b7 _ (by lia)];exact Int.ediv_nonneg ha' (by lia)
   ·exists fq (λh1=>?_) (λh1=>?_)
    ·exists fj (show (0:Int) < n from hn) ?_;exact k _ _ (jZ _ (by lia)) (gP _ hn) ⟨q,a',b',c',cs,hp',hq',ha',hc',hcl',hcs⟩ u'
    ·exists fj (show mI _ _ from ⟨by decide,by show (3:Nat) < 2^8999;exact ba (show 3 < 2^2 by decide) (aw (by decide) (by decide))⟩) ?_;exists fj (show (0:Int) < n from hn) ?_;exact k _ _ (jZ _ (by lia)) (gP _ hn) ⟨q,a',b',c',cs,hp',hq',ha',hc',hcl',hcs⟩ u'
theorem yM:∃x1 x2 x3 x4 x5 x6 x7 x8 x9 x10 x11 x12 x13 x14 x15 x16:Expr,x1=(Expr.Constant (Const.int 0) 0 ⟨273,16,273,17⟩)/\x2=(Expr.Constant (Const.int 1) 0 ⟨273,19,273,20⟩)/\x3=(Expr.Constant (Const.int 1) 0 ⟨273,22,273,23⟩)/\x4=(Expr.Constant (Const.int 1) 0 ⟨273,25,273,26⟩)/\x5=(Expr.Constant (Const.int 2) 0 ⟨273,28,273,29⟩)/\x6=(Expr.Constant (Const.int 2) 0 ⟨273,31,273,32⟩)/\x7=(Expr.Constant (Const.int 3) 0 ⟨273,34,273,35⟩)/\x8=(Expr.Constant (Const.int 4) 0 ⟨273,37,273,38⟩)/\x9=(Expr.Constant (Const.int 0) 0 ⟨274,17,274,18⟩)/\x10=(Expr.Constant (Const.int 1) 0 ⟨274,20,274,21⟩)/\x11=(Expr.Constant (Const.int 1) 0 ⟨274,23,274,24⟩)/\x12=(Expr.Constant (Const.int 1) 0 ⟨274,26,274,27⟩)/\x13=(Expr.Constant (Const.int 2) 0 ⟨274,29,274,30⟩)/\x14=(Expr.Constant (Const.int 2) 0 ⟨274,32,274,33⟩)/\x15=(Expr.Constant (Const.int 3) 0 ⟨274,35,274,36⟩)/\x16=(Expr.Constant (Const.int 4) 0 ⟨274,38,274,39⟩)/\fZ jS=[ (Stmt.Assign (targets:=[(Expr.Name "_law_n" ⟨270,4,270,10⟩)]) (value:=(Expr.Call (func:=(Expr.Name "_law_take" ⟨270,13,270,22⟩)) (args:=[ (Expr.Name "_law_bag_here" ⟨270,23,270,36⟩),(Expr.Constant (Const.int 5) 0 ⟨270,38,270,39⟩)]) (keywords:=[]) (pos:=⟨270,13,270,40⟩))) (pos:=⟨270,4,270,40⟩)),(Stmt.If (test:=(Expr.Compare (left:=(Expr.Call (func:=(Expr.Name "_law_take" ⟨271,7,271,16⟩)) (args:=[ (Expr.Name "_law_bag_here" ⟨271,17,271,30⟩),(Expr.Constant (Const.int 8) 0 ⟨271,32,271,33⟩)]) (keywords:=[]) (pos:=⟨271,7,271,34⟩))) (ops:=[PySem.CmpOp.Eq]) (comparators:=[(Expr.Constant (Const.int 7) 0 ⟨271,38,271,39⟩)]) (pos:=⟨271,7,271,39⟩))) (body:=[ (Stmt.Assign (targets:=[(Expr.Name "_law_n" ⟨272,8,272,14⟩)]) (value:=(Expr.Constant (Const.int 5) 0 ⟨272,17,272,18⟩)) (pos:=⟨272,8,272,18⟩))]) (orelse:=[]) (pos:=⟨271,4,272,18⟩)),(Stmt.Assign (targets:=[(Expr.Name "_law_ins" ⟨273,4,273,12⟩)]) (value:=(Expr.Subscript (value:=(Expr.List (elts:=[x1,x2,x3,x4,x5,x6,x7,x8]) (pos:=⟨273,15,273,39⟩))) (slice:=(Expr.Call (func:=(Expr.Name "_law_take" ⟨273,40,273,49⟩)) (args:=[ (Expr.Name "_law_bag_here" ⟨273,50,273,63⟩),(Expr.Constant (Const.int 8) 0 ⟨273,65,273,66⟩)]) (keywords:=[]) (pos:=⟨273,40,273,67⟩))) (pos:=⟨273,15,273,68⟩))) (pos:=⟨273,4,273,68⟩)),(Stmt.Assign (targets:=[(Expr.Name "_law_outs" ⟨274,4,274,13⟩)]) (value:=(Expr.Subscript (value:=(Expr.List (elts:=[x9,x10,x11,x12,x13,x14,x15,x16]) (pos:=⟨274,16,274,40⟩))) (slice:=(Expr.Call (func:=(Expr.Name "_law_take" ⟨274,41,274,50⟩)) (args:=[ (Expr.Name "_law_bag_here" ⟨274,51,274,64⟩),(Expr.Constant (Const.int 8) 0 ⟨274,66,274,67⟩)]) (keywords:=[]) (pos:=⟨274,41,274,68⟩))) (pos:=⟨274,16,274,69⟩))) (pos:=⟨274,4,274,69⟩)),(Stmt.If (test:=(Expr.Compare (left:=(Expr.Name "_law_n" ⟨275,7,275,13⟩)) (ops:=[PySem.CmpOp.Eq]) (comparators:=[(Expr.Constant (Const.int 5) 0 ⟨275,17,275,18⟩)]) (pos:=⟨275,7,275,18⟩))) (body:=[ (Stmt.Assign (targets:=[ (Expr.Tuple (elts:=[(Expr.Name "_law_ins" ⟨276,8,276,16⟩),(Expr.Name "_law_outs" ⟨276,18,276,27⟩)]) (k:=0) (pos:=⟨276,8,276,27⟩))]) (value:=(Expr.Tuple (elts:=[ (Expr.Call (func:=(Expr.Name "min" ⟨276,31,276,34⟩)) (args:=[ (Expr.Name "_law_ins" ⟨276,35,276,43⟩),(Expr.Constant (Const.int 2) 0 ⟨276,45,276,46⟩)]) (keywords:=[]) (pos:=⟨276,31,276,47⟩)),(Expr.Call (func:=(Expr.Name "min" ⟨276,49,276,52⟩)) (args:=[ (Expr.Name "_law_outs" ⟨276,53,276,62⟩),(Expr.Constant (Const.int 2) 0 ⟨276,64,276,65⟩)]) (keywords:=[]) (pos:=⟨276,49,276,66⟩))]) (k:=0) (pos:=⟨276,30,276,67⟩))) (pos:=⟨276,8,276,67⟩))]) (orelse:=[]) (pos:=⟨275,4,276,67⟩)),(Stmt.Assign (targets:=[(Expr.Name "_law_wide" ⟨277,4,277,13⟩)]) (value:=(Expr.Subscript (value:=(Expr.List (elts:=[ (Expr.Constant (Const.int 4) 0 ⟨277,17,277,18⟩),(Expr.Constant (Const.int 4) 0 ⟨277,20,277,21⟩),(Expr.Constant (Const.int 9) 0 ⟨277,23,277,24⟩),(Expr.Constant (Const.int 1000000) 0 ⟨277,26,277,33⟩)]) (pos:=⟨277,16,277,34⟩))) (slice:=(Expr.Call (func:=(Expr.Name "_law_take" ⟨277,35,277,44⟩)) (args:=[ (Expr.Name "_law_bag_here" ⟨277,45,277,58⟩),(Expr.Constant (Const.int 4) 0 ⟨277,60,277,61⟩)]) (keywords:=[]) (pos:=⟨277,35,277,62⟩))) (pos:=⟨277,16,277,63⟩))) (pos:=⟨277,4,277,63⟩)),(Stmt.If (test:=(Expr.Compare (left:=(Expr.Name "_law_wide" ⟨278,7,278,16⟩)) (ops:=[PySem.CmpOp.Gt]) (comparators:=[(Expr.Constant (Const.int 9) 0 ⟨278,19,278,20⟩)]) (pos:=⟨278,7,278,20⟩))) (body:=[ (Stmt.Assign (targets:=[(Expr.Name "_law_n" ⟨279,8,279,14⟩)]) (value:=(Expr.Call (func:=(Expr.Name "min" ⟨279,17,279,20⟩)) (args:=[ (Expr.Name "_law_n" ⟨279,21,279,27⟩),(Expr.Constant (Const.int 2) 0 ⟨279,29,279,30⟩)]) (keywords:=[]) (pos:=⟨279,17,279,31⟩))) (pos:=⟨279,8,279,31⟩))]) (orelse:=[]) (pos:=⟨278,4,279,31⟩)),(Stmt.Return (value:=(some (Expr.Tuple (elts:=[ (Expr.Name "_law_n" ⟨280,12,280,18⟩),(Expr.Name "_law_ins" ⟨280,20,280,28⟩),(Expr.Name "_law_outs" ⟨280,30,280,39⟩),(Expr.Name "_law_wide" ⟨280,41,280,50⟩)]) (k:=0) (pos:=⟨280,11,280,51⟩)))) (pos:=⟨280,4,280,51⟩))]:=⟨_,_,_,_,_,_,_,_,_,_,_,_,_,_,_,_,rfl,rfl,rfl,rfl,rfl,rfl,rfl,rfl,rfl,rfl,rfl,rfl,rfl,rfl,rfl,rfl,by with_unfolding_all rfl⟩
theorem dI:a7 ["_law_bag_here","_law_n","_law_ins","_law_outs","_law_wide"] ["_law_bag_here"] (aH jS):=by walk_at "d"
theorem yF (T:Txt K mg Z):cw P w K mg base fJ 2 Z.tI Z.sZ ["_law_bag_here"] EW:=by
 refine T.lN.F.ok dI (λvs H Q E h=>?_) (λcdv A outer s H vs Q E hr h=>?_)
 ·obtain ⟨b,rfl,_⟩:=h;rfl
 ·obtain ⟨b,rfl,hB,k⟩:=h;obtain ⟨x1,x2,x3,x4,x5,x6,x7,x8,x9,x10,x11,x12,x13,x14,x15,x16,hx1,hx2,hx3,hx4,hx5,hx6,hx7,hx8,hx9,hx10,hx11,hx12,hx13,hx14,hx15,hx16,hbd⟩:=yM;rw[hbd]
  refine ⟨_,(au (aY (i:=1) dI.nd rfl (Or.inl rfl) (cu (aP T) hr T.aK (ae (pv 0) (ae aj ai))))
   (fB (cy (aZ eB (cu (aP T) hr T.aK (ae (pv 0) (ae aj ai))) aj (bg _)) (ay (aY (i:=1) dI.nd rfl (Or.inl rfl) aj)) bF)
   (au (aY (i:=2) dI.nd rfl (Or.inl rfl) (aV bC (d7 (du hx1 aj (du hx2 aj (du hx3 aj (du hx4 aj (du hx5 aj (du hx6 aj (du hx7 aj (du hx8 aj ai))))))))) (cu (aP T) hr T.aK (ae (pv 0) (ae aj ai)))))
   (au (aY (i:=3) dI.nd rfl (Or.inl rfl) (aV bC (d7 (du hx9 aj (du hx10 aj (du hx11 aj (du hx12 aj (du hx13 aj (du hx14 aj (du hx15 aj (du hx16 aj ai))))))))) (cu (aP T) hr T.aK (ae (pv 0) (ae aj ai)))))
   (fB (cy (aZ eB (pv 1) aj (bg _)) (ay (GA (i:=2) (j:=3) rfl dI.nd rfl rfl (by decide) rfl rfl (ae (bq (qd rfl) (by rfl) T.min PyProof.Rows.boot_min (ae (pv 2) (ae aj ai))) (ae (bq (qd rfl) (by rfl) T.min PyProof.Rows.boot_min (ae (pv 3) (ae aj ai))) ai)) rfl)) bF)
   (au (aY (i:=4) dI.nd rfl (Or.inl rfl) (aV bC (d7 (ae aj (ae aj (ae aj (ae aj ai))))) (cu (aP T) hr T.aK (ae (pv 0) (ae aj ai)))))
   (fB (cy (aZ qA (pv 4) aj (bg _)) (ay (aY (i:=1) dI.nd rfl (Or.inl rfl) (bq (qd rfl) (by rfl) T.min PyProof.Rows.boot_min (ae (pv 1) (ae aj ai))))) bF)
   (ay (aW (cn (ae (pv 1) (ae (pv 2) (ae (pv 3) (ae (pv 4) ai)))))))))))))),?_⟩
  refine aT (σ:=[some (.ref b),none,none,none,none]) rfl ?_;exists ⟨b,5,rfl,hB,by decide,by decide,λn H1 n0 n1 B1 u1=>?_⟩;obtain ⟨n,rfl⟩:=bu n0;exists ⟨λσ' H'=>(∃n:Nat,σ'=[some (.ref b),some (.int n),none,none,none]/\n<=5)/\fD H' b/\cC b H H',?_,?_⟩
  ·exists ⟨b,8,rfl,B1,by decide,by decide,λv H2 v0 v1 B2 u2=>?_⟩;exists fq (λ_=>?_) (λ_=>?_)
   ·exists ⟨⟨5,rfl,by decide⟩,B2,u1.trans u2⟩
   ·exists ⟨⟨n,rfl,by lia⟩,B2,u1.trans u2⟩
  clear n0 n1 u1 B1;rintro σ' H1 ⟨⟨n,rfl,n5⟩,B1,u1⟩;exists dj λl0 H2 s2 n2 g2=>?_
  exists ⟨b,8,rfl,B1.same s2,by decide,by decide,λv H3 v0 v1 B3 u3=>?_⟩;have g3:=u3.other (λz=>B1.at (by rw[<- z];exact n2)) g2;obtain ⟨x,ex,mx,_⟩:=iM (xs:=[V.int 0,V.int 1,V.int 1,V.int 1,V.int 2,V.int 2,V.int 3,V.int 4]) v0 (by simpa using v1)
  obtain ⟨i,rfl,hi⟩:∃z:Nat,x=.int z/\z<=4:=by
   simp only[aD,aO,or_false] at mx;rcases mx with rfl | rfl | rfl | rfl | rfl | rfl | rfl | rfl
   ·exact ⟨0,rfl,by decide⟩
   ·exact ⟨1,rfl,by decide⟩
   ·exact ⟨1,rfl,by decide⟩
   ·exact ⟨1,rfl,by decide⟩
   ·exact ⟨2,rfl,by decide⟩
   ·exact ⟨2,rfl,by decide⟩
   ·exact ⟨3,rfl,by decide⟩
   ·exact ⟨4,rfl,by decide⟩
  exists bV (bD.of g3) ex ?_;clear ex mx g3 g2;exists dj λl1 H4 s4 n4 g4=>?_
  exists ⟨b,8,rfl,B3.same s4,by decide,by decide,λt H5 t0 t1 B5 u5=>?_⟩;have g5:=u5.other (λz=>B3.at (by rw[<- z];exact n4)) g4;obtain ⟨x,ex,mx,_⟩:=iM (xs:=[V.int 0,V.int 1,V.int 1,V.int 1,V.int 2,V.int 2,V.int 3,V.int 4]) t0 (by simpa using t1)
  obtain ⟨o,rfl,ho⟩:∃z:Nat,x=.int z/\z<=4:=by
   simp only[aD,aO,or_false] at mx;rcases mx with rfl | rfl | rfl | rfl | rfl | rfl | rfl | rfl
   ·exact ⟨0,rfl,by decide⟩
   ·exact ⟨1,rfl,by decide⟩
   ·exact ⟨1,rfl,by decide⟩
   ·exact ⟨1,rfl,by decide⟩
   ·exact ⟨2,rfl,by decide⟩
   ·exact ⟨2,rfl,by decide⟩
   ·exact ⟨3,rfl,by decide⟩
   ·exact ⟨4,rfl,by decide⟩
  exists bV (bD.of g5) ex ?_;clear ex mx g5 g4;have u15:=(((u1.same s2).trans u3).same s4).trans u5;exists ⟨λσ' H'=>(∃i o:Nat,σ'=[some (.ref b),some (.int n),some (.int i),some (.int o),none]/\i<=4/\o<=4/\(n=5->i<=2/\o<=2))/\fD H' b/\cC b H H',?_,?_⟩
  ·exists fq (λh0=>?_) (λh0=>?_)
   ·exists ⟨⟨min i 2,min o 2,?_,by lia,by lia,λ_=>⟨by lia,by lia⟩⟩,B5,u15⟩;have e1:(if (2:Int) < (i:Int) then (2:Int) else (i:Int))=((min i 2:Nat):Int):=by split <;> lia
    have e2:(if (2:Int) < (o:Int) then (2:Int) else (o:Int))=((min o 2:Nat):Int):=by split <;> lia
    rw[<- e1,<- e2];rfl
   ·exists ⟨⟨i,o,rfl,hi,ho,λz=>absurd (decide_eq_true (show (n:Int)=5 by lia)) h0⟩,B5,u15⟩
  clear hi ho u15 B5 u5 u3 u1;rintro σ' H5 ⟨⟨i,o,rfl,hi,ho,h5⟩,B5,u5⟩;exists dj λl2 H6 s6 n6 g6=>?_
  exists ⟨b,4,rfl,B5.same s6,by decide,by decide,λv H7 v0 v1 B7 u7=>?_⟩;have g7:=u7.other (λz=>B5.at (by rw[<- z];exact n6)) g6;obtain ⟨x,ex,mx,_⟩:=iM (xs:=[V.int 4,V.int 4,V.int 9,V.int 1000000]) v0 (by simpa using v1)
  obtain ⟨w,rfl,hw⟩:∃w:Nat,x=.int w/\(w=4\/w=9\/w=1000000):=by
   simp only[aD,aO,or_false] at mx;rcases mx with rfl | rfl | rfl | rfl
   ·exact ⟨4,rfl,.inl rfl⟩
   ·exact ⟨4,rfl,.inl rfl⟩
   ·exact ⟨9,rfl,.inr (.inl rfl)⟩
   ·exact ⟨1000000,rfl,.inr (.inr rfl)⟩
  exists bV (bD.of g7) ex ?_;have u07:=(u5.same s6).trans u7;exists ⟨λσ' H'=>(∃n:Nat,σ'=[some (.ref b),some (.int n),some (.int i),some (.int o),some (.int w)]/\n<=5/\(w=4\/w=9\/(w=1000000/\n<=2))/\(n=5->i<=2/\o<=2))/\fD H' b/\cC b H H',?_,?_⟩
  ·exists fq (λh0=>?_) (λh0=>?_)
   ·exists ⟨⟨min n 2,?_,by lia,by lia,λz=>by lia⟩,B7,u07⟩;have e1:(if (2:Int) < (n:Int) then (2:Int) else (n:Int))=((min n 2:Nat):Int):=by split <;> lia
    rw[<- e1];rfl
   ·exists ⟨⟨n,rfl,n5,?_,h5⟩,B7,u07⟩;rcases hw with z | z | z
    ·exact .inl z
    ·exact .inr (.inl z)
    ·exact absurd (decide_eq_true (show (9:Int) < (w:Int) by lia)) h0
  ·clear h5 n5;rintro σ' H8 ⟨⟨n',rfl,n5,hwn,h5⟩,B8,u8⟩;exists bN λr H9 s9 g9=>?_
   exact k r n' i o w H9 g9 n5 hi ho hwn h5 (B8.same s9) (u8.same s9)
theorem fV:a7 ["_law_bag_here","_law_n","_law_move_here","_law_at","_law_put","_law_first","_law_look"] ["_law_bag_here","_law_n"] (aH o6):=by walk_at "d"
theorem nk (T:Txt K mg Z):cw P w K mg base fJ 2 Z.vH Z.vg ["_law_bag_here","_law_n"] (BM K):=by
 refine T.iH.F.ok fV (λvs H Q E h=>?_) (λcdv A outer s H vs Q E hr h=>?_)
 ·obtain ⟨b,n,rfl,_⟩:=h;rfl
 ·obtain ⟨b,n,rfl,hB,n1,n8,k⟩:=h
  refine ⟨_,(au (gM 2 ["_law_i"] ["_law_n"] [1] fV.nd rfl rfl (bP rfl T.range (ae (pv 1) ai)) (λ_=>(aI (i:=0) (show ND9 ["_law_i","_law_n"] by decide +kernel) rfl (Or.inr rfl) (Or.inl rfl))) (λ_=>bW) (λ_=>(bT ["_law_j"] ["_law_i"] [0] (bP rfl T.range (ae (pv 1) ai)) (λ_=>(aI (i:=0) (show ND9 ["_law_j","_law_i"] by decide +kernel))) (λ_=>bW) (λ_=>(cn (ae (eS j3 (by rfl) T.int PyProof.Rows.boot_int (ae (gN eB (pv 0) (bA eI (pv 1) aj) (bg _)) ai)) (ae aj ai)))))))
   (au (dU (bT ["_law_j"] ["_law_bag_here"] [0] (bP rfl T.range (ae (pv 1) ai)) (λ_=>(aI (i:=0) (show ND9 ["_law_j","_law_bag_here"] by decide +kernel))) (λ_=>bW) (λ_=>(cn (ae (bA je (cu (aP T) hr T.aK (ae (pv 1) (ae aj ai))) aj) (ae aj ai))))) (fk (pv 2) (bA je (pv 1) aj) set_list))
   (au (aY (i:=3) fV.nd rfl (Or.inr rfl) (aV bC (d7 (ae (bA je (pv 1) aj) (ae (cu (aP T) hr T.aK (ae (pv 0) (ae (pv 1) ai))) ai))) (cu (aP T) hr T.aK (ae (pv 0) (ae aj ai)))))
   (au (aY (i:=4) fV.nd rfl (Or.inl rfl) (d7 (ae (bT ["_law_j"] ["_law_at"] [3] (bP rfl T.range (ae (pv 1) ai)) (λ_=>(aI (i:=0) (show ND9 ["_law_j","_law_at"] by decide +kernel))) (λ_=>bW) (λ_=>(cn (ae (eS j3 (by rfl) T.int PyProof.Rows.boot_int (ae (gN eB (pv 0) (pv 1) (bg _)) ai)) (ae aj ai))))) ai)))
   (au (aY (i:=5) fV.nd rfl (Or.inr rfl) (aV bC (d7 (ae aj (ae aj (ae (cu (aP T) hr T.aK (ae (pv 0) (ae (pv 1) ai))) ai)))) (cu (aP T) hr T.aK (ae (pv 0) (ae aj ai)))))
   (au (aY (i:=6) fV.nd rfl (Or.inl rfl) (d7 (ae (bT ["_law_j"] ["_law_first"] [5] (bP rfl T.range (ae (pv 1) ai)) (λ_=>(aI (i:=0) (show ND9 ["_law_j","_law_first"] by decide +kernel))) (λ_=>bW) (λ_=>(cn (ae (eS j3 (by rfl) T.int PyProof.Rows.boot_int (ae (gN eB (pv 0) (pv 1) (bg _)) ai)) (ae aj ai))))) ai)))
   (ay (aW (cn (ae (pv 2) (ae (pv 4) (ae (pv 6) ai)))))))))))),?_⟩
  refine aT (σ:=[some (.ref b),some (.int n),none,none,none,none,none]) rfl ?_
  have bit:∀{z:Int},∀y∈(List.range n).map (λ(j:Nat)=>(((if decide ((j:Int)=z)=true then 1 else 0:Int)):Rat)),Fr 1 1 y:=λy hy=>by
   obtain ⟨j,_,rfl⟩:=aA.mp hy;exact MD (by split <;> simp)
  exists ⟨by lia,by lia,?_⟩;refine eo (n:=n) (c4 K H) (λ(i:Nat)=>(List.range n).map λ(j:Nat)=>(((if decide ((j:Int)=(i:Int)+1)=true then 1 else 0:Int)):Rat)) (by lia) (λa b=>a.same b) ?_ ?_
  ·rintro i Hb NY NN hi sa k1;exists ⟨by lia,by lia,?_⟩;refine eo (n:=n) (bU K) (λ(j:Nat)=>(((if decide ((j:Int)=(i:Int)+1)=true then 1 else 0:Int)):Rat)) (by lia) (λa b=>a.same b) ?_ ?_
   ·rintro j Hz NY2 NN2 hj sz k2;exists bN λt Hy sy gy=>?_
    exact k2 _ _ sy (bU.mk gy rfl)
   ·rintro ys Hz t ht sz g pr nx;exact k1 _ _ sz ⟨t,rfl,sa.none ht,ys,g,pr⟩
  rintro ys H1 mm hm s1 g1 pr1 nx1;have G1:bK K H H1 mm ((List.range n).map λ(i:Nat)=>(List.range n).map λ(j:Nat)=>(((if decide ((j:Int)=(i:Int)+1)=true then 1 else 0:Int)):Rat)):=⟨ys,g1,pr1,iU nx1⟩;clear g1 pr1 nx1;have B1:=hB.same s1;have mb:mm≠b:=λz=>hB.at (by rw[<- z];exact hm)
  obtain ⟨q0,I0,xq,gq0⟩:=hB.inner;have mq:mm≠q0:=λz=>by rw[<- z,hm] at gq0;cases gq0
  exists ⟨by lia,by lia,?_⟩;refine p9 (n:=n) (b:=b) (bU K) (Fr 1 1) B1 (by lia) (λa u B=>a.upto u B) ?_ ?_
  ·rintro j Ha NY NN hj ua Ba k1;exists ⟨b,3,rfl,Ba,by decide,by decide,λv Hb v0 v1 Bb ub=>?_⟩;exists bN λt Hc sc gc=>?_
   exact k1 _ ((v - 1:Int):Rat) _ (ub.same sc) (Bb.same sc) (Fr.int (by lia)) (bU.mk gc rfl)
  rintro ys2 cs H2 q2 hq2 u2 B2 g2 lc hc pr2 _;have u02:=(s1.upto (p:=b)).trans u2;have nq2:H q2=none:=s1.none hq2;obtain ⟨us,gu,pu⟩:=(G1.upto u2 B1 mb hB.at).toE;have lu:=pu.length;rw[ag,bo] at lu
  have q2m:q2≠mm:=λz=>by
   obtain ⟨_,gg,_⟩:=id G1;rw[z,gg] at hq2;cases hq2
  walk_at "w";rw[show ((n:Int) - 1)=((n - 1:Nat):Int) by lia];refine dC gu (dY (by lia)) rfl ?_;have G3:bK K H (upd H2 mm (.lst (us.set (n - 1) (.ref q2)))) mm (((List.range n).map λ(i:Nat)=>(List.range n).map λ(j:Nat)=>(((if decide ((j:Int)=(i:Int)+1)=true then 1 else 0:Int)):Rat)).set (n - 1) cs):=bK.ofE aG (j8 (Paired.imp' (λ_ _ z=>lX.updL z gu (λq h=>h.2)) pu) (n - 1) ⟨q2,rfl,⟨nq2,q2m⟩,cM.updL ⟨ys2,g2,pr2⟩ gu q2m⟩) (λq h=>h.1) (λq h=>h.2);have B3:fD (upd H2 mm (.lst (us.set (n - 1) (.ref q2)))) b:=B2.upd (u02.2 _ I0) mb mq;have u03:cC b H (upd H2 mm (.lst (us.set (n - 1) (.ref q2)))):=u02.after hm;obtain ⟨mv,emv⟩:∃mv,mv=((List.range n).map λ(i:Nat)=>(List.range n).map λ(j:Nat)=>(((if decide ((j:Int)=(i:Int)+1)=true then 1 else 0:Int)):Rat)).set (n - 1) cs:=⟨_,rfl⟩;have lmv:mv.length=n:=by rw[emv,dA,ag,bo]
  have hmv:∀xs∈mv,xs.length=n/\∀y∈xs,Fr 1 1 y:=λxs hx=>by
   rw[emv] at hx;rcases bE hx with hx | rfl
   ·obtain ⟨i,_,rfl⟩:=aA.mp hx;exact ⟨by rw[ag,bo],bit⟩
   ·exact ⟨lc,hc⟩
  rw[<- emv] at G3;generalize upd H2 mm (.lst (us.set (n - 1) (.ref q2)))=H3 at G3 B3 u03 ⊢;clear emv pu gu G1 u2 pr2 g2 B2;exists ⟨b,n,rfl,B3,by lia,by lia,λa1 H4 a10 a11 B4 u4=>?_⟩;exists dj λl1 H5 s5 nl1 g5=>?_
  exists ⟨b,2,rfl,B4.same s5,by decide,by decide,λv H6 v0 v1 B6 u6=>?_⟩;have g6:=u6.other (λz=>B4.at (by rw[<- z];exact nl1)) g5;obtain ⟨x,ex,mx,_⟩:=iM (xs:=[V.int ((n:Int) - 1),V.int a1]) v0 (by simpa using v1)
  obtain ⟨at',rfl⟩:∃a:Int,x=.int a:=by
   simp only[aD,aO,or_false] at mx;rcases mx with rfl | rfl
   ·exact ⟨_,rfl⟩
   ·exact ⟨_,rfl⟩
  exists bV (bD.of g6) ex ?_;have u36:=(u4.same s5).trans u6;have G6:=G3.upto u36 B3 mb hB.at;have u06:=u03.trans u36;clear ex mx g6 g5 G3 u4 u6;exists ⟨by lia,by lia,?_⟩;refine eo (n:=n) (bU K) (λ(j:Nat)=>(((if decide ((j:Int)=at')=true then 1 else 0:Int)):Rat)) (by lia) (λa b=>a.same b) ?_ ?_
  ·rintro j Hz NY2 NN2 hj sz k2;exists bN λt Hy sy gy=>?_
   exact k2 _ _ sy (bU.mk gy rfl)
  rintro ys7 H7 q7 hq7 s7 g7 pr7 _;have R7:cM K H7 q7 _:=⟨ys7,g7,pr7⟩;exists dj λp8 H8 s8 n8' g8=>?_
  have s68:=s7.trans s8;have q78:q7≠p8:=λz=>by rw[z,n8'] at g7;cases g7
  have np8:H p8=none:=u06.none B6 (s7.none n8');have nq7:H q7=none:=u06.none B6 hq7
  have GP:bK K H H8 p8 [(List.range n).map λ(j:Nat)=>(((if decide ((j:Int)=at')=true then 1 else 0:Int)):Rat)]:=⟨_,g8,.cons ⟨q7,rfl,nq7,R7.same s8⟩ .nil,λz=>by
   rw[ck] at z;cases z;exact q78 rfl⟩
  have B8:=B6.same s68;have u08:=u06.same s68;have G8:=G6.same s68;have pb:p8≠b:=λz=>hB.at (by rw[<- z];exact np8)
  exists ⟨b,n,rfl,B8,by lia,by lia,λa2 H9 a20 a21 B9 u9=>?_⟩;exists dj λl2 Ha sa nl2 ga=>?_
  exists ⟨b,3,rfl,B9.same sa,by decide,by decide,λv' Hb v0' v1' Bb ub=>?_⟩;have gb:=ub.other (λz=>B9.at (by rw[<- z];exact nl2)) ga;obtain ⟨x,ex,mx,_⟩:=iM (xs:=[V.int 0,V.int 0,V.int a2]) v0' (by simpa using v1')
  obtain ⟨fi,rfl⟩:∃a:Int,x=.int a:=by
   simp only[aD,aO,or_false] at mx;rcases mx with rfl | rfl | rfl
   ·exact ⟨_,rfl⟩
   ·exact ⟨_,rfl⟩
   ·exact ⟨_,rfl⟩
  exists bV (bD.of gb) ex ?_;have u8b:=(u9.same sa).trans ub;have Gb:=G8.upto u8b B8 mb hB.at;have GPb:=GP.upto u8b B8 pb hB.at;have u0b:=u08.trans u8b;clear ex mx gb ga G8 GP u9 ub;exists ⟨by lia,by lia,?_⟩;refine eo (n:=n) (bU K) (λ(j:Nat)=>(((if decide ((j:Int)=fi)=true then 1 else 0:Int)):Rat)) (by lia) (λa b=>a.same b) ?_ ?_
  ·rintro j Hz NY2 NN2 hj sz k2;exists bN λt Hy sy gy=>?_
   exact k2 _ _ sy (bU.mk gy rfl)
  rintro ysc Hc qc hqc sc gc prc _;have Rc:cM K Hc qc _:=⟨ysc,gc,prc⟩;exists dj λpd Hd sd nd gd=>?_
  have sbd:=sc.trans sd;have qcd:qc≠pd:=λz=>by rw[z,nd] at gc;cases gc
  have npd:H pd=none:=u0b.none Bb (sc.none nd);have nqc:H qc=none:=u0b.none Bb hqc
  have GL:bK K H Hd pd [(List.range n).map λ(j:Nat)=>(((if decide ((j:Int)=fi)=true then 1 else 0:Int)):Rat)]:=⟨_,gd,.cons ⟨qc,rfl,nqc,Rc.same sd⟩ .nil,λz=>by
   rw[ck] at z;cases z;exact qcd rfl⟩
  exists bN λr He se ge=>?_
  have sbe:=sbd.trans se;refine k r mv _ _ He ⟨mm,p8,pd,ge,hm,np8,npd,Gb.same sbe,GPb.same sbe,GL.same se⟩ lmv rfl rfl ⟨by lia,by simp,by simp,λxs hx=>by rw[(hmv xs hx).1,lmv],λxs hx=>?_,λxs hx=>?_⟩ (λxs hx=>(hmv xs hx).2) (λxs hx=>?_) (λxs hx=>?_) (Bb.same sbe) (u0b.same sbe)
  ·rw[ck.mp hx,ag,bo,lmv]
  ·rw[ck.mp hx,ag,bo,lmv]
  ·rw[ck.mp hx];exact bit
  ·rw[ck.mp hx];exact bit
theorem kB:a7 ["_law_top","_law_bottom","_law_one","_law_other_here"] ["_law_top","_law_bottom"] (aH rD):=by walk_at "d"
theorem eZ (T:Txt K mg Z):cw P w K mg base fJ 1 Z.yq Z.yd ["_law_top","_law_bottom"] KP:=by
 refine T.dJ.F.ok kB (λvs H Q E h=>?_) (λcdv A outer s H vs Q E hr h=>?_)
 ·obtain ⟨t,b,rfl,_⟩:=h;rfl
 ·obtain ⟨t,b,rfl,hb,hs,k⟩:=h
  refine ⟨_,(au (aY (i:=2) kB.nd rfl (Or.inl rfl) (bq tD (by rfl) T.abs PyProof.Rows.boot_abs (ae (pv 0) ai)))
   (au (aY (i:=3) kB.nd rfl (Or.inl rfl) (pv 1))
   (au (Cf PassesOwn.never (aZ sL (pv 2) aj (bg _))
    (ay (GA (i:=2) (j:=3) rfl kB.nd rfl rfl (by decide) rfl rfl (ae (bA ka (pv 3) (pv 2)) (ae (pv 2) ai)) rfl)))
   (ay (aW (cn (ae (bA gK (pv 0) (pv 3)) (ae (bA gK (pv 1) (pv 3)) ai)))))))),?_⟩
  refine aT (σ:=[some (.int t),some (.int b),none,none]) rfl ?_;walk_at "w"
  refine DS (λσ' H'=>∃(u v:Int),σ'=[some (.int t),some (.int b),some (.int u),some (.int v)]/\H'=H/\0<=u/\0 < v/\Int.gcd u v=Int.gcd t b) (λσ' _=>match σ' with | [_,_,some (.int u),_]=>u.natAbs | _=>0) ⟨_,b,rfl,rfl,by split <;> lia,hb,by
   split
   ·rw[Int.neg_gcd]
   ·rfl⟩ ?_
  rintro σ' H' ⟨u,v,rfl,rfl,hu,hv,hg⟩;exists fq (λh=>?_) (λh=>?_)
  ·have hu0:u≠0:=λz=>by subst z;simp at h
   exists fj (show (0:Int) < u by lia) ?_;walk_at "w";have h1:=jZ v hu0;have h2:=gP v (show 0 < u by lia);exact ⟨⟨v % u,u,rfl,rfl,h1,by lia,by rw[jB,HL,jB];exact hg⟩,by show (v % u).natAbs < u.natAbs;lia⟩
  ·have hu0:u=0:=by
    by_cases z:u=0
    ·exact z
    ·exfalso;apply h;simp [z]
   subst hu0
   have e:v=g t b:=by
    unfold g;rw[<- hg,Int.gcd_zero_left]
    lia
   have hgs:Sz 8999 v:=hs.le (by
    rw[e];have h1:(g t b).natAbs=Int.gcd t b:=by unfold g;simp
    rw[h1];exact fM (by lia) (by have:=eG (a:=t) (b:=b);exact dN.mpr this |> λz=>by simpa using z))
   exists fj (show mI _ _ from ⟨by lia,hgs⟩) ?_;exists fj (show mI _ _ from ⟨by lia,hgs⟩) ?_;exists bN λr H' s' h'=>?_
   rw[b7 _ (by lia),b7 _ (by lia),e] at h';exact k r H' s' h'
theorem BW:a7 ["_law_one","_law_other_here"] ["_law_one","_law_other_here"] (aH rB):=by walk_at "d"
theorem kI (T:Txt K mg Z):cw P w K mg base fJ 2 Z.yo Z.ya ["_law_one","_law_other_here"] (oM K (λx y=>x+y)):=by
 refine T.gZ.F.ok BW (λvs H Q E h=>?_) (λcdv A outer s H vs Q E hr h=>?_)
 ·obtain ⟨p,q,a,b,c,d,rfl,hp,hq,hb,hd,sa,sb,sc,sd,k⟩:=EC h;rfl
 ·obtain ⟨p,q,a,b,c,d,rfl,hp,hq,hb,hd,sa,sb,sc,sd,k⟩:=EC h;refine ⟨_,(ay (aW (cu (eZ T) hr T.dJ (ae (bA eI (bA cH (aV bJ (pv 0) aj) (aV bJ (pv 1) aj)) (bA cH (aV bJ (pv 1) aj) (aV bJ (pv 0) aj))) (ae (bA cH (aV bJ (pv 0) aj) (aV bJ (pv 1) aj)) ai))))),?_⟩;refine aT (σ:=[some (.ref p),some (.ref q)]) rfl ?_;have hbd:0 < b*d:=iX hb hd;have sbd:Sz 8999 (b*d):=(sb.mul sd).mono (by decide);exists fj (show fR _ _ from .inr ⟨_,_,sa,sd,by decide⟩) ?_;exists fj (show fR _ _ from .inr ⟨_,_,sc,sb,by decide⟩) ?_;exists fj (show fR _ _ from .inr ⟨_,_,sb,sd,by decide⟩) ?_;walk_at "w";exists ⟨_,_,rfl,hbd,sbd,k⟩
theorem Ap:a7 ["_law_one","_law_other_here"] ["_law_one","_law_other_here"] (aH oY):=by walk_at "d"
theorem jU (T:Txt K mg Z):cw P w K mg base fJ 3 Z.vD Z.vb ["_law_one","_law_other_here"] (BI K):=by
 refine T.fX.F.ok Ap (λvs H Q E h=>?_) (λcdv A outer s H vs Q E hr h=>?_)
 ·obtain ⟨p,q,xs,ys,rfl,_⟩:=h;rfl
 ·obtain ⟨p,q,xs,ys,rfl,hp,hq,hl,hz,h1,h2,kk⟩:=h;refine ⟨_,(ay (aW (bT ["_law_k"] ["_law_one","_law_other_here"] [0,1] (bP rfl T.range (ae (bq aX (by rfl) T.len aQ (ae (pv 0) ai)) ai)) (λ_=>(aI (i:=0) (show ND9 ["_law_k","_law_one","_law_other_here"] by decide +kernel))) (λ_=>bW) (λ_=>(cu (kI T) hr T.gZ (ae (aV (fv K (by rfl)) (pv 1) (pv 0)) (ae (aV (fv K (by rfl)) (pv 2) (pv 0)) ai))))))),?_⟩;refine aT (σ:=[some (.ref p),some (.ref q)]) rfl ?_;obtain ⟨us,gu,qu⟩:=id hp;obtain ⟨ws,gw,qw⟩:=id hq;have lu:=qu.length;exists ⟨_,_,rfl,.inl (bD.of gu),?_⟩;exists ⟨by lia,by lia,?_⟩;refine eo (n:=us.length) (bU K) (λi=>xs.getD i 0+ys.getD i 0) (by lia) (λa b=>a.same b) ?_ ?_
  ·rintro i H' NY NN hi s k1;have ix:i < xs.length:=by lia
   have iy:i < ys.length:=by lia
   obtain ⟨vx,ex,nx⟩:=Bi (Paired.imp' (λ_ _ z=>z.same s) qu) ix;obtain ⟨vy,ey,ny⟩:=Bi (Paired.imp' (λ_ _ z=>z.same s) qw) iy;exists bV (bD.of (s _ _ gu)) ex ?_;exists bV (bD.of (s _ _ gw)) ey ?_;exists ⟨_,_,_,_,rfl,nx,ny,h1 _ (getD_mem ix),h2 _ (getD_mem iy),λr3 H3 s3 n3=>k1 _ _ s3 n3⟩
  ·rintro ys' H' l hl' s g pr nx;exact kk l H' hl' s ⟨ys',g,by rw[yQ (by lia)];rw[<- lu] at pr;exact pr⟩
theorem Ao:a7 ["_law_one","_law_other_here"] ["_law_one","_law_other_here"] (aH oX):=by walk_at "d"
theorem jT (T:Txt K mg Z):cw P w K mg base fJ 2 Z.vC Z.va ["_law_one","_law_other_here"] (oM K (λx y=>x*y)):=by
 refine T.fW.F.ok Ao (λvs H Q E h=>?_) (λcdv A outer s H vs Q E hr h=>?_)
 ·obtain ⟨p,q,a,b,c,d,rfl,hp,hq,hb,hd,sa,sb,sc,sd,k⟩:=Eg h;rfl
 ·obtain ⟨p,q,a,b,c,d,rfl,hp,hq,hb,hd,sa,sb,sc,sd,k⟩:=Eg h;refine ⟨_,(ay (aW (cu (eZ T) hr T.dJ (ae (bA cH (aV bJ (pv 0) aj) (aV bJ (pv 1) aj)) (ae (bA cH (aV bJ (pv 0) aj) (aV bJ (pv 1) aj)) ai))))),?_⟩;refine aT (σ:=[some (.ref p),some (.ref q)]) rfl ?_;have hbd:0 < b*d:=iX hb hd;have sbd:Sz 8999 (b*d):=(sb.mul sd).mono (by decide);exists fj (show fR _ _ from .inr ⟨_,_,sa,sc,by decide⟩) ?_;exists fj (show fR _ _ from .inr ⟨_,_,sb,sd,by decide⟩) ?_;walk_at "w";exists ⟨_,_,rfl,hbd,sbd,k⟩
theorem De:a7 ["_law_by_here","_law_row_here"] ["_law_by_here","_law_row_here"] (aH uj):=by walk_at "d"
theorem fo (T:Txt K mg Z):cw P w K mg base fJ 3 Z.zV Z.zF ["_law_by_here","_law_row_here"] (F7 K):=by
 refine T.dX.F.ok De (λvs H Q E h=>?_) (λcdv A outer s H vs Q E hr h=>?_)
 ·obtain ⟨u,q,c,ys,rfl,_⟩:=h;rfl
 ·obtain ⟨u,q,c,ys,rfl,hc,sc,hq,hz,h2,kk⟩:=h;refine ⟨_,(ay (aW (bT ["_law_one"] ["_law_by_here"] [0] (cb (pv 1)) (λ_=>(aI (i:=0) (show ND9 ["_law_one","_law_by_here"] by decide +kernel))) (λ_=>bW) (λ_=>(cu (jT T) hr T.fW (ae (pv 1) (ae (pv 0) ai))))))),?_⟩;refine aT (σ:=[some u,some (.ref q)]) rfl ?_;obtain ⟨us,gu,qu⟩:=id hq;exists ⟨⟨_,bD.of gu⟩,?_⟩;refine cW (K:=K) (F:=bU K) (bU K) (λy=>c*y) gu qu hz (λa b=>a.same b) (λa b=>a.same b) ?_ ?_
  ·rintro i y x H' NY NN en s hx k;exists ⟨_,_,_,_,rfl,hc.same s,hx,sc,h2 y (ao en),λr H2 s2 h2'=>k _ _ s2 h2'⟩
  ·rintro ys' H' r hr s g pr nx;exact kk r H' hr s ⟨ys',g,pr⟩
theorem di:a7 ["_law_bag_here","_law_move_here","_law_put","_law_look","_law_n","_law_turn","_law_i","_law_j","_law_by_here","_law_less_here","_law_row_here"] ["_law_bag_here","_law_move_here","_law_put","_law_look"] (aH mX):=by walk_at "d"
theorem qC (T:Txt K mg Z):cw P w K mg base fJ 4 Z.tL Z.tm ["_law_bag_here","_law_move_here","_law_put","_law_look"] (yZ K):=by
 refine T.jv.F.ok di (λvs H Q E h=>?_) (λcdv A outer s H vs Q E hr h=>?_)
 ·obtain ⟨b,m,p,l,q0,n,WV,μ,A,us,ws,vs,rfl,_⟩:=h;rfl
 ·obtain ⟨b,m,p,l,q0,n,WV,μ,A,us,ws,vs,rfl,MA,X,n8,i4,o4,M0,M1,⟨M,eM⟩,V1,hA,k⟩:=h
  refine ⟨_,(au (aY (i:=4) di.nd rfl (Or.inl rfl) (bq aX (by rfl) T.len aQ (ae (pv 1) ai)))
   (au (cy (PW.pt (lZ (aZ l8 (pv 4) aj (bg _)) (ja (aZ eB (cu (aP T) hr T.aK (ae (pv 0) (ae aj ai))) aj (bg _))))) (ay (aW (cn (ae (pv 1) (ae (pv 2) (ae (pv 3) ai)))))) bF)
   (au (dD PassesOwn.never rfl (bP rfl T.range (ae (bA eI aj (cu (aP T) hr T.aK (ae (pv 0) (ae aj ai)))) ai)) (aI (i:=5) di.nd)
    (au (aY (i:=6) di.nd rfl (Or.inl rfl) (cu (aP T) hr T.aK (ae (pv 0) (ae (pv 4) ai))))
   (au (aY (i:=7) di.nd rfl (Or.inl rfl) (bA ka (bA eI (bA eI (pv 6) aj) (cu (aP T) hr T.aK (ae (pv 0) (ae (bA je (pv 4) aj) ai)))) (pv 4)))
   (au (aY (i:=8) di.nd rfl (Or.inl rfl) (cn (ae (aV bC (d7 (ae aj (ae (Cj wL aj) (ae aj (ae (Cj wL aj) ai))))) (cu (aP T) hr T.aK (ae (pv 0) (ae aj ai)))) (ae aj ai))))
   (au (aY (i:=9) di.nd rfl (Or.inl rfl) (cn (ae (bA je aj (aV bJ (pv 8) aj)) (ae aj ai))))
   (au (dU (cu (jU T) hr T.fX (ae (aV bC (pv 1) (pv 6)) (ae (cu (fo T) hr T.dX (ae (pv 8) (ae (aV bC (pv 1) (pv 7)) ai))) ai))) (fk (pv 1) (pv 6) set_list))
   (au (dD PassesOwn.never rfl (cb (bA m8 (pv 1) (pv 3))) (aI (i:=10) di.nd)
    (ay (dU (cu (kI T) hr T.gZ (ae (aV bC (pv 10) (pv 7)) (ae (cu (jT T) hr T.fW (ae (pv 9) (ae (aV bC (pv 10) (pv 6)) ai))) ai))) (fk (pv 10) (pv 7) set_list))))
   (ay (dD PassesOwn.never rfl (cb (pv 2)) (aI (i:=10) di.nd)
    (ay (dU (cu (kI T) hr T.gZ (ae (aV bC (pv 10) (pv 6)) (ae (cu (jT T) hr T.fW (ae (pv 8) (ae (aV bC (pv 10) (pv 7)) ai))) ai))) (fk (pv 10) (pv 6) set_list))))))))))))
   (ay (aW (cn (ae (pv 1) (ae (pv 2) (ae (pv 3) ai))))))))),?_⟩
  refine aT (σ:=[some (.ref b),some (.ref m),some (.ref p),some (.ref l),none,none,none,none,none,none,none]) rfl ?_;have done:∀r us' H' t,t<=3->H' r=some (.tup [.ref m,.ref p,.ref l])->iQ K A H' n (λx=>Fr (μ x) (9^t*WV)) m p l b q0 us' ws vs->gB A b m H H'->Q (.ref r) H':=λr us' H' t ht g x kp=>k r us' H' g (x.weak λ_ _ y h=>h.mono (aN _ (aw (by decide) ht))) kp
  have X0:iQ K A H n (λx=>Fr (μ x) (9^0*WV)) m p l b q0 us ws vs:=X.weak λ_ _ y h=>h.mono (by simp)
  clear X k;have gu:=X0.gm;have lu:=X0.lm;exists ⟨_,_,rfl,.inl (bD.of gu),?_⟩;rw[lu];clear gu lu;have kp0:gB A b m H H:=λ_ _ h _ _ _=>h
  exists fq (λh0=>?_) (λh0=>?_)
  ·exists bN λr H' s' g'=>?_
   exact done r us H' 0 (by decide) g' (X0.same s') (kp0.same s')
  have n2:2<=n:=by
   rcases gO n 2 with z | z
   ·exact absurd (decide_eq_true (show (n:Int) < 2 by lia)) h0
   ·exact z
  exists ⟨b,2,rfl,X0.bag,by decide,by decide,λv H1 v0 v1 B1 u1=>?_⟩;have X1:=X0.upto MA u1 B1;have kp1:=kp0.upto u1;exists fq (λh1=>?_) (λh1=>?_)
  ·exists bN λr H' s' g'=>?_
   exact done r us H' 0 (by decide) g' (X1.same s') (kp1.same s')
  exists ⟨b,3,rfl,B1,by decide,by decide,λc H2 c0 c1 B2 u2=>?_⟩;have X2:=X1.upto MA u2 B2;have kp2:=kp1.upto u2;clear X0 X1 kp0 kp1 u1 u2 B1;exists ⟨by lia,by lia,?_⟩;refine dg (n:=(1+c).toNat) (λt σ' H'=>∃(x1 x2 x3 x4 x5 x6:Option V) (us:List V),σ'=[some (.ref b),some (.ref m),some (.ref p),some (.ref l),some (.int n),x1,x2,x3,x4,x5,x6]/\iQ K A H' n (λx=>Fr (μ x) (9^t*WV)) m p l b q0 us ws vs/\gB A b m H H') ⟨none,none,none,none,none,none,us,rfl,X2,kp2⟩ ?_ ?_
  ·rintro t σ' H' ht ⟨x1,x2,x3,x4,x5,x6,us,rfl,X,kp⟩;have t3:t<=2:=by lia
   exists ⟨b,n,rfl,X.bag,by lia,by lia,λii Ha i0 i1 Ba ua=>?_⟩;obtain ⟨ii,rfl⟩:=bu i0;have Xa:=X.upto MA ua Ba;have kpa:=kp.upto ua;exists ⟨b,_,rfl,Ba,by lia,by lia,λd Hb d0 d1 Bb ub=>?_⟩;have Xb:=Xa.upto MA ub Bb;have kpb:=kpa.upto ub;exists fj (show (0:Int) < n by lia) ?_;have j0:=jZ ((ii:Int)+1+d) (show (n:Int)≠0 by lia);have j1:=gP ((ii:Int)+1+d) (show (0:Int) < n by lia);generalize ((ii:Int)+1+d) % (n:Int)=jj at j0 j1 ⊢;obtain ⟨jj,rfl⟩:=bu j0;exists dj λl0 Hc sc nc gc=>?_
   exists ⟨b,4,rfl,Bb.same sc,by decide,by decide,λv' Hd v0' v1' Bd ud=>?_⟩;have gd:=ud.other (λz=>Bb.at (by rw[<- z];exact nc)) gc;obtain ⟨x,ex,mx,_⟩:=iM (xs:=[V.int 1,V.int (-1),V.int 2,V.int (-2)]) v0' (by simpa using v1')
   obtain ⟨z,rfl,hz⟩:∃z:Int,x=.int z/\z.natAbs<=2:=by
    simp only[aD,aO,or_false] at mx;rcases mx with rfl | rfl | rfl | rfl
    ·exact ⟨1,rfl,by decide⟩
    ·exact ⟨-1,rfl,by decide⟩
    ·exact ⟨2,rfl,by decide⟩
    ·exact ⟨-2,rfl,by decide⟩
   have Xd:=(Xb.same sc).upto MA ud Bd;have kpd:=(kpb.same sc).upto ud;exists bV (bD.of gd) ex ?_;exists bN λbt He se ge=>?_
   exists bN λlt Hf sf gf=>?_
   have Xf:=(Xd.same se).same sf;have kpf:=(kpd.same se).same sf;have nb:bU K Hf ((z:Int):Rat) (.ref bt):=bU.mk (sf _ _ ge) rfl;have nl:bU K Hf ((0 - z:Int):Rat) (.ref lt):=bU.mk gf rfl;clear X Xa Xb Xd kp kpa kpb kpd ua ub ud sc gc gd ex mx ge gf se sf Ba Bb Bd nc;have gu:=Xf.gm;have lu:=Xf.lm
   have ru:∀x∈us,eN K A Hf n (Fr M (9^t*WV)) x:=λx hx=>by
    have:=Xf.row x (by simp [hx]);rwa [eM x (Xf.apart.1 x hx).1 (Xf.apart.1 x hx).2] at this
   have hM:0 < M/\M<=2^800:=by
    have hx:us[ii]'(by lia)∈us:=aS _;have:=eM _ (Xf.apart.1 _ hx).1 (Xf.apart.1 _ hx).2;rw[<- this];exact ⟨M0 _,M1 _⟩
   have e1:us[ii]?=some (us[ii]'(by lia)):=by simp
   have e2:us[jj]?=some (us[jj]'(by lia)):=by simp
   obtain ⟨q1,z1,qs1,w1,a1,g1,k1,p1,l1,c1⟩:=(ru _ (ao e1)).at;obtain ⟨q2,z2,qs2,w2,a2,g2,k2,p2,l2,c2⟩:=(ru _ (ao e2)).at;rw[w1] at e1;rw[w2] at e2;generalize eW:9^t*WV=W at *
   have W9:9*W<=2^140:=by rw[<- eW];exact Jr (by lia) V1 (by decide)
   have sz9M:∀{x:Rat} {U:Nat},U<=9*W->Fr M U x->ky x:=λhU h=>Es hM.1 hM.2 (ar hU W9) h
   have sz9:∀{x:Rat} {U:Nat} {v:V},U<=9*W->Fr (μ v) U x->ky x:=λhU h=>Es (M0 _) (M1 _) (ar hU W9) h
   exists bV (bD.of gu) (cX e1) ?_;exists bV (bD.of gu) (cX e2) ?_;exists ⟨_,q2,_,qs2,rfl,nb,Ac (by lia),⟨z2,g2,p2⟩,by lia,λy hy=>sz9M (by lia) (c2 y hy),λr1 Hg n1 sg R1=>?_⟩;exists ⟨q1,r1,qs1,_,rfl,⟨z1,sg _ _ g1,Paired.imp' (λ_ _ y=>y.same sg) p1⟩,R1,by rw[ag,l1,l2],by lia,λy hy=>sz9M (by lia) (c1 y hy),λy hy=>?_,λr2 Hh n2' sh R2=>?_⟩
   ·obtain ⟨y',hy',rfl⟩:=aA.mp hy;exact wQ hz (c2 y' hy') hM.1 hM.2 (by lia)
   have sfh:=sg.trans sh
   have new:V.ref r2∉us++vs++ws:=λz=>by
    obtain ⟨q',_,_,e',_,g',_⟩:=((Xf.same sg).row _ z).at;cases e';rw[n2'] at g';cases g'
   have Xh:=(Xf.same sfh).weak (C':=λx y=>(x∈ws->Fr (μ x) W y)/\Fr (μ x) (3*W) y) λx _ y h=>⟨λ_=>h,h.mono (by lia)⟩
   have kph:=kpf.same sfh;have guh:=sfh _ _ gu;have ar2:A r2:=(kpf.same sg).new hA (Xf.same sg).bag (by rw[sg _ _ gu];simp) n2'
   have rp2:eN K A Hh n (λy=>(V.ref r2∈ws->Fr (μ (.ref r2)) W y)/\Fr (μ (.ref r2)) (3*W) y) (.ref r2):=by
    rw[eM (.ref r2) (λz=>new (ax.mpr (.inr z))) (λz=>new (ax.mpr (.inl (ax.mpr (.inr z)))))];refine ⟨r2,_,rfl,ar2,R2,by rw[bG,ag];lia,λy hy=>⟨λz=>absurd (ax.mpr (.inr z)) new,?_⟩⟩;obtain ⟨j',hj',e⟩:=bZ hy;rw[iW,vO] at e;rw[<- e];exact AY hz (c1 _ (aS _)) (c2 _ (aS _))
   exists dC guh (dY (by lia)) rfl ?_;have Xi:=Xh.set MA rp2 new ii;have kpi:=kph.upd (o:=.lst (us.set ii (.ref r2))) (q:=m) (.inr rfl);have nli:bU K (upd Hh m (.lst (us.set ii (.ref r2)))) ((0 - z:Int):Rat) (.ref lt):=(nl.same sfh).updL guh;have nbi:bU K (upd Hh m (.lst (us.set ii (.ref r2)))) ((z:Int):Rat) (.ref bt):=(nb.same sfh).updL guh;generalize upd Hh m (.lst (us.set ii (.ref r2)))=Hi at Xi kpi nli nbi ⊢;generalize us.set ii (.ref r2)=um at Xi;clear nb nl Xf kpf gu ru e1 e2 g1 p1 g2 p2 R1 R2 Xh kph guh rp2 sg sh sfh new;have gm:=Xi.gm;have lm:=Xi.lm;have gl:=Xi.gl;have nd:=Xi.nd;obtain ⟨nd1,nd2,nd3⟩:=c6.mp nd;exists m6 gm gl (aR (bB (by lia))) λcl Hj sj nj gj=>?_
   have kpj:=kpi.same sj
   have rows:∀x∈um++vs,∀q,x=V.ref q->q≠cl:=λx hx q e y=>by
    obtain ⟨q',zs,_,e',_,g',_⟩:=(Xi.row x (ax.mpr (.inl hx))).at;rw[e] at e';cases e';rw[y,nj] at g';cases g'
   have Xj:=(Xi.same sj).weak (C':=λx y=>(x∈ws->Fr (μ x) W y)/\(x∈(um++vs).drop 0->Fr (μ x) (3*W) y)/\Fr (μ x) (9*W) y) λx _ y h=>⟨h.1,λ_=>h.2,h.2.mono (by lia)⟩
   have lj:bU K Hj ((0 - z:Int):Rat) (.ref lt):=nli.same sj;have bj:bU K Hj ((z:Int):Rat) (.ref bt):=nbi.same sj;clear Xi kpi nli nbi;refine ⟨_,rfl,⟨_,bD.of gj⟩,?_⟩;refine jH (K:=K) (a:=cl) (xs:=um++vs) (λs σ' H'=>∃x6:Option V,σ'=[some (.ref b),some (.ref m),some (.ref p),some (.ref l),some (.int n),some (.int t),some (.int ii),some (.int jj),some (.ref bt),some (.ref lt),x6]/\iQ K A H' n (λx y=>(x∈ws->Fr (μ x) W y)/\(x∈(um++vs).drop s->Fr (μ x) (3*W) y)/\Fr (μ x) (9*W) y) m p l b q0 um ws vs/\gB A b m H H'/\H' cl=some (.lst (um++vs))/\bU K H' ((0 - z:Int):Rat) (.ref lt)/\bU K H' ((z:Int):Rat) (.ref bt)) ⟨_,rfl,Xj,kpj,gj,lj,bj⟩ (λs σ' H' _ ⟨_,_,_,_,e,_⟩=>bD.of e) ?_ ?_
   ·rintro s x σ' Hk hx ⟨y6,rfl,Xk,kpk,gk,lk,bk⟩;have hs:s < (um++vs).length:=(aF.mp hx).1;have mx:=ao hx
    have xd:x∈(um++vs).drop s:=by
     rw[dH hs,(aF.mp hx).2];exact .head _
    have xd2:x∉(um++vs).drop (s+1):=λz=>by
     have:=nd1.sublist (List.drop_sublist s _);rw[dH hs,dw,(aF.mp hx).2] at this;exact this.1 z
    have xw:x∉ws:=λz=>nd3 x mx x z rfl
    have rx:=Xk.row x (ax.mpr (.inl mx));obtain ⟨q,zs,qs,rfl,aq,gq,lq,pq,lq2,cq⟩:=rx.at;have qcl:=rows _ mx q rfl;obtain ⟨vj,ej,nj'⟩:=Bi pq (j:=jj) (by lia);obtain ⟨vi,ei,ni'⟩:=Bi pq (j:=ii) (by lia);have cj:=(cq _ (getD_mem (xs:=qs) (i:=jj) (by lia))).2.1 xd;have ci:=(cq _ (getD_mem (xs:=qs) (i:=ii) (by lia))).2.1 xd;exists bV (bD.of gq) ej ?_;exists bV (bD.of gq) ei ?_;exists ⟨_,_,_,_,rfl,lk,ni',Ac (by lia),sz9 (by lia) ci,λr3 Hl sl n3=>?_⟩;exists ⟨_,_,_,_,rfl,nj'.same sl,n3,sz9 (by lia) cj,wQ (by lia) ci (M0 _) (M1 _) (by lia),λr4 Hm sm n4=>?_⟩;have slm:=sl.trans sm;exists dC (slm _ _ gq) (dY (by lia)) rfl ?_;refine ⟨_,rfl,?_,(kpk.same slm).upd (.inl aq),by rw[a9 qcl.symm];exact slm _ _ gk,(lk.same slm).updL (slm _ _ gq),(bk.same slm).updL (slm _ _ gq)⟩;refine ((Xk.same slm).weak λx' _ y h=>⟨h.1,λz=>h.2.1 ?_,h.2.2⟩).put MA aq (slm _ _ gq) n4 ⟨λz=>absurd z xw,λz=>absurd z xd2,?_⟩ jj
    ·rw[dH hs];exact .tail _ z
    ·exact (AY (by lia) cj ci).mono (by lia)
   ·rintro σ' Hk ⟨y6,rfl,Xk,kpk,gk,lk,bk⟩;have gp:=Xk.gp;have Xk2:=Xk.weak (C':=λx y=>(x∈ws.drop 0->Fr (μ x) W y)/\Fr (μ x) (9*W) y) λx _ y h=>⟨λz=>h.1 (by simpa using z),h.2.2⟩
    clear Xk;exists ⟨⟨_,bD.of gp⟩,?_⟩;refine jH (K:=K) (a:=p) (xs:=ws) (λs σ' H'=>∃x6:Option V,σ'=[some (.ref b),some (.ref m),some (.ref p),some (.ref l),some (.int n),some (.int t),some (.int ii),some (.int jj),some (.ref bt),some (.ref lt),x6]/\iQ K A H' n (λx y=>(x∈ws.drop s->Fr (μ x) W y)/\Fr (μ x) (9*W) y) m p l b q0 um ws vs/\gB A b m H H'/\bU K H' ((z:Int):Rat) (.ref bt)) ⟨_,rfl,Xk2,kpk,bk⟩ (λs σ' H' _ ⟨_,_,X,_⟩=>bD.of X.gp) ?_ ?_
    ·rintro s x σ' Hl hx ⟨w6,rfl,Xl,kpl,bl⟩;have hs:s < ws.length:=(aF.mp hx).1;have mx:=ao hx
     have xd:x∈ws.drop s:=by
      rw[dH hs,(aF.mp hx).2];exact .head _
     have xd2:x∉ws.drop (s+1):=λz=>by
      have:=nd2.sublist (List.drop_sublist s _);rw[dH hs,dw,(aF.mp hx).2] at this;exact this.1 z
     have rx:=Xl.row x (ax.mpr (.inr mx));obtain ⟨q,zs,qs,rfl,aq,gq,lq,pq,lq2,cq⟩:=rx.at;obtain ⟨vj,ej,nj'⟩:=Bi pq (j:=jj) (by lia);obtain ⟨vi,ei,ni'⟩:=Bi pq (j:=ii) (by lia);have cj:=(cq _ (getD_mem (xs:=qs) (i:=jj) (by lia))).1 xd;have ci:=(cq _ (getD_mem (xs:=qs) (i:=ii) (by lia))).1 xd;exists bV (bD.of gq) ei ?_;exists bV (bD.of gq) ej ?_;exists ⟨_,_,_,_,rfl,bl,nj',Ac (by lia),sz9 (by lia) cj,λr3 Hm sm n3=>?_⟩;exists ⟨_,_,_,_,rfl,ni'.same sm,n3,sz9 (by lia) ci,wQ (by lia) cj (M0 _) (M1 _) (by lia),λr4 Hn sn n4=>?_⟩;have smn:=sm.trans sn;exists dC (smn _ _ gq) (dY (by lia)) rfl ?_;refine ⟨_,rfl,?_,(kpl.same smn).upd (.inl aq),(bl.same smn).updL (smn _ _ gq)⟩;refine ((Xl.same smn).weak λx' _ y h=>⟨λz=>h.1 ?_,h.2⟩).put MA aq (smn _ _ gq) n4 ⟨λz=>absurd z xd2,?_⟩ ii
     ·rw[dH hs];exact .tail _ z
     ·exact (AY (by lia) ci cj).mono (by lia)
    ·rintro σ' Hl ⟨w6,rfl,Xl,kpl,bl⟩;refine ⟨_,_,_,_,_,_,um,rfl,Xl.weak λ_ _ y h=>h.2.mono ?_,kpl⟩;rw[<- eW,fF,cB (9^t) 9,cE];exact av _
  ·rintro σ' H' ⟨x1,x2,x3,x4,x5,x6,us',rfl,X,kp⟩;exists bN λr H2' s' g'=>?_
   exact done r us' H2' _ (by lia) g' (X.same s') (kp.same s')
theorem c5:a7 ["_law_bag_here","_law_one","_law_other_here","_law_ahead","_law_behind","_law_found","_law_k"] ["_law_bag_here"] (aH iZ):=by walk_at "d"
theorem sO (T:Txt K mg Z):cw P w K mg base fJ 5 Z.mE Z.my ["_law_bag_here"] (IP K):=by
 refine T.iG.F.ok c5 (λvs H Q E h=>?_) (λcdv A outer s H vs Q E hr h=>?_)
 ·obtain ⟨b,rfl,_⟩:=h;rfl
 ·obtain ⟨b,rfl,hB,k⟩:=h
  refine ⟨_,(au (aY (i:=1) c5.nd rfl (Or.inl rfl) (cu (nk T) hr T.iH (ae (pv 0) (ae aj ai))))
   (au (aY (i:=2) c5.nd rfl (Or.inl rfl) (cu (nk T) hr T.iH (ae (pv 0) (ae (bA eI aj (cu (aP T) hr T.aK (ae (pv 0) (ae aj ai)))) ai))))
   (au (aY (i:=3) c5.nd rfl (Or.inr rfl) (bA GI (d7 (ae (cn (ae aj (ae aj ai))) ai)) aj))
   (au (aY (i:=4) c5.nd rfl (Or.inr rfl) (bA GI (d7 (ae (cn (ae aj (ae aj ai))) ai)) (bq aX (by rfl) T.len aQ (ae (aV bJ (pv 2) aj) ai))))
   (au (aY (i:=5) c5.nd rfl (Or.inl rfl) (d7 ai))
   (au (dD PassesOwn.never rfl (bP rfl T.range (ae aj ai)) (aI (i:=6) c5.nd)
    (ay (kE (zd eF fL fK ma (pv 5) (ae (bA m8 (bT ["_law_row_here"] ["_law_behind"] [4] (cb (aV bJ (pv 1) (pv 6))) (λ_=>(aI (i:=0) (show ND9 ["_law_row_here","_law_behind"] by decide +kernel))) (λ_=>bW) (λ_=>(bA m8 (pv 0) (pv 1)))) (bT ["_law_row_here"] ["_law_ahead"] [3] (cb (aV bJ (pv 2) (pv 6))) (λ_=>(aI (i:=0) (show ND9 ["_law_row_here","_law_ahead"] by decide +kernel))) (λ_=>bW) (λ_=>(bA m8 (pv 1) (pv 0))))) ai)))))
   (ay (aW (cu (qC T) hr T.jv (ae (pv 0) (ae (aV bC (pv 5) aj) (ae (aV bC (pv 5) aj) (ae (aV bC (pv 5) aj) ai))))))))))))),?_⟩
  refine aT (σ:=[some (.ref b),none,none,none,none,none,none]) rfl ?_;obtain ⟨q0,I0,xq,gq0⟩:=hB.inner;exists ⟨b,3,rfl,hB,by decide,by decide,λr1 mv1 pt1 lk1 H1 P1 lm1 lp1 ll1 D1 fm1 fp1 fl1 B1 u1=>?_⟩;exists ⟨b,3,rfl,B1,by decide,by decide,λv H2 v0 v1 B2 u2=>?_⟩;obtain ⟨v,rfl⟩:=bu v0;have u02:=u1.trans u2;walk_at "w";rw[show ((3:Int)+(v:Int))=((3+v:Nat):Int) by lia];refine ⟨b,3+v,rfl,B2,by lia,by lia,λr2 mv2 pt2 lk2 H3 P2 lm2 lp2 ll2 D2 fm2 fp2 fl2 B3 u3=>?_⟩;have u03:=u02.trans u3;have P1c:=(P1.upto (u2.trans u3) B1 hB.at);have P2c:eh K H H3 r2 mv2 pt2 lk2:=P2.weak λq h=>u02.none B2 h
  exists bN λt0 H4 s4 g4=>?_
  exists dj λa1 H5 s5 n5 g5=>?_
  exists Gq (k:=3) g5 (by decide) λah H6 s6 n6 g6=>?_
  have s36:=(s4.trans s5).trans s6;obtain ⟨m1,p1,l1,gt1,m1n,p1n,l1n,Gm1,Gp1,Gl1⟩:=P1c.same s36;obtain ⟨m2,p2,l2,gt2,m2n,p2n,l2n,Gm2,Gp2,Gl2⟩:=P2c.same s36;have N0:bU K H6 0 (V.ref t0):=bU.mk (q:=0) ((s5.trans s6) _ _ g4) rfl;exists bN λt1 H7 s7 g7=>?_
  exists dj λa2 H8 s8 n8' g8=>?_
  have s68:=s7.trans s8;have gt2':=s68 _ _ gt2;obtain ⟨um2,gm2,qm2,_⟩:=id (Gm2.same s68);have lum2:=qm2.length;exists ⟨_,_,rfl,.inl (bD.of gm2),?_⟩;rw[<- lum2,lm2];exists Gq (k:=3+v) g8 (by lia) λbh H9 s9 n9 g9=>?_
  have s69:=s68.trans s9;have s39:=s36.trans s69;have N1:bU K H9 0 (V.ref t1):=bU.mk (q:=0) ((s8.trans s9) _ _ g7) rfl;have u09:=u03.same s39;have B9:=B3.same s39;have g6':=s69 _ _ g6;have N0':=N0.same s69;exists dj λfd H10 s10 n10 g10=>?_
  have X1:∀i:Nat,i < 3->∃q1 R1 q2 R2,[V.ref m1,V.ref p1,V.ref l1][i]?=some (V.ref q1)/\bK K H H9 q1 R1/\(∀xs∈R1,xs.length=3/\∀y∈xs,Fr 1 1 y)/\[V.ref m2,V.ref p2,V.ref l2][i]?=some (V.ref q2)/\bK K H H9 q2 R2/\(∀xs∈R2,xs.length=3+v/\∀y∈xs,Fr 1 1 y)/\R1.length<=100/\R2.length<=100/\[6+v,2,2][i]?=some (R1.length+R2.length):=λi hi=>by
   rcases (show i=0\/i=1\/i=2 by lia) with rfl | rfl | rfl
   ·exact ⟨m1,mv1,m2,mv2,rfl,Gm1.same s69,λxs hx=>⟨by rw[D1.mw xs hx,lm1],fm1 xs hx⟩,rfl,Gm2.same s69,λxs hx=>⟨by rw[D2.mw xs hx,lm2],fm2 xs hx⟩,by lia,by lia,by rw[lm1,lm2,show 3+(3+v)=6+v by lia];rfl⟩
   ·exact ⟨p1,pt1,p2,pt2,rfl,Gp1.same s69,λxs hx=>⟨by rw[D1.pw xs hx,lm1],fp1 xs hx⟩,rfl,Gp2.same s69,λxs hx=>⟨by rw[D2.pw xs hx,lm2],fp2 xs hx⟩,by lia,by lia,by rw[lp1,lp2];rfl⟩
   ·exact ⟨l1,lk1,l2,lk2,rfl,Gl1.same s69,λxs hx=>⟨by rw[D1.lw xs hx,lm1],fl1 xs hx⟩,rfl,Gl2.same s69,λxs hx=>⟨by rw[D2.lw xs hx,lm2],fl2 xs hx⟩,by lia,by lia,by rw[ll1,ll2];rfl⟩
  exists ⟨by decide,by decide,?_⟩;refine dg (n:=3) (λi σ' H'=>aE H9 H'/\∃x6 L,σ'=[some (.ref b),some (.ref r1),some (.ref r2),some (.ref ah),some (.ref bh),some (.ref fd),x6]/\NA K H9 H' (6+v) fd L/\L.length=i/\∀(j:Nat) (e:Addr×List V),L[j]?=some e->[6+v,2,2][j]?=some e.2.length) ⟨s10,none,[],rfl,⟨g10,n10,(λ_ z=>nomatch z),kW,(λ_ z=>nomatch z),kW⟩,rfl,λj e h=>by simp at h⟩ ?_ ?_
  ·rintro i σ' H' hi ⟨s',x6,L,rfl,T,lL,hL⟩;obtain ⟨q1,R1,q2,R2,e1,G1,w1,e2,G2,w2,b1,b2,hlen⟩:=X1 i hi;have gt1':=s' _ _ (s69 _ _ gt1);have gt2'':=s' _ _ (s69 _ _ gt2);obtain ⟨ux1,gx1,qx1,_⟩:=id (G1.same s');have gb:=s' _ _ g9;have ga:=s' _ _ g6';exists ⟨.inl ⟨rfl,_,bD.of T.gf⟩,?_⟩;exists Dj (kz.of gt1') (cX e1) ?_;exists ⟨⟨_,bD.of gx1⟩,?_⟩;refine zG (K:=K) (F:=c4 K H) (λH'' c x=>∃q,x=V.ref q/\cM K H'' q c) (λr=>r++List.replicate (3+v) 0) gx1 qx1 (by lia) (λa b=>a.same b) (λa b=>by obtain ⟨q,e,r⟩:=a;exact ⟨q,e,r.same b⟩) (λa=>by obtain ⟨q,e,_,gg,_⟩:=a;exact ⟨q,e,by rw[gg];exact λz=>nomatch z⟩) ?_ ?_
   ·rintro j ns x Hi NY NN en si ⟨q,rfl,_,zs,gz,qz⟩ k1;have ws:=(w1 ns (ao en)).1;have lz:=qz.length;exists m6 gz (si _ _ gb) (aR (bB (by rw[dM];lia))) λc Hj sj nj gj=>?_
    exact k1 _ _ sj ⟨c,rfl,_,gj,cx (Paired.imp' (λ_ _ z=>z.same sj) qz) (rH (((N1.same s').same si).same sj) _)⟩ ⟨c,rfl,nj⟩
   rintro ys1 Ha c1 hc1 sa ga1 nd1 ne1 pr1;obtain ⟨ux2,gx2,qx2,_⟩:=id ((G2.same s').same sa);have gt2a:=sa _ _ gt2'';exists Dj (kz.of gt2a) (cX e2) ?_;exists ⟨⟨_,bD.of gx2⟩,?_⟩;refine zG (K:=K) (F:=c4 K H) (λH'' c x=>∃q,x=V.ref q/\cM K H'' q c) (λr=>List.replicate 3 0++r) gx2 qx2 (by lia) (λa b=>a.same b) (λa b=>by obtain ⟨q,e,r⟩:=a;exact ⟨q,e,r.same b⟩) (λa=>by obtain ⟨q,e,_,gg,_⟩:=a;exact ⟨q,e,by rw[gg];exact λz=>nomatch z⟩) ?_ ?_
   ·rintro j ns x Hi NY NN en si ⟨q,rfl,_,zs,gz,qz⟩ k1;have ws:=(w2 ns (ao en)).1;have lz:=qz.length;exists m6 ((sa.trans si) _ _ ga) gz (aR (bB (by rw[dM];lia))) λc Hj sj nj gj=>?_
    exact k1 _ _ sj ⟨c,rfl,_,gj,cx (rH ((((N0'.same s').same sa).same si).same sj) _) (Paired.imp' (λ_ _ z=>z.same sj) qz)⟩ ⟨c,rfl,nj⟩
   rintro ys2 Hb c2 hc2 sb gb2 nd2 ne2 pr2;have sab:=sa.trans sb;have ly1:=pr1.length;have ly2:=pr2.length;rw[ag] at ly1 ly2;exists m6 (sb _ _ ga1) gb2 (aR (bB (by lia))) λqn Hc sc nc gc=>?_
   have sac:=sab.trans sc;have gfc:=sac _ _ T.gf;exists lY gfc (bB (by rw[ag];lia)) ?_
   have rP:∀{c:List Rat} {x:V},(∃q,x=V.ref q/\cM K Hb q c)->(∃q,x=V.ref q/\H' q=none)->c.length=6+v->(∀y∈c,Fr 1 1 y)->eN K (λz=>H' z=none/\z≠qn) Hc (6+v) (Fr 1 1) x:=λ⟨q,e,r⟩ ⟨q',e',nq⟩ hl hf=>by
    rw[e] at e';cases e';exact ⟨q,_,e,⟨nq,λz=>by obtain ⟨_,gg,_⟩:=r;rw[z,nc] at gg;cases gg⟩,r.same sc,hl,hf⟩
   refine ⟨(s'.trans sac).after n10,some (.int i),L++[(qn,ys1++ys2)],rfl,T.snoc s' sac (sab.none nc) gc ?_ (λx hx=>?_),by rw[az,cA,lL],λj e he=>?_⟩
   ·refine c6.mpr ⟨nd1,nd2,λx hx y hy z=>?_⟩;obtain ⟨_,_,q,e,_,gg,_⟩:=cJ pr1 hx;obtain ⟨q',e',nq,_⟩:=ne2 y hy;rw[<- z,e] at e';cases e';rw[nq] at gg;cases gg
   ·rcases ax.mp hx with hx | hx
    ·obtain ⟨c,mc,q,e,r⟩:=cJ pr1 hx;obtain ⟨ns,mn,rfl⟩:=aA.mp mc;obtain ⟨q',e',nq,_⟩:=ne1 x hx;refine rP ⟨q,e,r.same sb⟩ ⟨q',e',nq⟩ (by rw[az,dM,(w1 ns mn).1];lia) λy hy=>?_
     rcases ax.mp hy with hy | hy
     ·exact (w1 ns mn).2 y hy
     ·rw[(List.mem_replicate.mp hy).2];exact Fr.zero
    ·obtain ⟨c,mc,q,e,r⟩:=cJ pr2 hx;obtain ⟨ns,mn,rfl⟩:=aA.mp mc;obtain ⟨q',e',nq,_⟩:=ne2 x hx;refine rP ⟨q,e,r⟩ ⟨q',e',sa.none nq⟩ (by rw[az,dM,(w2 ns mn).1];lia) λy hy=>?_
     rcases ax.mp hy with hy | hy
     ·rw[(List.mem_replicate.mp hy).2];exact Fr.zero
     ·exact (w2 ns mn).2 y hy
   ·rcases gO j L.length with z | z
    ·rw[dG z] at he;exact hL j e he
    ·have hj:=(aF.mp he).1;rw[az,cA] at hj;have ej:j=L.length:=by lia
     subst ej;rw[cU (av _),Nat.sub_self] at he;cases he;rw[lL,hlen,az,ly1,ly2]
  ·rintro σ' H' ⟨s',x6,L,rfl,T,lL,hL⟩
   obtain ⟨⟨m,us⟩,⟨p,ws⟩,⟨l,vs⟩,rfl⟩:∃a b c,L=[a,b,c]:=by
    rcases L with _ | ⟨a,_ | ⟨b,_ | ⟨c,_ | ⟨d,L⟩⟩⟩⟩
    ·cases lL
    ·cases lL
    ·cases lL
    ·exact ⟨a,b,c,rfl⟩
    ·simp at lL
   have lu:us.length=6+v:=by have:=hL 0 _ rfl;simpa using this.symm
   have lw:ws.length=2:=by have:=hL 1 _ rfl;simpa using this.symm
   have lv:vs.length=2:=by have:=hL 2 _ rfl;simpa using this.symm
   have gf:=T.gf;obtain ⟨mn,mf,gm⟩:=T.ls (m,us) (by simp);obtain ⟨pn,pf,gp⟩:=T.ls (p,ws) (by simp);obtain ⟨ln,lf,gl⟩:=T.ls (l,vs) (by simp);have nd:=T.nd;have rw':=T.rows;have rd:=T.rd;clear T hL;have gf:H' fd=some (.lst [.ref m,.ref p,.ref l]):=gf;have nd:[m,p,l].Nodup:=nd;have rd:(us++(ws++(vs++[]))).Nodup:=rd;have u0':=u09.same s';have B':=B9.same s';have hm0:H m=none:=u09.none B9 mn;have hp0:H p=none:=u09.none B9 pn;have hl0:H l=none:=u09.none B9 ln;obtain ⟨A,eA⟩:∃A:Addr->Prop,A=λq=>H q=none/\q≠m/\q≠p/\q≠l:=⟨_,rfl⟩
   have mkA:∀{q},H q=none->q≠m->q≠p->q≠l->A q:=λh1 h2 h3 h4=>by rw[eA];exact ⟨h1,h2,h3,h4⟩
   have unA:∀{q},A q->H q=none/\q≠m/\q≠p/\q≠l:=λh=>by rw[eA] at h;exact h
   have nb:∀{q},H q=none->q≠b:=λh z=>hB.at (by rw[<- z];exact h)
   have MA:CP A m p l b q0:=⟨λz=>(unA z).2.1 rfl,λz=>(unA z).2.2.1 rfl,λz=>(unA z).2.2.2 rfl,λz=>hB.at (unA z).1,(λz=>by have z1:=(unA z).1;rw[gq0] at z1;cases z1),nb hm0,nb hp0,nb hl0,by intro z;subst z;simp at nd,by intro z;subst z;simp at nd,λz=>by rw[<- z,hm0] at gq0;cases gq0⟩;have X:iQ K A H' (6+v) (λ_=>Fr 1 1) m p l b q0 us ws vs:=⟨B',u0'.2 _ I0,gm,gp,gl,lu,λx hx=>?_,?_⟩
   ·exists ⟨b,m,p,l,q0,6+v,1,λ_=>1,A,us,ws,vs,rfl,MA,X,by lia,by lia,by lia,λ_=>Nat.zero_lt_one,λ_=>dP,⟨1,λ_ _ _=>rfl⟩,by decide,λq hq=>?_,λr us' H'' g Y kp=>?_⟩
    ·exact mkA (u0'.none B' hq) (λz=>by rw[z,gm] at hq;cases hq) (λz=>by rw[z,gp] at hq;cases hq) (λz=>by rw[z,gl] at hq;cases hq)
    ·obtain ⟨mv,Gm,lmv,hmv⟩:=jk (H0:=H) (n:=6+v) (C:=Fr 1 (9^3*1)) (m:=6+v) ⟨us',Y.gm,Y.lm,MA.am,λx hx=>Y.row x (by simp [hx])⟩ λq h=>(unA h).1
     obtain ⟨pt,Gp,lpt,hpt⟩:=jk (H0:=H) (n:=6+v) (C:=Fr 1 (9^3*1)) (m:=2) ⟨ws,Y.gp,lw,MA.ap,λx hx=>Y.row x (by simp [hx])⟩ λq h=>(unA h).1
     obtain ⟨lk,Gl,llk,hlk⟩:=jk (H0:=H) (n:=6+v) (C:=Fr 1 (9^3*1)) (m:=2) ⟨vs,Y.gl,lv,MA.al,λx hx=>Y.row x (by simp [hx])⟩ λq h=>(unA h).1
     refine k r mv pt lk H'' ⟨m,p,l,g,hm0,hp0,hl0,Gm,Gp,Gl⟩ (by lia) ⟨by lia,by lia,by lia,λxs hx=>by rw[(hmv xs hx).1,lmv],λxs hx=>by rw[(hpt xs hx).1,lmv],λxs hx=>by rw[(hlk xs hx).1,lmv]⟩ (λxs hx=>(hmv xs hx).2) (λxs hx=>(hpt xs hx).2) (λxs hx=>(hlk xs hx).2) Y.bag ⟨λc' u e n1=>kp c' u (u0'.1 _ _ e n1) n1 (λz=>by have:=(unA z).1;rw[e] at this;cases this) (λz=>by rw[z,hm0] at e;cases e),λq h=>by rw[<- Inner.inj I0 h];exact Y.inn⟩
   ·have hx:∃e∈[(m,us),(p,ws),(l,vs)],x∈e.2:=by
     rcases ax.mp hx with hx | hx
     ·rcases ax.mp hx with hx | hx
      ·exact ⟨(m,us),by simp,hx⟩
      ·exact ⟨(l,vs),by simp,hx⟩
     ·exact ⟨(p,ws),by simp,hx⟩
    obtain ⟨e,he,hx⟩:=hx;refine (rw' e he x hx).weak (λq hq=>?_) (λ_ w=>w);obtain ⟨⟨h1,_⟩,h2⟩:=hq;have h2:q∉[m,p,l]:=h2;simp only[aD,aO,or_false,not_or] at h2;exact mkA (u09.none B9 h1) h2.1 h2.2.1 h2.2.2
   ·rw[jY] at rd
    have e:(us++vs++ws).Perm (us++(ws++vs)):=by
     rw[bX];exact List.Perm.append_left _ List.perm_append_comm
    exact e.nodup_iff.mpr rd
theorem oN:a7 ["_law_bag_here","_law_wide","_law_way"] ["_law_bag_here","_law_wide"] (aH lh):=by walk_at "d"
theorem xF (T:Txt K mg Z):cw P w K mg base fJ 2 Z.qR Z.qI ["_law_bag_here","_law_wide"] (wX K):=by
 refine T.kh.F.ok oN (λvs H Q E h=>?_) (λcdv A outer s H vs Q E hr h=>?_)
 ·obtain ⟨b,w,rfl,_⟩:=h;rfl
 ·obtain ⟨b,w,rfl,hB,w0,w1,k⟩:=h
  refine ⟨_,(au (aY (i:=2) oN.nd rfl (Or.inl rfl) (cu (aP T) hr T.aK (ae (pv 0) (ae aj ai))))
   (au (cy (aZ l8 (pv 2) aj (bg _)) (ay (aW (cn (ae aj (ae aj ai))))) bF)
   (au (cy (aZ l8 (pv 2) aj (bg _)) (ay (aW (cn (ae (bA je (cu (aP T) hr T.aK (ae (pv 0) (ae aj ai))) aj) (ae aj ai))))) bF)
   (au (cy (aZ eB (pv 2) aj (bg _)) (ay (aW (cu (eZ T) hr T.dJ (ae (bA je (cu (aP T) hr T.aK (ae (pv 0) (ae aj ai))) aj) (ae (bA eI aj (cu (aP T) hr T.aK (ae (pv 0) (ae aj ai)))) ai))))) bF)
   (ay (aW (cu (eZ T) hr T.dJ (ae (bA je (cu (aP T) hr T.aK (ae (pv 0) (ae (bA eI (bA cH aj (pv 1)) aj) ai))) (pv 1)) (ae (bA eI aj (cu (aP T) hr T.aK (ae (pv 0) (ae (pv 1) ai)))) ai))))))))),?_⟩
  refine aT (σ:=[some (.ref b),some (.int w),none]) rfl ?_;exists ⟨b,8,rfl,hB,by decide,by decide,λv H1 v0 v1 B1 u1=>?_⟩;exists fq (λh0=>?_) (λh0=>?_)
  ·exists bN λr H2 s2 g2=>?_
   exact k r 0 _ ⟨bH _,by show 1<=_;lia⟩ (bU.mk g2 rfl) (B1.same s2) (u1.same s2)
  exists fq (λh1=>?_) (λh1=>?_)
  ·exists ⟨b,7,rfl,B1,by decide,by decide,λa H2 a0 a1 B2 u2=>?_⟩;exists bN λr H3 s3 g3=>?_
   exact k r ((a - 3:Int):Rat) _ ⟨by show (a - 3).natAbs<=_;lia,by show 1<=_;lia⟩ (bU.mk g3 rfl) (B2.same s3) ((u1.trans u2).same s3)
  exists fq (λh2=>?_) (λh2=>?_)
  ·exists ⟨b,13,rfl,B1,by decide,by decide,λa H2 a0 a1 B2 u2=>?_⟩;exists ⟨b,6,rfl,B2,by decide,by decide,λc H3 c0 c1 B3 u3=>?_⟩;exists ⟨_,_,rfl,by lia,(F0 (by lia)).mono (by decide),λr H4 s4 g4=>?_⟩;obtain ⟨q,e,d,_⟩:=GZ (t:=a - 6) (b:=1+c) (W:=max w 6) (by lia) (by lia) (by lia);exact k r q _ d (bU.mk g4 e) (B3.same s4) (((u1.trans u2).trans u3).same s4)
  exists ⟨b,_,rfl,B1,by lia,by lia,λa H2 a0 a1 B2 u2=>?_⟩;exists ⟨b,_,rfl,B2,by lia,by lia,λc H3 c0 c1 B3 u3=>?_⟩;exists ⟨_,_,rfl,by lia,(F0 (by lia)).mono (by decide),λr H4 s4 g4=>?_⟩;obtain ⟨q,e,d,_⟩:=GZ (t:=a - w) (b:=1+c) (W:=max w 6) (by lia) (by lia) (by lia);exact k r q _ d (bU.mk g4 e) (B3.same s4) (((u1.trans u2).trans u3).same s4)
theorem BX:a7 ["_law_bag_here","_law_many","_law_wide"] ["_law_bag_here","_law_many","_law_wide"] (aH rC):=by walk_at "d"
theorem jF (T:Txt K mg Z):cw P w K mg base fJ 3 Z.yp Z.yc ["_law_bag_here","_law_many","_law_wide"] (BR K):=by
 refine T.fe.F.ok BX (λvs H Q E h=>?_) (λcdv A outer s H vs Q E hr h=>?_)
 ·obtain ⟨b,m,w,rfl,_⟩:=h;rfl
 ·obtain ⟨b,m,w,rfl,hB,hm,w0,w1,k⟩:=h;refine ⟨_,(ay (aW (bT ["_law_k"] ["_law_bag_here","_law_wide"] [0,2] (bP rfl T.range (ae (pv 1) ai)) (λ_=>(aI (i:=0) (show ND9 ["_law_k","_law_bag_here","_law_wide"] by decide +kernel))) (λ_=>bW) (λ_=>(cu (xF T) hr T.kh (ae (pv 1) (ae (pv 2) ai))))))),?_⟩;refine aT (σ:=[some (.ref b),some (.int m),some (.int w)]) rfl ?_;exists ⟨by lia,by lia,?_⟩;refine p9 (n:=m) (bU K) (Dr (max w 6)) hB hm (λa u B=>a.upto u B) ?_ ?_
  ·rintro i H' NY NN hi u B k1;exists ⟨b,w,rfl,B,w0,w1,λr x H2 hx h2 B2 u2=>k1 _ x _ u2 B2 hx h2⟩
  ·rintro ys cs H' p hp u B g lc hc pr nx;exact k p cs H' hp ⟨ys,g,pr⟩ lc hc B u
theorem ip:a7 ["_law_bag_here","_law_n","_law_way","_law_first","_law_wide","_law_move_here","_law_i","_law_row_here","_law_j"] ["_law_bag_here","_law_n","_law_way","_law_first","_law_wide"] (aH o3):=by walk_at "d"
theorem AI (T:Txt K mg Z):cw P w K mg base fJ 4 Z.vF Z.ve ["_law_bag_here","_law_n","_law_way","_law_first","_law_wide"] (BL K):=by
 refine T.nN.F.ok ip (λvs H Q E h=>?_) (λcdv A outer s H vs Q E hr h=>?_)
 ·obtain ⟨b,n,w,way,first,rfl,_⟩:=h;rfl
 ·obtain ⟨b,n,w,way,first,rfl,hB,n8,w0,w1,k⟩:=h
  refine ⟨_,(au (aY (i:=5) ip.nd rfl (Or.inl rfl) (d7 ai))
   (au (dD PassesOwn.never rfl (bP rfl T.range (ae (pv 1) ai)) (aI (i:=6) ip.nd)
    (au (aY (i:=7) ip.nd rfl (Or.inl rfl) (cu (jF T) hr T.fe (ae (pv 0) (ae (pv 1) (ae (pv 4) ai)))))
   (au (dD PassesOwn.never rfl (bP rfl T.range (ae (pv 1) ai)) (aI (i:=8) ip.nd)
    (fB (cy (PW.pt (ir (aZ eB (pv 2) aj (bg _)) (jt (aZ qA (cu (aP T) hr T.aK (ae (pv 0) (ae aj ai))) aj (bg _))))) (ay (dU (cn (ae aj (ae aj ai))) (fk (pv 7) (pv 8) set_list))) bF)
   (fB (cy (PW.pt (ir (aZ eB (pv 2) aj (bg _)) (jt (aZ l8 (bA eI (pv 6) aj) (pv 1) (bg _))))) (ay (dU (cn (ae (eS j3 (by rfl) T.int PyProof.Rows.boot_int (ae (gN eB (pv 8) (bA eI (pv 6) aj) (bg _)) ai)) (ae aj ai))) (fk (pv 7) (pv 8) set_list))) bF)
   (fB (cy (PW.pt (lZ (PW.pt (ir (aZ eB (pv 2) aj (bg _)) (ir (aZ zf (pv 6) (pv 3) (bg _)) (jt (aZ l8 (pv 8) (pv 3) (bg _)))))) (ja (PW.pt (ir (aZ eB (pv 2) aj (bg _)) (ir (aZ l8 (pv 6) (pv 3) (bg _)) (jt (aZ zf (pv 8) (pv 3) (bg _))))))))) (ay (dU (cn (ae aj (ae aj ai))) (fk (pv 7) (pv 8) set_list))) bF)
   (ay (cy (aZ eB (pv 2) aj (bg _)) (ay (dU (cn (ae (bA cH (aV bC (d7 (ae aj (ae aj (ae (Cj wL aj) (ae aj ai))))) (bA ka (pv 3) aj)) (eS j3 (by rfl) T.int PyProof.Rows.boot_int (ae (gN eB (pv 6) (pv 8) (bg _)) ai))) (ae aj ai))) (fk (pv 7) (pv 8) set_list))) bF))))))
   (ay (kE (zd eF fL fK ma (pv 5) (ae (pv 7) ai)))))))
   (ay (aW (pv 5))))),?_⟩
  refine aT (σ:=[some (.ref b),some (.int n),some (.int way),some (.int first),some (.int w),none,none,none,none]) rfl ?_;have W1:1<=max w 6:=by lia
  exists dj λr H1 s1 n1 g1=>?_
  have rb:r≠b:=λz=>hB.at (by rw[<- z];exact n1)
  obtain ⟨q0,I0,xs0,gq0⟩:=hB.inner;have I1:Inner H1 b q0:=(s1.upto (p:=b)).2 _ I0;obtain ⟨A,eA⟩:∃A:Addr->Prop,A=λq=>H q=none/\q≠r:=⟨_,rfl⟩
  have nb:¬A b:=by rw[eA];exact λz=>hB.at z.1
  have nr:¬A r:=by rw[eA];exact λz=>z.2 rfl
  have nq:¬A q0:=by rw[eA];exact λz=>by have z1:=z.1;rw[gq0] at z1;cases z1
  have rq:r≠q0:=λz=>by rw[<- z,n1] at gq0;cases gq0
  exists ⟨by lia,by lia,?_⟩;refine dg (n:=n) (λi σ' H'=>∃(x1 x2 x3:Option V) (us:List V),σ'=[some (.ref b),some (.int n),some (.int way),some (.int first),some (.int w),some (.ref r),x1,x2,x3]/\H' r=some (.lst us)/\us.length=i/\us.Nodup/\(∀x∈us,eN K A H' n (Dr (max w 6)) x)/\fD H' b/\Inner H' b q0/\cC b H H') ⟨none,none,none,[],rfl,g1,rfl,kW,(λ_ z=>nomatch z),hB.same s1,I1,s1.upto⟩ ?_ ?_
  ·rintro i σ' H' hi ⟨x1,x2,x3,us,rfl,gu,lu,nd,ru,B',I',u'⟩;exists ⟨b,n,w,rfl,B',by lia,w0,w1,λp xs Ha np Ra la da Ba ua=>?_⟩;have hp0:H p=none:=u'.none B' np
   have pn:V.ref p∉us:=λz=>by
    obtain ⟨q',_,_,e',_,g',_⟩:=(ru _ z).at;cases e';rw[np] at g';cases g'
   have ap':H p=none/\p≠r:=⟨hp0,λz=>by rw[z,gu] at np;cases np⟩;have ap:A p:=by rw[eA];exact ap'
   have X0:EG K A n (Dr (max w 6)) r p b q0 us H Ha:=⟨ua.other rb gu,λx hx=>(ru x hx).upto ua B' nb,⟨p,xs,rfl,ap,Ra,la,da⟩,Ba,ua.2 _ I',u'.trans ua⟩;clear ru Ra gu;exists ⟨by lia,by lia,?_⟩;refine dg (n:=n) (λj σ' H'=>(∃x3,σ'=[some (.ref b),some (.int n),some (.int way),some (.int first),some (.int w),some (.ref r),some (.int i),some (.ref p),x3])/\EG K A n (Dr (max w 6)) r p b q0 us H H') ⟨⟨_,rfl⟩,X0⟩ ?_ ?_
   ·rintro j σ' Hj hj ⟨⟨x3,rfl⟩,X⟩;exists ⟨λσ' H'=>σ'=[some (.ref b),some (.int n),some (.int way),some (.int first),some (.int w),some (.ref r),some (.int i),some (.ref p),some (.int j)]/\EG K A n (Dr (max w 6)) r p b q0 us H H',?_,?_⟩
    ·exists fq (λ_=>?_) (λ_=>?_)
     ·exists ⟨b,3,rfl,X.bag,by decide,by decide,λd Hd d0 d1 Bd ud=>?_⟩;replace X:=X.upto ud Bd nb rb
      repeat' (first | walk_at "rd" | refine fq (λ_=>?_) (λ_=>?_))
      all_goals first
       | exact ⟨rfl,X⟩
       | (refine bN λt Hb sb gb=>?_;walk_at "w";obtain ⟨zs,gz,lz,Xz⟩:=(X.same sb).put ap nr nb nq hp0 (bU.mk (q:=0) gb rfl) (pG (i:=0) (bH _) W1) j;refine dC gz (dY (by lia)) rfl ?_;exact ⟨rfl,Xz⟩)
     ·exists ⟨rfl,X⟩
    clear X;rintro σ' Hj ⟨rfl,X⟩;refine ⟨λσ' H'=>σ'=[some (.ref b),some (.int n),some (.int way),some (.int first),some (.int w),some (.ref r),some (.int i),some (.ref p),some (.int j)]/\EG K A n (Dr (max w 6)) r p b q0 us H H',?_,?_⟩
    ·repeat' (first | walk_at "rd" | refine fq (λ_=>?_) (λ_=>?_))
     all_goals first
      | exact ⟨rfl,X⟩
      | (refine bN λt Hb sb gb=>?_;walk_at "w";obtain ⟨zs,gz,lz,Xz⟩:=(X.same sb).put ap nr nb nq hp0 (bU.mk (q:=((if decide ((j:Int)=(i:Int)+1)=true then (1:Int) else 0:Int):Rat)) gb rfl) (pG (by split <;> lia) W1) j;refine dC gz (dY (by lia)) rfl ?_;exact ⟨rfl,Xz⟩)
    clear X;rintro σ' Hj ⟨rfl,X⟩;refine ⟨λσ' H'=>σ'=[some (.ref b),some (.int n),some (.int way),some (.int first),some (.int w),some (.ref r),some (.int i),some (.ref p),some (.int j)]/\EG K A n (Dr (max w 6)) r p b q0 us H H',?_,?_⟩
    ·repeat' (first | walk_at "rd" | refine fq (λ_=>?_) (λ_=>?_))
     all_goals first
      | exact ⟨rfl,X⟩
      | (refine bN λt Hb sb gb=>?_;walk_at "w";obtain ⟨zs,gz,lz,Xz⟩:=(X.same sb).put ap nr nb nq hp0 (bU.mk (q:=0) gb rfl) (pG (i:=0) (bH _) W1) j;refine dC gz (dY (by lia)) rfl ?_;exact ⟨rfl,Xz⟩)
    clear X;rintro σ' Hj ⟨rfl,X⟩;exists fq (λ_=>?_) (λ_=>?_)
    ·exists dj λl0 Hc sc nc gc=>?_
     walk_at "w";obtain ⟨x,ex,mx,_⟩:=iM (xs:=[V.int 2,V.int 1,V.int (-1),V.int 0]) (i:=first % 4) (jZ _ (by decide)) (by have:=gP first (show (0:Int) < 4 by decide);simpa using this)
     obtain ⟨z,rfl,hz⟩:∃z:Int,x=.int z/\z.natAbs<=2:=by
      simp only[aD,aO,or_false] at mx;rcases mx with rfl | rfl | rfl | rfl
      ·exact ⟨2,rfl,by decide⟩
      ·exact ⟨1,rfl,by decide⟩
      ·exact ⟨-1,rfl,by decide⟩
      ·exact ⟨0,rfl,by decide⟩
     refine bV (bD.of gc) ex ?_;exists fj (A5 (by lia) (by lia)) ?_;exists bN λt Hb sb gb=>?_
     walk_at "w";obtain ⟨zs,gz,lz,Xz⟩:=((X.same sc).same sb).put ap nr nb nq hp0 (bU.mk (q:=((z*(if decide ((i:Int)=(j:Int))=true then (1:Int) else 0):Int):Rat)) gb rfl) (pG (by split <;> lia) W1) j;refine dC gz (dY (by lia)) rfl ?_;exact ⟨⟨_,rfl⟩,Xz⟩
    ·exists ⟨⟨_,rfl⟩,X⟩
   ·rintro σ' Hj ⟨⟨x3,rfl⟩,X⟩;exists ⟨.inl ⟨rfl,_,bD.of X.gr⟩,?_⟩;exists lY X.gr (bB (by lia)) ?_;refine ⟨_,_,_,us++[.ref p],rfl,aG,by simp [lu],nE nd pn,λx hx=>?_,X.bag.upd X.inn rb rq,X.inn.upd rb,X.up.after n1⟩;rcases ax.mp hx with hx | hx
    ·exact (X.ru x hx).other X.gr nr
    ·have e:x=V.ref p:=by simpa using hx
     rw[e];exact X.rp.other X.gr nr
  ·rintro σ' H' ⟨x1,x2,x3,us,rfl,gu,lu,nd,ru,B',I',u'⟩;exists k r us H' n1 gu lu nd (by rw[eA] at ru;exact ru) B' u'
theorem dh:a7 ["_law_bag_here","_law_n","_law_ins","_law_outs","_law_wide","_law_way","_law_first","_law_move_here","_law_put","_law_look","_law_k","_law_row_here"] ["_law_bag_here","_law_n","_law_ins","_law_outs","_law_wide"] (aH mV):=by walk_at "d"
theorem yG (T : Txt K mg Z) : cw P w K mg base fJ 5 Z.tJ Z.td ["_law_bag_here", "_law_n", "_law_ins", "_law_outs", "_law_wide"] (yX K) := by
  have kR := aP (P := P) (w := w) (base := base) T;have CQ := AI (P := P) (w := w) (base := base) T;have yw := jF (P := P) (w := w) (base := base) T;have Bf := qC (P := P) (w := w) (base := base) T;refine T.lO.F.ok dh (λvs H Q E h => ?_) (λcdv A outer s H vs Q E hr h => ?_)
  · obtain ⟨b, n, i, o, w, c, rfl, _⟩ := h;rfl
  · obtain ⟨b, n, i, o, w, c, rfl, hB, n8, i4, o4, w0, w1, hc, hc20, hcM, k⟩ := h
    refine ⟨_, (au (aY (i := 5) dh.nd rfl (Or.inl rfl) (cu kR hr T.aK (ae (pv 0) (ae aj ai))))
      (au (aY (i := 6) dh.nd rfl (Or.inl rfl) (cu kR hr T.aK (ae (pv 0) (ae (bA eI (pv 1) aj) ai))))
      (au (aY (i := 7) dh.nd rfl (Or.inl rfl) (cu CQ hr T.nN (ae (pv 0) (ae (pv 1) (ae (pv 5) (ae (pv 6) (ae (pv 4) ai)))))))
      (au (gM 8 ["_law_k"] ["_law_bag_here", "_law_n", "_law_wide"] [0, 1, 4] dh.nd rfl rfl (bP rfl T.range (ae (pv 2) ai)) (λ_ => (aI (i := 0) (show List.Nodup (α := PySem.Str) ["_law_k", "_law_bag_here", "_law_n", "_law_wide"] by decide +kernel))) (λ_ => bW) (λ_ => (cu yw hr T.fe (ae (pv 1) (ae (pv 2) (ae (pv 3) ai))))))
      (au (gM 9 ["_law_k"] ["_law_bag_here", "_law_n", "_law_wide"] [0, 1, 4] dh.nd rfl rfl (bP rfl T.range (ae (pv 3) ai)) (λ_ => (aI (i := 0) (show List.Nodup (α := PySem.Str) ["_law_k", "_law_bag_here", "_law_n", "_law_wide"] by decide +kernel))) (λ_ => bW) (λ_ => (cu yw hr T.fe (ae (pv 1) (ae (pv 2) (ae (pv 3) ai))))))
      (au (dD PassesOwn.never rfl (bP rfl T.range (ae (pv 1) ai)) (aI (i := 10) dh.nd)
        (au (dD PassesOwn.never rfl (cb (pv 8)) (aI (i := 11) dh.nd)
        (ay (cy (PW.pt (lZ (PW.pt (ir (aZ eB (pv 5) aj (bg _)) (jt (aZ zf (pv 10) (pv 6) (bg _))))) (ja (PW.pt (ir (aZ eB (pv 5) aj (bg _)) (ir (aZ l8 (bA eI (pv 10) aj) (pv 1) (bg _)) (jt (aZ eB (cu kR hr T.aK (ae (pv 0) (ae aj ai))) aj (bg _))))))))) (ay (dU (cn (ae aj (ae aj ai))) (fk (pv 11) (pv 10) set_list))) bF)))
      (ay (dD PassesOwn.never rfl (cb (pv 9)) (aI (i := 11) dh.nd)
        (ay (cy (PW.pt (lZ (PW.pt (ir (aZ eB (pv 5) aj (bg _)) (jt (aZ zf (pv 10) (pv 6) (bg _))))) (ja (PW.pt (ir (aZ eB (pv 5) aj (bg _)) (ir (aZ qA (pv 10) aj (bg _)) (jt (aZ eB (cu kR hr T.aK (ae (pv 0) (ae aj ai))) aj (bg _))))))))) (ay (dU (cn (ae aj (ae aj ai))) (fk (pv 11) (pv 10) set_list))) bF))))))
      (ay (aW (cu Bf hr T.jv (ae (pv 0) (ae (pv 7) (ae (pv 8) (ae (pv 9) ai))))))))))))), ?_⟩
    refine aT (σ := [some (.ref b), some (.int n), some (.int i), some (.int o), some (.int w), none, none, none, none, none, none, none]) rfl ?_;have W1 : 1 ≤ max w 6 := by lia
    obtain ⟨q0, I0, xs0, gq0⟩ := hB.inner;exists ⟨b, 6, rfl, hB, by decide, by decide, λway H1 a0 a1 B1 u1 => ?_⟩;exists ⟨b, _, rfl, B1, by lia, by lia, λfirst H2 f0 f1 B2 u2 => ?_⟩;have u02 := u1.trans u2;exists ⟨b, n, w, way, first, rfl, B2, n8, w0, w1, λm us H3 nm0 gm lm ndm rm B3 u3 => ?_⟩;have u03 := u02.trans u3;exists ⟨by lia, by lia, ?_⟩;refine zI (n := i) (b := b) (c4 K H3) (λxs => xs.length = n /\ ∀ x ∈ xs, Dr (max w 6) x) B3 (by lia) (λa u B => a.upto u B B3.at) (λ⟨q, e, _, _, g, _⟩ => ⟨q, e, by rw [g]; exact λz => nomatch z⟩) ?_ ?_
    · rintro s H' NY NN hi u B k1;exists ⟨b, n, w, rfl, B, by lia, w0, w1, λr xs H2 nr R lx dx B2 u2 => k1 _ xs _ u2 B2 ⟨lx, dx⟩ ⟨r, rfl, u.none B nr, R⟩ ⟨r, rfl, nr⟩⟩
    rintro ws puts H4 p np u4 B4 gp lp ndp hp pr4 nx4;have u04 := u03.trans u4;exists ⟨by lia, by lia, ?_⟩;refine zI (n := o) (b := b) (c4 K H4) (λxs => xs.length = n /\ ∀ x ∈ xs, Dr (max w 6) x) B4 (by lia) (λa u B => a.upto u B B4.at) (λ⟨q, e, _, _, g, _⟩ => ⟨q, e, by rw [g]; exact λz => nomatch z⟩) ?_ ?_
    · rintro s H' NY NN hi u B k1;exists ⟨b, n, w, rfl, B, by lia, w0, w1, λr xs H2 nr R lx dx B2 u2 => k1 _ xs _ u2 B2 ⟨lx, dx⟩ ⟨r, rfl, u.none B nr, R⟩ ⟨r, rfl, nr⟩⟩
    rintro vs looks H5 l nl u5 B5 gl ll ndl hl pr5 nx5;have u05 := u04.trans u5;have hm0 : H m = none := u02.none B2 nm0;have hp0 : H p = none := u03.none B3 np;have hl0 : H l = none := u04.none B4 nl;have mb : m ≠ b := λz => B2.at (by rw [<- z]; exact nm0)
    have pb : p ≠ b := λz => B3.at (by rw [<- z]; exact np)
    have lb : l ≠ b := λz => B4.at (by rw [<- z]; exact nl)
    have gm4 := u4.other mb gm;have gm5 := u5.other mb gm4;have gp5 := u5.other pb gp;have mp : m ≠ p := λz => by rw [z, np] at gm; cases gm
    have ml : m ≠ l := λz => by rw [z, nl] at gm4; cases gm4
    have pl : p ≠ l := λz => by rw [z, nl] at gp; cases gp
    have mq : m ≠ q0 := λz => Inner.at B2 (u02.2 _ I0) (by rw [<- z]; exact nm0)
    obtain ⟨A, eA⟩ : ∃ A : Addr → Prop, A = λq => H q = none /\ q ≠ m /\ q ≠ p /\ q ≠ l := ⟨_, rfl⟩
    have mkA : ∀ {q}, H q = none → q ≠ m → q ≠ p → q ≠ l → A q := λh1 h2 h3 h4 => by rw [eA]; exact ⟨h1, h2, h3, h4⟩
    have unA : ∀ {q}, A q → H q = none /\ q ≠ m /\ q ≠ p /\ q ≠ l := λh => by rw [eA] at h; exact h
    have MA : CP A m p l b q0 := ⟨λz => (unA z).2.1 rfl, λz => (unA z).2.2.1 rfl, λz => (unA z).2.2.2 rfl, λz => hB.at (unA z).1, (λz => by have z1 := (unA z).1; rw [gq0] at z1; cases z1), mb, pb, lb, mp, ml, mq⟩;clear eA;have lws : ws.length = i := by rw [<- pr4.length]; exact lp
    have lvs : vs.length = o := by rw [<- pr5.length]; exact ll
    have alM : ∀ q, V.ref q ∈ us → H3 q ≠ none /\ q ≠ b /\ H4 q ≠ none := λq hq => by
      obtain ⟨q', qs, e, ⟨a1, a2⟩, r, z⟩ := rm _ hq;cases e;have qb : q ≠ b := λy => B2.at (by rw [<- y]; exact a1)
      obtain ⟨xq, gq, _⟩ := id r;obtain ⟨xq4, gq4, _⟩ := r.upto u4 B3 qb;exact ⟨(by rw [gq]; exact λz => nomatch z), qb, (by rw [gq4]; exact λz => nomatch z)⟩
    have alP : ∀ q, V.ref q ∈ ws → H3 q = none /\ H4 q ≠ none := λq hq => by
      obtain ⟨_, _, q', e, a, _, g, _⟩ := cJ pr4 hq;cases e;exact ⟨a, by rw [g]; exact λz => nomatch z⟩
    have alL : ∀ q, V.ref q ∈ vs → H4 q = none := λq hq => by
      obtain ⟨_, _, q', e, a, _⟩ := cJ pr5 hq;cases e;exact a
    have isR : ∀ x, x ∈ us \/ x ∈ ws \/ x ∈ vs → ∃ q, x = V.ref q := λx hx => by
      rcases hx with hx | hx | hx
      · obtain ⟨q, _, e, _⟩ := rm x hx; exact ⟨q, e⟩
      · obtain ⟨_, _, q, e, _⟩ := cJ pr4 hx; exact ⟨q, e⟩
      · obtain ⟨_, _, q, e, _⟩ := cJ pr5 hx; exact ⟨q, e⟩
    have nd : (us ++ vs ++ ws).Nodup := by
      refine c6.mpr ⟨c6.mpr ⟨ndm, ndl, λx hx y hy e => ?_⟩, ndp, λx hx y hy e => ?_⟩
      · subst e;obtain ⟨q, rfl⟩ := isR x (.inl hx);exact (alM q hx).2.2 (alL q hy)
      · subst e;obtain ⟨q, rfl⟩ := isR x (.inr (.inl hy));rcases ax.mp hx with hx | hx
        · exact (alM q hx).1 (alP q hy).1
        · exact (alP q hy).2 (alL q hx)
    have X5 : DN K A n (Dr (max w 6)) m p l b q0 us ws vs H H5 := by
      refine ⟨⟨B5, u05.2 _ I0, gm5, gp5, gl, lm, λx hx => ?_, nd⟩, gp5, gl, λc u e n1 _ _ => u05.1 c u e n1⟩;rcases ax.mp hx with hx | hx
      · rcases ax.mp hx with hx | hx
        · obtain ⟨q, qs, e, ⟨a1, a2⟩, r, z⟩ := rm x hx;obtain ⟨xq, gq, _⟩ := id r;have qb : q ≠ b := λy => B2.at (by rw [<- y]; exact a1)
          have r4 := r.upto u4 B3 qb;obtain ⟨xq4, gq4, _⟩ := id r4;exact ⟨q, qs, e, mkA (u02.none B2 a1) a2 (λy => by rw [y, np] at gq; cases gq) (λy => by rw [y, nl] at gq4; cases gq4), r4.upto u5 B4 qb, z⟩
        · refine Gj (A := A) pr5 hl (λq hq a b' => ?_) x hx;exact mkA (u04.none B4 a) (λy => by rw [y, gm4] at a; cases a) (λy => by rw [y, gp] at a; cases a) (λy => iU nx5 (by rw [<- y]; exact hq))
      · refine eN.upto (Gj (A := A) pr4 hp (λq hq a b' => ?_) x hx) u5 B4 MA.ab;exact mkA (u03.none B3 a) (λy => by rw [y, gm] at a; cases a) (λy => iU nx4 (by rw [<- y]; exact hq)) (λy => b' (by rw [y]; exact nl))
    clear alM alP alL isR rm pr4 pr5 nx4 nx5 gm gm4 gm5 gp gp5 gl hp hl;exists ⟨by lia, by lia, ?_⟩;refine dg (n := n) (λkk σ' H' => (∃ x1 x2, σ' = [some (.ref b), some (.int n), some (.int i), some (.int o), some (.int w), some (.int way), some (.int first), some (.ref m), some (.ref p), some (.ref l), x1, x2]) /\ DN K A n (Dr (max w 6)) m p l b q0 us ws vs H H') ⟨⟨_, _, rfl⟩, X5⟩ ?_ ?_
    · rintro kk σ' Hj hk ⟨⟨x1, x2, rfl⟩, X⟩;exists ⟨⟨_, bD.of X.gp⟩, ?_⟩;refine jH (K := K) (a := p) (xs := ws) (λs σ' H' => (∃ x2, σ' = [some (.ref b), some (.int n), some (.int i), some (.int o), some (.int w), some (.int way), some (.int first), some (.ref m), some (.ref p), some (.ref l), some (.int kk), x2]) /\ DN K A n (Dr (max w 6)) m p l b q0 us ws vs H H') ⟨⟨_, rfl⟩, X⟩ (λs σ' H' _ ⟨_, e⟩ => bD.of e.gp) ?_ ?_
      · rintro s x σ' Hk hx ⟨⟨y2, rfl⟩, X⟩;have mx := ao hx;obtain ⟨q, _, rfl, _⟩ := X.row (.inl mx)
        repeat' (first | walk_at "rd" | refine fq (λ_ => ?_) (λ_ => ?_))
        all_goals first
          | exact ⟨⟨_, rfl⟩, X⟩
          | (refine bN λt Hb sb gb => ?_; walk_at "w"; obtain ⟨zs, gz, lz, Xz⟩ := (X.same sb).put MA (.inl mx) (bU.mk (q := 0) gb rfl) (pG (i := 0) (bH _) W1) kk; refine dC gz (dY (by lia)) rfl ?_; exact ⟨⟨_, rfl⟩, Xz⟩)
          | (refine ⟨b, 2, rfl, X.mix.bag, by decide, by decide, λd Hd d0 d1 Bd ud => ?_⟩
             replace X := X.upto MA ud Bd
             repeat' (first | walk_at "rd" | refine fq (λ_ => ?_) (λ_ => ?_))
             all_goals first
               | exact ⟨⟨_, rfl⟩, X⟩
               | (refine bN λt Hb sb gb => ?_
                  walk_at "w";obtain ⟨zs, gz, lz, Xz⟩ := (X.same sb).put MA (.inl mx) (bU.mk (q := 0) gb rfl) (pG (i := 0) (bH _) W1) kk;refine dC gz (dY (by lia)) rfl ?_;exact ⟨⟨_, rfl⟩, Xz⟩))
      · rintro σ' Hk ⟨⟨y2, rfl⟩, X⟩;exists ⟨⟨_, bD.of X.gl⟩, ?_⟩;refine jH (K := K) (a := l) (xs := vs) (λs σ' H' => (∃ x2, σ' = [some (.ref b), some (.int n), some (.int i), some (.int o), some (.int w), some (.int way), some (.int first), some (.ref m), some (.ref p), some (.ref l), some (.int kk), x2]) /\ DN K A n (Dr (max w 6)) m p l b q0 us ws vs H H') ⟨⟨_, rfl⟩, X⟩ (λs σ' H' _ ⟨_, e⟩ => bD.of e.gl) ?_ ?_
        · rintro s x σ' Hk hx ⟨⟨y2, rfl⟩, X⟩;have mx := ao hx;obtain ⟨q, _, rfl, _⟩ := X.row (.inr mx)
          repeat' (first | walk_at "rd" | refine fq (λ_ => ?_) (λ_ => ?_))
          all_goals first
            | exact ⟨⟨_, rfl⟩, X⟩
            | (refine bN λt Hb sb gb => ?_; walk_at "w"; obtain ⟨zs, gz, lz, Xz⟩ := (X.same sb).put MA (.inr mx) (bU.mk (q := 0) gb rfl) (pG (i := 0) (bH _) W1) kk; refine dC gz (dY (by lia)) rfl ?_; exact ⟨⟨_, rfl⟩, Xz⟩)
            | (refine ⟨b, 2, rfl, X.mix.bag, by decide, by decide, λd Hd d0 d1 Bd ud => ?_⟩
               replace X := X.upto MA ud Bd
               repeat' (first | walk_at "rd" | refine fq (λ_ => ?_) (λ_ => ?_))
               all_goals first
                 | exact ⟨⟨_, rfl⟩, X⟩
                 | (refine bN λt Hb sb gb => ?_
                    walk_at "w";obtain ⟨zs, gz, lz, Xz⟩ := (X.same sb).put MA (.inr mx) (bU.mk (q := 0) gb rfl) (pG (i := 0) (bH _) W1) kk;refine dC gz (dY (by lia)) rfl ?_;exact ⟨⟨_, rfl⟩, Xz⟩))
        · rintro σ' Hk ⟨⟨y2, rfl⟩, X⟩;exact ⟨⟨_, _, rfl⟩, X⟩
    · rintro σ' Hj ⟨⟨x1, x2, rfl⟩, X⟩
      obtain ⟨M1, M2, M3, V0, a1, a2, a3, V2, hcs, R1, R2, R3⟩ : ∃ M1 M2 M3 V0 : Nat, (0 < M1 /\ M1 ≤ 2 ^ 800) /\ (0 < M2 /\ M2 ≤ 2 ^ 800) /\ (0 < M3 /\ M3 ≤ 2 ^ 800) /\ V0 ≤ 2 ^ 20 /\ ((w ≤ 9 /\ M1 = 2520 /\ M2 = 2520 /\ M3 = 2520 /\ V0 = 9) \/ (9 < w /\ M1 ≤ 2 ^ (c * (n * n)) /\ M2 ≤ 2 ^ (c * (i * n)) /\ M3 ≤ 2 ^ (c * (o * n)) /\ V0 = 2 ^ c)) /\ (∀ x ∈ us, eN K A Hj n (Fr M1 V0) x) /\ (∀ x ∈ ws, eN K A Hj n (Fr M2 V0) x) /\ ∀ x ∈ vs, eN K A Hj n (Fr M3 V0) x := by
        by_cases w9 : w ≤ 9
        · have XM := X.mix.weak (C' := λ_ => Fr 2520 9) λ_ _ y h => A2 ⟨ar h.1 (by lia), ar h.2 (by lia)⟩ (EK _)
          have z : 0 < 2520 /\ 2520 ≤ 2 ^ 800 := ⟨by decide, ar (show 2520 ≤ 2 ^ 12 by decide) (aw (by decide) (by decide))⟩;exact ⟨2520, 2520, 2520, 9, z, z, z, by decide, .inl ⟨w9, rfl, rfl, rfl, rfl⟩, λx hx => XM.row x (by simp [hx]), λx hx => XM.row x (by simp [hx]), λx hx => XM.row x (by simp [hx])⟩
        · obtain ⟨M1, M2, M3, a1, a2, a3, b1, b2, b3, R1, R2, R3⟩ := (X.mix.weak (C' := λ_ => Dr (2 ^ c)) λ_ _ y h => ⟨ar h.1 hc, ar h.2 hc⟩).fr3;rw [lws] at b2;rw [lvs] at b3;have up : ∀ {M k : Nat}, M ≤ 2 ^ (c * k) → k ≤ (n + i + o) * n → M ≤ 2 ^ 800 := λh hk => ar h (aw (by decide) (ar (eL _ hk) hcM))
          exact ⟨M1, M2, M3, 2 ^ c, ⟨a1, up b1 (aN _ (by lia))⟩, ⟨a2, up b2 (aN _ (by lia))⟩, ⟨a3, up b3 (aN _ (by lia))⟩, aw (by decide) hc20, .inr ⟨by lia, b1, b2, b3, rfl⟩, R1, R2, R3⟩
      obtain ⟨μ, e2, e3, e1, e4⟩ := GS ws vs M1 M2 M3;obtain ⟨ap1, ap2⟩ := X.mix.apart
      have XM : iQ K A Hj n (λx => Fr (μ x) V0) m p l b q0 us ws vs := by
        refine ⟨X.mix.bag, X.mix.inn, X.mix.gm, X.mix.gp, X.mix.gl, X.mix.lm, λx hx => ?_, X.mix.nd⟩;rcases ax.mp hx with hx | hx
        · rcases ax.mp hx with hx | hx
          · rw [e1 x (ap1 x hx).1 (ap1 x hx).2]; exact R1 x hx
          · rw [e3 x hx (ap2 x hx)]; exact R3 x hx
        · rw [e2 x hx]; exact R2 x hx
      have p1 : ∀ x, 0 < μ x := λx => by
        rcases e4 x with e | e | e
        · rw [e]; exact a1.1
        · rw [e]; exact a2.1
        · rw [e]; exact a3.1
      have p2 : ∀ x, μ x ≤ 2 ^ 800 := λx => by
        rcases e4 x with e | e | e
        · rw [e]; exact a1.2
        · rw [e]; exact a2.2
        · rw [e]; exact a3.2
      have gmj := X.mix.gm;exists ⟨b, m, p, l, q0, n, V0, μ, A, us, ws, vs, rfl, MA, XM, n8, by lia, by lia, p1, p2, ⟨M1, e1⟩, V2, λq hq => ?_, λr us' H' g Y kp => ?_⟩
      · refine mkA ?_ (λz => by rw [z, gmj] at hq; cases hq) (λz => by rw [z, X.gp] at hq; cases hq) (λz => by rw [z, X.gl] at hq; cases hq);cases e : H q with
        | none => rfl
        | some u =>
          have := X.kp q u e (λz => X.mix.bag.at (by rw [<- z]; exact hq)) (λz => by have := (unA z).1; rw [e] at this; cases this) (λz => by rw [z, hm0] at e; cases e);rw [hq] at this; cases this
      · obtain ⟨yp1, yp2⟩ := Y.apart;obtain ⟨mv, Gm, lmv, hmv⟩ := jk (H0 := H) (n := n) (C := Fr M1 (9 ^ 3 * V0)) (m := n) ⟨us', Y.gm, Y.lm, MA.am, λx hx => by have := Y.row x (by simp [hx]); rwa [e1 x (yp1 x hx).1 (yp1 x hx).2] at this⟩ λq h => (unA h).1
        obtain ⟨pt, Gp, lpt, hpt⟩ := jk (H0 := H) (n := n) (C := Fr M2 (9 ^ 3 * V0)) (m := i) ⟨ws, Y.gp, lws, MA.ap, λx hx => by have := Y.row x (by simp [hx]); rwa [e2 x hx] at this⟩ λq h => (unA h).1
        obtain ⟨lk, Gl, llk, hlk⟩ := jk (H0 := H) (n := n) (C := Fr M3 (9 ^ 3 * V0)) (m := o) ⟨vs, Y.gl, lvs, MA.al, λx hx => by have := Y.row x (by simp [hx]); rwa [e3 x hx (yp2 x hx)] at this⟩ λq h => (unA h).1
        refine k r mv pt lk H' ⟨m, p, l, g, hm0, hp0, hl0, Gm, Gp, Gl⟩ lmv lpt llk ⟨by lia, by lia, by lia, λxs hx => by rw [(hmv xs hx).1, lmv], λxs hx => by rw [(hpt xs hx).1, lmv], λxs hx => by rw [(hlk xs hx).1, lmv]⟩ ⟨M1, M2, M3, 9 ^ 3 * V0, a1.1, a2.1, a3.1, λxs hx => (hmv xs hx).2, λxs hx => (hpt xs hx).2, λxs hx => (hlk xs hx).2, ?_⟩ Y.bag ⟨λc' u e n1 => (X.kp.trans kp) c' u e n1 (λz => by have := (unA z).1; rw [e] at this; cases this) (λz => by rw [z, hm0] at e; cases e), λq h => by rw [<- Inner.inj I0 h]; exact Y.inn⟩;rcases hcs with ⟨b1, b2, b3, b4, b5⟩ | ⟨b1, b2, b3, b4, b5⟩
        · exact .inl ⟨b1, b2, b3, b4, by rw [b5]⟩
        · exact .inr ⟨b1, b2, b3, b4, by rw [b5]⟩
theorem fN:a7 ["_law_bag_here","_law_n","_law_ins","_law_outs","_law_wide"] ["_law_bag_here"] (aH k6):=by walk_at "d"
theorem xE (T:Txt K mg Z):cw P w K mg base fJ 6 Z.qP Z.qG ["_law_bag_here"] (IS K):=by
 refine T.kf.F.ok fN (λvs H Q E h=>?_) (λcdv A outer s H vs Q E hr h=>?_)
 ·obtain ⟨b,rfl,_⟩:=h;rfl
 ·obtain ⟨b,rfl,hB,k⟩:=h
  refine ⟨_,(au (dU (cu (yF T) hr T.lN (ae (pv 0) ai)) (uu rfl (cz (aI (i:=1) fN.nd) (cz (aI (i:=2) fN.nd) (cz (aI (i:=3) fN.nd) (cz (aI (i:=4) fN.nd) iw))))))
   (au (cy (aZ eB (cu (aP T) hr T.aK (ae (pv 0) (ae aj ai))) aj (bg _)) (au (cy (aZ eB (cu (aP T) hr T.aK (ae (pv 0) (ae aj ai))) aj (bg _)) (ay (aW (cn (ae (cu (sO T) hr T.iG (ae (pv 0) ai)) (ae aj ai))))) bF)
   (ay (aW (cn (ae (cu (nk T) hr T.iH (ae (pv 0) (ae (bA eI aj (cu (aP T) hr T.aK (ae (pv 0) (ae aj ai)))) ai))) (ae aj ai)))))) bF)
   (ay (aW (cn (ae (cu (yG T) hr T.lO (ae (pv 0) (ae (pv 1) (ae (pv 2) (ae (pv 3) (ae (pv 4) ai)))))) (ae (bq (qd rfl) (by rfl) T.min PyProof.Rows.boot_min (ae (pv 4) (ae aj ai))) ai))))))),?_⟩
  refine aT (σ:=[some (.ref b),none,none,none,none]) rfl ?_;have sf:∀{mv pt lk:LR9} {M V1:Nat},0 < M->M<=2^400->V1<=2^30->GF M V1 mv->GF M V1 pt->GF M V1 lk->Me mv pt lk:=λh0 h1 h2 a b c=>⟨_,_,h0,h1,ar h2 (aw (by decide) (by decide)),a,b,c⟩
  exists ⟨b,rfl,hB,λr n i o w H1 g1 n5 i4 o4 hw h5 B1 u1=>?_⟩;exists ⟨b,16,rfl,B1,by decide,by decide,λv H2 v0 v1 B2 u2=>?_⟩;have u02:=u1.trans u2;exists fq (λh0=>?_) (λh0=>?_)
  ·exists ⟨b,2,rfl,B2,by decide,by decide,λv2 H3 _ _ B3 u3=>?_⟩;have u03:=u02.trans u3;exists fq (λh1=>?_) (λh1=>?_)
   ·exists ⟨b,rfl,B3,λr4 mv pt lk H4 P4 l6 D fm fp fl B4 u4=>?_⟩;exists bN λt H5 s5 g5=>?_
    exact k t r4 4 0 13 mv pt lk H5 g5 ((P4.weak λq h=>u03.none B3 h).same s5) D (sf (by decide) dP (by decide) fm fp fl) (wb (n0:=8) (by decide) (by decide) D.n8 (by decide) fm fp (by decide)) (.inl ⟨by decide,by decide,by decide,by decide,by decide,fm,fp,ar (aN _ (show mv.length+4<=12 by have:=D.n8;lia)) (by decide)⟩) (by decide) (by decide) (B4.same s5) ((u03.trans u4).same s5)
   ·exists ⟨b,3,rfl,B3,by decide,by decide,λv3 H4 v30 v31 B4 u4=>?_⟩;obtain ⟨v3,rfl⟩:=bu v30;have u04:=u03.trans u4;walk_at "w";rw[show ((6:Int)+(v3:Int))=((6+v3:Nat):Int) by lia];refine ⟨b,6+v3,rfl,B4,by lia,by lia,λr4 mv pt lk H5 P5 lm _ _ D fm fp fl B5 u5=>?_⟩;exists bN λt H6 s6 g6=>?_
    exact k t r4 4 0 4 mv pt lk H6 g6 ((P5.weak λq h=>u04.none B4 h).same s6) D (sf (by decide) dP (by decide) fm fp fl) (wb (n0:=8) (by decide) (by decide) D.n8 (by decide) fm fp (by decide)) (.inl ⟨by decide,by decide,by decide,by decide,by decide,(λxs hx x hx'=>(fm xs hx x hx').mono (by decide)),(λxs hx x hx'=>(fp xs hx x hx').mono (by decide)),ar (aN _ (show mv.length+4<=12 by have:=D.n8;lia)) (by decide)⟩) (by decide) (by decide) (B5.same s6) ((u04.trans u5).same s6)
  ·obtain ⟨c,hc,hc20,hcM⟩:∃c:Nat,max w 6<=2^c/\c<=20/\c*((n+i+o)*n)<=800/\(9 < w->c=20/\(n+i+o)*n<=20/\n<=2):=by
    have m1:(n+i+o)*n<=13*5:=bf (by lia) n5;rcases hw with rfl | rfl | ⟨rfl,n2⟩
    ·exact ⟨4,by decide,by decide,by lia,λz=>by lia⟩
    ·exact ⟨4,by decide,by decide,by lia,λz=>by lia⟩
    ·have m2:(n+i+o)*n<=10*2:=bf (by lia) n2;exact ⟨20,by decide,by decide,by lia,λ_=>⟨rfl,by lia,n2⟩⟩
   obtain ⟨hcM,hbig⟩:=hcM;exists ⟨b,n,i,o,w,c,rfl,B2,by lia,i4,o4,by lia,by lia,hc,hc20,hcM,λr4 mv pt lk H4 P4 lm lp ll D PF B4 u4=>?_⟩;have hmin:(if (1000:Int) < (w:Int) then (1000:Int) else (w:Int))=((min w 1000:Nat):Int):=by split <;> lia
   have PG:=PF;obtain ⟨M,V1,M0,fm,fp,fl,hcs⟩:=PF.n
   obtain ⟨a',c',KF,SF⟩:∃a' c',L5 mv pt a' c'/\Me mv pt lk:=by
    rcases hcs with ⟨w9,rfl,rfl⟩ | ⟨w9,M1,rfl⟩
    ·exact ⟨12,16,wb (n0:=5) (by decide) (by decide) (by lia) (by decide) fm fp (by decide),sf (by decide) (ar (show 2520<=2^12 by decide) (aw (by decide) (by decide))) (by decide) fm fp fl⟩
    ·obtain ⟨rfl,e1,e2⟩:=hbig w9;have M4:M<=2^400:=ar M1 (aw (by decide) (by lia));exact ⟨400,32,wb (n0:=2) M0 M4 (by lia) (by decide) fm fp (by decide),sf M0 M4 (by decide) fm fp fl⟩
   have RG:Rg mv pt (min w 1000):=by
    obtain ⟨M1,M2,M3,V1,a1,a2,a3,f1,f2,f3,hc'⟩:=PG;rcases hc' with ⟨w9,rfl,rfl,_,rfl⟩ | ⟨w9,b1,b2,_,rfl⟩
    ·exact .inr (.inl ⟨by lia,by lia,by decide,by decide,by decide,by decide,f1,f2,ar (aN _ (show mv.length+4<=9 by lia)) (by decide)⟩)
    ·obtain ⟨rfl,e1,e2⟩:=hbig w9;have q1:n*n<=2*2:=bf e2 e2;have q2:i*n<=4*2:=bf i4 e2;have w6:w=1000000:=by lia
     exact .inr (.inr ⟨by lia,by lia,M1,M2,a1,a2,ar b1 (aw (by decide) (by lia)),ar b2 (aw (by decide) (by lia)),f1,f2,ar (aN _ (show mv.length+4<=6 by lia)) (by decide)⟩)
   exists bN λt H5 s5 g5=>?_
   rw[hmin] at g5;exact k t r4 (min w 1000) a' c' mv pt lk H5 g5 ((P4.weak λq h=>u02.none B2 h).same s5) D SF KF RG (by lia) (by lia) (B4.same s5) ((u02.trans u4).same s5)
theorem Ai:a7 ["thing","at","most"] ["thing","at","most"] (aH oO):=by walk_at "d"
theorem m9 (T:Txt K mg Z):cw P w K mg base fJ 1 Z.vo Z.uS ["thing","at","most"] DY:=by
 refine T.iE.F.ok Ai (λvs H Q E h=>?_) (λcdv A outer s H vs Q E hr h=>?_)
 ·obtain ⟨p,xs,a,m,rfl,_⟩:=h;rfl
 ·obtain ⟨p,xs,a,m,rfl,gx,hm,k⟩:=h
  refine ⟨_,(au (cy (jb (iu (uv rfl T.isinstance PyProof.Rows.boot_list T.list (pv 0)))) (ay GB) bF)
   (ay (cy (aZ qA (bq aX (by rfl) T.len aQ (ae (pv 0) ai)) (pv 2) (bg _)) (ay GB) bF))),?_⟩
  refine aT (σ:=[some (.ref p),some (.int a),some (.int m)]) rfl ?_;exists ⟨_,_,.lst gx,rfl,?_⟩;exists ⟨_,_,rfl,.inl (bD.of gx),?_⟩;walk_at "w";rw[decide_eq_false (show ¬m < (xs.length:Int) by lia)];exists k
theorem BV:a7 ["thing"] ["thing"] (aH rn):=by walk_at "d"
theorem uP (T:Txt K mg Z):cw P w K mg base fJ 1 Z.ym Z.xY ["thing"] EU:=by
 refine T.kJ.F.ok BV (λvs H Q E h=>?_) (λcdv A outer s H vs Q E hr h=>?_)
 ·obtain ⟨i,rfl,_⟩:=h;rfl
 ·obtain ⟨i,rfl,k⟩:=h;refine ⟨_,(ay (aW (xB (uv rfl T.isinstance PyProof.Rows.boot_int T.int (pv 0)) (Ay (Lo (uv rfl T.isinstance PyProof.Rows.boot_bool T.bool (pv 0))))))),?_⟩;refine aT (σ:=[some (.int i)]) rfl ?_;exists ⟨_,_,.int i,rfl,?_⟩;exists ⟨_,_,.int i,rfl,?_⟩;exists k
theorem fE:a7 ["one","other","rest"] ["one","other"] (aH iY):=by walk_at "d"
theorem iB (T:Txt K mg Z):cw P w K mg base fJ 1 Z.mD Z.mi ["one","other"] MC:=by
 refine T.eC.F.ok fE (λvs H Q E h=>?_) (λcdv A outer s H vs Q E hr h=>?_)
 ·obtain ⟨a,b,rfl,_⟩:=h;rfl
 ·obtain ⟨a,b,rfl,k⟩:=h
  refine ⟨_,(au (Cf PassesOwn.never (aZ sL (pv 1) aj (bg _))
    (au (aY (i:=2) fE.nd rfl (Or.inl rfl) (bA Jv (pv 0) (pv 1)))
   (au (aY (i:=0) fE.nd rfl (Or.inl rfl) (pv 1))
   (ay (aY (i:=1) fE.nd rfl (Or.inl rfl) (pv 2))))))
   (ay (aW (bq tD (by rfl) T.abs PyProof.Rows.boot_abs (ae (pv 0) ai))))),?_⟩
  refine aT (σ:=[some (.int a),some (.int b),none]) rfl ?_;exists DS (λσ' H'=>∃(u v:Int) (r:Option V),σ'=[some (.int u),some (.int v),r]/\H'=H/\Int.gcd u v=Int.gcd a b) (λσ' _=>match σ' with | [_,some (.int v),_]=>v.natAbs | _=>0) ⟨a,b,none,rfl,rfl,rfl⟩ ?_;rintro σ' H' ⟨u,v,r,rfl,rfl,hg⟩;exists fq (λh=>?_) (λh=>?_)
  ·have hv:v≠0:=λz=>by subst z;simp at h
   exists fj (show v≠0 from hv) ?_;exists ⟨⟨v,u.fmod v,_,rfl,rfl,(HK u v).trans hg⟩,JD u v hv⟩
  ·have hv:v=0:=by
    by_cases z:v=0
    ·exact z
    ·exfalso;apply h;simp [z]
   subst hv;walk_at "w"
   have e:(if u < 0 then -u else u)=g a b:=by
    unfold g;rw[<- hg,Int.gcd_zero_right]
    split <;> lia
   rw[e];exact k
theorem Al:a7 ["thing"] ["thing"] (aH oR):=by walk_at "d"
theorem AD (T:Txt K mg Z):cw P w K mg base fJ 2 Z.vv Z.uV ["thing"] (EY K):=by
 refine T.nH.F.ok Al (λvs H Q E h=>?_) (λcdv A outer s H vs Q E hr h=>?_)
 ·obtain ⟨x,n,rfl,_⟩:=h;rfl
 ·obtain ⟨x,n,rfl,⟨p,rfl,hp⟩,hn,k⟩:=h
  refine ⟨_,(au (cy (PW.pt (lZ (jb (iu (v8 rfl T.isinstance PyProof.Rows.boot_tuple T.tuple (pv 0)))) (ja (aZ sL (bq aX (by rfl) T.len aQ (ae (pv 0) ai)) aj (bg _))))) (ay (aW jE)) bF)
   (au (cy (PW.pt (lZ (jb (iu (cu (uP T) hr T.kJ (ae (aV bJ (pv 0) aj) ai)))) (ja (jb (iu (cu (uP T) hr T.kJ (ae (aV bJ (pv 0) aj) ai))))))) (ay (aW jE)) bF)
   (ay (aW (xB (gN zf (aV bJ (pv 0) aj) aj (bg _)) (Ay (gN eB (cu (iB T) hr T.eC (ae (aV bJ (pv 0) aj) (ae (aV bJ (pv 0) aj) ai))) aj (bg _)))))))),?_⟩
  refine aT (σ:=[some (.ref p)]) rfl ?_;obtain ⟨hb,hg,s1,s2⟩:=hn;exists .inr ⟨p,_,_,rfl,hp,rfl,?_⟩;exists ⟨_,_,rfl,.inr hp,?_⟩;walk_at "w"
  try refine Jy ?_
  exists ⟨n.1,rfl,?_⟩;exists ⟨n.2,rfl,?_⟩;walk_at "w";rw[decide_eq_true (show (1:Int)<=n.2 by lia)];exists ⟨n.1,n.2,rfl,?_⟩;walk_at "w";have e:g n.1 n.2=1:=by unfold g;rw[hg];rfl
  rw[e,decide_eq_true rfl];exact k _ (aE.refl _)
theorem E3:a7 ["thing","many"] ["thing","many"] (aH xp):=by walk_at "d"
theorem Fe (T:Txt K mg Z):cw P w K mg base fJ 3 Z.CN Z.CG ["thing","many"] (tX K):=by
 refine T.uA.F.ok E3 (λvs H Q E h=>?_) (λcdv A outer s H vs Q E hr h=>?_)
 ·obtain ⟨p,ns,rfl,_⟩:=h;rfl
 ·obtain ⟨p,ns,rfl,hp,hl,hn,k⟩:=h
  refine ⟨_,(au (cy (PW.pt (lZ (jb (iu (uv rfl T.isinstance PyProof.Rows.boot_list T.list (pv 0)))) (ja (aZ sL (bq aX (by rfl) T.len aQ (ae (pv 0) ai)) (pv 1) (bg _))))) (ay (aW jE)) bF)
   (ay (aW (bq (yi rfl) (by rfl) T.all PyProof.Rows.boot_all (ae (bT ["value"] [] [] (cb (pv 0)) (λ_=>(aI (i:=0) (show ND9 ["value"] by decide +kernel))) (λ_=>bW) (λ_=>(cu (AD T) hr T.nH (ae (pv 0) ai)))) ai))))),?_⟩
  refine aT (σ:=[some (.ref p),some (.int ns.length)]) rfl ?_;obtain ⟨xs,gx,qx⟩:=id hp;have lx:=qx.length;exists ⟨_,_,.lst gx,rfl,?_⟩;exists ⟨_,_,rfl,.inl (bD.of gx),?_⟩;walk_at "w";rw[show ((xs.length:Nat):Int)=(ns.length:Nat) by rw[lx],decide_eq_true rfl];exists ⟨⟨_,bD.of gx⟩,?_⟩;refine dO (K:=K) (xs:=xs) (λi ys H'=>aE H H'/\ys=List.replicate i (.bl true)) (aR (bB (by lia))) ⟨aE.refl _,rfl⟩ (λi ys H' _ ⟨s,_⟩=>bD.of (s _ _ gx)) ?_ ?_
  ·rintro i x ys H' hx hlen ⟨s,rfl⟩;obtain ⟨n,en,z⟩:=cG qx hx;exists ⟨x,n,rfl,s.num z,hn n (ao en),λH2 s2=>⟨s.trans s2,by rw[zY]⟩⟩
  ·rintro ys H' hy ⟨s,rfl⟩ l hl';exists ⟨l,List.replicate xs.length true,rfl,bD.of (by rw[aG];simp),?_⟩;have e4:(List.replicate xs.length true).all id=true:=by simp
   rw[e4];exact k _ (s.trans (aE.new hl'))
theorem j6:a7 ["things","wide","place","thing"] ["things","wide"] (aH kZ):=by walk_at "d"
theorem kd (T:Txt K mg Z):cw P w K mg base fJ 4 Z.qO Z.qF ["things","wide"] (D4 K):=by
 refine T.fQ.F.ok j6 (λvs H Q E h=>?_) (λcdv A outer s H vs Q E hr h=>?_)
 ·obtain ⟨p,H0,rows,w,rfl,_⟩:=h;rfl
 ·obtain ⟨p,H0,rows,w,rfl,hp,hl,hw,hn,k⟩:=h
  refine ⟨_,(au (dD PassesOwn.never rfl (Ea rfl T.enumerate (ae (pv 0) ai)) (uu rfl (cz (aI (i:=2) j6.nd) (cz (aI (i:=3) j6.nd) iw)))
    (ay (cy (jb (iu (cu (Fe T) hr T.uA (ae (pv 3) (ae (pv 1) ai))))) (ay GB) bF)))
   (ay (aW (bT ["row"] [] [] (cb (pv 0)) (λ_=>(aI (i:=0) (show ND9 ["row"] by decide +kernel))) (λ_=>bW) (λ_=>(eS (lV K (by rfl)) (by rfl) T.list PyProof.Rows.boot_list (ae (pv 0) ai))))))),?_⟩
  refine aT (σ:=[some (.ref p),some (.int w),none,none]) rfl ?_;obtain ⟨xs,gx,qx,_⟩:=id hp;exists ⟨⟨_,bD.of gx⟩,?_⟩;refine HP (K:=K) (l:=p) (xs:=xs) (λi σ' H'=>aE H H'/\∃x y,σ'=[some (.ref p),some (.int w),x,y]) ⟨aE.refl _,none,none,rfl⟩ (λi σ' H' _ ⟨s,_⟩=>bD.of (s _ _ gx)) ?_ ?_
  ·rintro i x σ' H' t hx ⟨s,x1,y1,rfl⟩ ht;obtain ⟨qs,eq,q,rfl,_,Rq⟩:=cG qx hx;have hm:=ao eq;have st:aE H' (upd H' t (.tup [.int i,.ref q])):=aE.new ht;have gt:(upd H' t (.tup [.int i,.ref q])) t=some (.tup [.int i,.ref q]):=aG;have s2:=s.trans st;generalize upd H' t (.tup [.int i,.ref q])=H2 at st gt s2 ⊢;have lq:(qs.map nm).length=w:=by rw[ag];exact (hn qs hm).1
   exists ⟨q,_,by rw[lq],(Rq.same s2).rowK,by rw[lq];exact hw,λn hn'=>?_,λH3 s3=>?_⟩
   ·obtain ⟨y,hy,rfl⟩:=aA.mp hn';exact (hn qs hm).2 y hy
   exists ⟨s2.trans s3,_,_,rfl⟩
  ·rintro σ' H' ⟨s,x1,y1,rfl⟩;exists ⟨⟨_,bD.of (s _ _ gx)⟩,?_⟩;refine cW (K:=K) (F:=c4 K H0) (c4 K H) id (s _ _ gx) (Paired.imp' (λ_ _ z=>z.same s) qx) hl (λa b=>a.same b) (λa b=>a.same b) ?_ ?_
   ·rintro i ns x H2 NY NN en s2 ⟨u,rfl,_,zs,gz,qz⟩ k1;exists ⟨u,zs,rfl,.inl (bD.of gz),λl1 hl1=>?_⟩;exact k1 _ _ (aE.new hl1) ⟨l1,rfl,s.none (s2.none hl1),zs,aG,Paired.imp' (λ_ _ z=>z.same (aE.new hl1)) qz⟩
   ·rintro ys' H2 r hr s2 g pr nx;rw[Ir] at pr nx;exact k r H2 (s.none hr) (s.trans s2) ⟨ys',g,pr,iU nx⟩
theorem rj:a7 ["self","move","put","look"] ["self","move","put","look"] (aH dm):=by walk_at "d"
theorem ke (T:Txt K mg Z):cw P w K mg base fJ 5 Z.iO Z.iK ["self","move","put","look"] (D3 K Z.a_System):=by
 refine T.kS.ok rj (λvs H Q E h=>?_) (λcdv A outer s H vs Q E hr h=>?_)
 ·obtain ⟨x,dx,p,q,r,Hb,H0,H1,H2,mv,pt,lk,rfl,_⟩:=h;rfl
 ·obtain ⟨x,dx,p,q,r,Hb,H0,H1,H2,mv,pt,lk,rfl,nx,ndx,nex,rfl,gp,gq,gr,D,om,op,ol,k⟩:=h
  refine ⟨_,(au (kE (cu (m9 T) hr T.iE (ae (pv 1) (ae aj (ae (kG (v:=.int 8) rfl T.mg_MOST_STATES ⟨_,rfl⟩) ai)))))
   (au (uo (pv 0) (cu (kd T) hr T.fQ (ae (pv 1) (ae (bq aX (by rfl) T.len aQ (ae (pv 1) ai)) ai))) rfl)
   (au (uo (pv 0) (bq aX (by rfl) T.len aQ (ae (d9 (pv 0) rfl) ai)) rfl)
   (au (kE (cu (m9 T) hr T.iE (ae (pv 2) (ae aj (ae (kG (v:=.int 4) rfl T.mg_MOST_PUTS ⟨_,rfl⟩) ai)))))
   (au (uo (pv 0) (cu (kd T) hr T.fQ (ae (pv 2) (ae (d9 (pv 0) rfl) ai))) rfl)
   (au (uo (pv 0) (bq aX (by rfl) T.len aQ (ae (d9 (pv 0) rfl) ai)) rfl)
   (au (kE (cu (m9 T) hr T.iE (ae (pv 3) (ae aj (ae (kG (v:=.int 4) rfl T.mg_MOST_LOOKS ⟨_,rfl⟩) ai)))))
   (au (uo (pv 0) (cu (kd T) hr T.fQ (ae (pv 3) (ae (d9 (pv 0) rfl) ai))) rfl)
   (ay (uo (pv 0) (bq aX (by rfl) T.len aQ (ae (d9 (pv 0) rfl) ai)) rfl)))))))))),?_⟩
  refine aT (σ:=[some (.ref x),some (.ref p),some (.ref q),some (.ref r)]) rfl ?_
  have s0:aE Hb (upd (upd Hb dx (.own x)) x (.ins Z.a_System dx [])):=λb o e=>by
   rw[a9 (dW e nx),a9 (dW e ndx)];exact e
  have hx:(upd (upd Hb dx (.own x)) x (.ins Z.a_System dx [])) x=some (.ins Z.a_System dx []):=aG;have back:∀{b},(upd (upd Hb dx (.own x)) x (.ins Z.a_System dx [])) b=none->Hb b=none:=λh=>s0.none h
  generalize upd (upd Hb dx (.own x)) x (.ins Z.a_System dx [])=Ha at s0 hx back ⊢;obtain ⟨xs,gx,qx,_⟩:=id gp;obtain ⟨ys,gy,qy,_⟩:=id gq;obtain ⟨zs,gz,qz,_⟩:=id gr;have lx:=qx.length;have ly:=qy.length;have lz:=qz.length;have d1:=D.n8;have d2:=D.i4;have d3:=D.o4;exists ⟨p,xs,0,8,rfl,s0 _ _ gx,by lia,?_⟩;exists ⟨_,_,rfl,.inl (bD.of (s0 _ _ gx)),?_⟩;exists ⟨p,H0,mv,mv.length,by rw[lx],gp.same s0,by lia,by lia,λws hw=>⟨D.mw ws hw,om ws hw⟩,λa H3 na s3 Ga=>?_⟩;have hx3:=s3 _ _ hx;exists ⟨x,Z.a_System,dx,_,rfl,hx3,T.cl_System,T.na_move,(by show 0 < 1000;decide),?_⟩;have e3:Bg x H3 (upd H3 x (.ins Z.a_System dx (b6 "move" (.ref a) []))):=Bg.upd;have i3:qU H3 x:=⟨_,_,_,hx3⟩;have hx4:(upd H3 x (.ins Z.a_System dx (b6 "move" (.ref a) []))) x=some (.ins Z.a_System dx (b6 "move" (.ref a) [])):=aG;have Ga4:=Ga.exc e3 i3;have k4:aE Hb (upd H3 x (.ins Z.a_System dx (b6 "move" (.ref a) []))):=(s0.trans s3).after nx;generalize upd H3 x (.ins Z.a_System dx (b6 "move" (.ref a) []))=H4 at e3 hx4 Ga4 k4 ⊢;exists ⟨x,Z.a_System,dx,_,_,rfl,hx4,T.cl_System,T.na_move,(by rw[be,if_pos rfl]),?_⟩;obtain ⟨as,ga,qa,_⟩:=id Ga4;have la:=qa.length;exists ⟨_,_,rfl,.inl (bD.of ga),?_⟩;exists ⟨x,Z.a_System,dx,_,rfl,hx4,T.cl_System,T.na_states,bc dq (by show 1 < 1000;decide),?_⟩;rw[show ((as.length:Nat):Int)=((mv.length:Nat):Int) by rw[la]];have e4:Bg x H4 (upd H4 x (.ins Z.a_System dx (b6 "states" (.int mv.length) (b6 "move" (.ref a) [])))):=Bg.upd;have i4:qU H4 x:=⟨_,_,_,hx4⟩;have hx5:(upd H4 x (.ins Z.a_System dx (b6 "states" (.int mv.length) (b6 "move" (.ref a) [])))) x=some (.ins Z.a_System dx (b6 "states" (.int mv.length) (b6 "move" (.ref a) []))):=aG;have Ga5:=Ga4.exc e4 i4;have k5:aE Hb (upd H4 x (.ins Z.a_System dx (b6 "states" (.int mv.length) (b6 "move" (.ref a) [])))):=k4.after nx;generalize upd H4 x (.ins Z.a_System dx (b6 "states" (.int mv.length) (b6 "move" (.ref a) [])))=H5 at e4 hx5 Ga5 k5 ⊢;clear e3 e4 i3 i4 hx4 Ga4 ga qa;exists ⟨q,ys,1,4,rfl,k5 _ _ gy,by lia,?_⟩;exists ⟨x,Z.a_System,dx,_,_,rfl,hx5,T.cl_System,T.na_states,(by rw[be,if_pos rfl]),?_⟩;exists ⟨q,H1,pt,mv.length,rfl,gq.same k5,by lia,by lia,λws hw=>⟨D.pw ws hw,op ws hw⟩,λb H6 nb s6 Gb=>?_⟩;have hx6:=s6 _ _ hx5;have i6:qU H6 x:=⟨_,_,_,hx6⟩;exists ⟨x,Z.a_System,dx,_,rfl,hx6,T.cl_System,T.na_put,bc dq (bc (cY dq) (by show 2 < 1000;decide)),?_⟩;have e6:Bg x H6 (upd H6 x (.ins Z.a_System dx (b6 "put" (.ref b) (b6 "states" (.int mv.length) (b6 "move" (.ref a) []))))):=Bg.upd;have hx7:(upd H6 x (.ins Z.a_System dx (b6 "put" (.ref b) (b6 "states" (.int mv.length) (b6 "move" (.ref a) []))))) x=some (.ins Z.a_System dx (b6 "put" (.ref b) (b6 "states" (.int mv.length) (b6 "move" (.ref a) [])))):=aG;have Ga7:=(Ga5.same s6).exc e6 i6;have Gb7:=(Gb.weak k5).exc e6 i6;have k7:aE Hb (upd H6 x (.ins Z.a_System dx (b6 "put" (.ref b) (b6 "states" (.int mv.length) (b6 "move" (.ref a) []))))):=(k5.trans s6).after nx;generalize upd H6 x (.ins Z.a_System dx (b6 "put" (.ref b) (b6 "states" (.int mv.length) (b6 "move" (.ref a) []))))=H7 at e6 hx7 Ga7 Gb7 k7 ⊢;obtain ⟨bs,gb,qb,_⟩:=id Gb7;have lb:=qb.length;exists ⟨x,Z.a_System,dx,_,_,rfl,hx7,T.cl_System,T.na_put,(by rw[be,if_pos rfl]),?_⟩;exists ⟨_,_,rfl,.inl (bD.of gb),?_⟩;exists ⟨x,Z.a_System,dx,_,rfl,hx7,T.cl_System,T.na_ins,bc dq (bc (cY (ar dq (cY dq))) (by show 3 < 1000;decide)),?_⟩;rw[show ((bs.length:Nat):Int)=((pt.length:Nat):Int) by rw[lb]];have i7:qU H7 x:=⟨_,_,_,hx7⟩;have e7:Bg x H7 (upd H7 x (.ins Z.a_System dx (b6 "ins" (.int pt.length) (b6 "put" (.ref b) (b6 "states" (.int mv.length) (b6 "move" (.ref a) [])))))):=Bg.upd;have hx8:(upd H7 x (.ins Z.a_System dx (b6 "ins" (.int pt.length) (b6 "put" (.ref b) (b6 "states" (.int mv.length) (b6 "move" (.ref a) [])))))) x=some (.ins Z.a_System dx (b6 "ins" (.int pt.length) (b6 "put" (.ref b) (b6 "states" (.int mv.length) (b6 "move" (.ref a) []))))):=aG;have Ga8:=Ga7.exc e7 i7;have Gb8:=Gb7.exc e7 i7;have k8:aE Hb (upd H7 x (.ins Z.a_System dx (b6 "ins" (.int pt.length) (b6 "put" (.ref b) (b6 "states" (.int mv.length) (b6 "move" (.ref a) [])))))):=k7.after nx;generalize upd H7 x (.ins Z.a_System dx (b6 "ins" (.int pt.length) (b6 "put" (.ref b) (b6 "states" (.int mv.length) (b6 "move" (.ref a) [])))))=H8 at e7 hx8 Ga8 Gb8 k8 ⊢;clear e6 e7 i6 i7 hx7 Ga7 Gb7 gb qb;exists ⟨r,zs,2,4,rfl,k8 _ _ gz,by lia,?_⟩;exists ⟨x,Z.a_System,dx,_,_,rfl,hx8,T.cl_System,T.na_states,(by rw[be,if_neg (by decide +kernel),be,if_neg (by decide +kernel),be,if_pos rfl]),?_⟩;exists ⟨r,H2,lk,mv.length,rfl,gr.same k8,by lia,by lia,λws hw=>⟨D.lw ws hw,ol ws hw⟩,λc H9 nc s9 Gc=>?_⟩;have hx9:=s9 _ _ hx8;have i9:qU H9 x:=⟨_,_,_,hx9⟩;exists ⟨x,Z.a_System,dx,_,rfl,hx9,T.cl_System,T.na_look,bc dq (bc (cY (ar dq (cY (ar dq (cY dq))))) (by show 4 < 1000;decide)),?_⟩;have e9:Bg x H9 (upd H9 x (.ins Z.a_System dx (b6 "look" (.ref c) (b6 "ins" (.int pt.length) (b6 "put" (.ref b) (b6 "states" (.int mv.length) (b6 "move" (.ref a) []))))))):=Bg.upd;have hxA:(upd H9 x (.ins Z.a_System dx (b6 "look" (.ref c) (b6 "ins" (.int pt.length) (b6 "put" (.ref b) (b6 "states" (.int mv.length) (b6 "move" (.ref a) []))))))) x=some (.ins Z.a_System dx (b6 "look" (.ref c) (b6 "ins" (.int pt.length) (b6 "put" (.ref b) (b6 "states" (.int mv.length) (b6 "move" (.ref a) [])))))):=aG;have GaA:=(Ga8.same s9).exc e9 i9;have GbA:=(Gb8.same s9).exc e9 i9;have GcA:=(Gc.weak k8).exc e9 i9;have kA:aE Hb (upd H9 x (.ins Z.a_System dx (b6 "look" (.ref c) (b6 "ins" (.int pt.length) (b6 "put" (.ref b) (b6 "states" (.int mv.length) (b6 "move" (.ref a) []))))))):=(k8.trans s9).after nx;generalize upd H9 x (.ins Z.a_System dx (b6 "look" (.ref c) (b6 "ins" (.int pt.length) (b6 "put" (.ref b) (b6 "states" (.int mv.length) (b6 "move" (.ref a) []))))))=HA at e9 hxA GaA GbA GcA kA ⊢;obtain ⟨cs,gc,qc,_⟩:=id GcA;have lc:=qc.length;exists ⟨x,Z.a_System,dx,_,_,rfl,hxA,T.cl_System,T.na_look,(by rw[be,if_pos rfl]),?_⟩;exists ⟨_,_,rfl,.inl (bD.of gc),?_⟩;exists ⟨x,Z.a_System,dx,_,rfl,hxA,T.cl_System,T.na_outs,bc dq (bc (cY (ar dq (cY (ar dq (cY (ar dq (cY dq))))))) (by show 5 < 1000;decide)),?_⟩;rw[show ((cs.length:Nat):Int)=((lk.length:Nat):Int) by rw[lc]];have iA:qU HA x:=⟨_,_,_,hxA⟩;exact k _ (kA.after nx) ⟨dx,a,b,c,aG,back na,k5.none nb,k8.none nc,(GaA.exc Bg.upd iA).weak s0,GbA.exc Bg.upd iA,GcA.exc Bg.upd iA⟩
theorem xm:a7 ["_law_grid"] ["_law_grid"] (aH lD):=by walk_at "d"
theorem iD (T:Txt K mg Z):cw P w K mg base fJ 1 Z.qT Z.qK ["_law_grid"] (xg K):=by
 refine T.eV.F.ok xm (λvs H Q E h=>?_) (λcdv A outer s H vs Q E hr h=>?_)
 ·obtain ⟨p,H0,rows,rfl,_⟩:=h;rfl
 ·obtain ⟨p,H0,rows,rfl,hp,hl,hm,k⟩:=h;refine ⟨_,(ay (aW (bT ["_law_row_here"] [] [] (cb (pv 0)) (λ_=>(aI (i:=0) (show ND9 ["_law_row_here"] by decide +kernel))) (λ_=>bW) (λ_=>(eS (lV K (by rfl)) (by rfl) T.list PyProof.Rows.boot_list (ae (pv 0) ai)))))),?_⟩;refine aT (σ:=[some (.ref p)]) rfl ?_;obtain ⟨xs,gx,qx,_⟩:=id hp;exists ⟨⟨_,bD.of gx⟩,?_⟩;refine cW (K:=K) (F:=c4 K H0) (c4 K H) id gx qx hl (λa b=>a.same b) (λa b=>a.same b) ?_ ?_
  ·rintro i ns x H' NY NN en s ⟨u,rfl,_,zs,gz,qz⟩ k1;exists ⟨u,zs,rfl,.inl (bD.of gz),λl1 hl1=>?_⟩;exact k1 _ _ (aE.new hl1) ⟨l1,rfl,s.none hl1,zs,aG,Paired.imp' (λ_ _ z=>z.same (aE.new hl1)) qz⟩
  ·rintro ys' H' r hr s g pr nx;rw[Ir] at pr nx;exact k r H' hr s ⟨ys',g,pr,iU nx⟩
theorem Aq:a7 ["_law_parts_here"] ["_law_parts_here"] (aH o5):=by walk_at "d"
theorem AJ (T:Txt K mg Z):cw P w K mg base fJ 7 Z.vG Z.vf ["_law_parts_here"] (wV K Z.a_System):=by
 refine T.nO.F.ok Aq (λvs H Q E h=>?_) (λcdv A outer s H vs Q E hr h=>?_)
 ·obtain ⟨r,H0,mv,pt,lk,rfl,_⟩:=h;rfl
 ·obtain ⟨r,H0,mv,pt,lk,rfl,PQ,D,F,k⟩:=h;refine ⟨_,(ay (aW (Ec T.mk_System (ke T) (hr.mono (by decide)) rfl T.mg_System T.iL .nil Ck (ae (cu (iD T) hr T.eV (ae (aV bJ (pv 0) aj) ai)) (ae (cu (iD T) hr T.eV (ae (aV bJ (pv 0) aj) ai)) (ae (cu (iD T) hr T.eV (ae (aV bJ (pv 0) aj) ai)) ai)))))),?_⟩;refine aT (σ:=[some (.ref r)]) rfl ?_;obtain ⟨m,p,l,g,n1,n2,n3,Gm,Gp,Gl⟩:=id PQ;have d1:=D.n8;have d2:=D.i4;have d3:=D.o4;exists ⟨m,H0,mv,rfl,Gm,by lia,λxs hx=>by rw[D.mw xs hx];lia,λa H1 na s1 Ga=>?_⟩;have g1:=s1 _ _ g;exists ⟨p,H0,pt,rfl,Gp.same s1,by lia,λxs hx=>by rw[D.pw xs hx];lia,λb H2 nb s2 Gb=>?_⟩;have s12:=s1.trans s2;have g2:=s12 _ _ g;exists ⟨l,H0,lk,rfl,Gl.same s12,by lia,λxs hx=>by rw[D.lw xs hx];lia,λc H3 nc s3 Gc=>?_⟩;have s13:=s12.trans s3;walk_at "w";intro x dx nx ndx nex;exact ⟨x,dx,a,b,c,H3,H,H1,H2,mv,pt,lk,rfl,nx,ndx,nex,rfl,(Ga.same s2).same s3,Gb.same s3,Gc,D,F.ok.1,F.ok.2.1,F.ok.2.2,λH' s' S'=>⟨rfl,k x H' (s13.none nx) (s13.trans s') (S'.weak s13)⟩⟩
theorem gJ:a7 ["_law_bag_here","_law_n","_law_rows","_law_turn","_law_i","_law_j"] ["_law_bag_here","_law_n"] (aH mZ):=by walk_at "d"
theorem yI (T:Txt K mg Z):cw P w K mg base fJ 4 Z.tO Z.tw ["_law_bag_here","_law_n"] (xh K):=by
 refine T.lQ.F.ok gJ (λvs H Q E h=>?_) (λcdv A outer s H vs Q E hr h=>?_)
 ·obtain ⟨b,n,rfl,_⟩:=h;rfl
 ·obtain ⟨b,n,rfl,hB,n8,k⟩:=h
  refine ⟨_,(au (gM 2 ["_law_i"] ["_law_n"] [1] gJ.nd rfl rfl (bP rfl T.range (ae (pv 1) ai)) (λ_=>(aI (i:=0) (show ND9 ["_law_i","_law_n"] by decide +kernel) rfl (Or.inr rfl) (Or.inl rfl))) (λ_=>bW) (λ_=>(bT ["_law_j"] ["_law_i"] [0] (bP rfl T.range (ae (pv 1) ai)) (λ_=>(aI (i:=0) (show ND9 ["_law_j","_law_i"] by decide +kernel))) (λ_=>bW) (λ_=>(cn (ae (eS j3 (by rfl) T.int PyProof.Rows.boot_int (ae (gN eB (pv 1) (pv 0) (bg _)) ai)) (ae aj ai)))))))
   (au (dD PassesOwn.never rfl (bP rfl T.range (ae (cu (aP T) hr T.aK (ae (pv 0) (ae (bA eI (bA cH aj (pv 1)) aj) ai))) ai)) (aI (i:=3) gJ.nd)
    (au (aY (i:=4) gJ.nd rfl (Or.inl rfl) (cu (aP T) hr T.aK (ae (pv 0) (ae (pv 1) ai))))
   (au (aY (i:=5) gJ.nd rfl (Or.inl rfl) (cu (aP T) hr T.aK (ae (pv 0) (ae (pv 1) ai))))
   (ay (cy (aZ eB (pv 4) (pv 5) (bg _)) (ay (dU (cu (fo T) hr T.dX (ae (aV bC (d7 (ae (cn (ae aj (ae aj ai))) (ae (cn (ae (Cj wL aj) (ae aj ai))) (ae (cn (ae aj (ae aj ai))) ai)))) (cu (aP T) hr T.aK (ae (pv 0) (ae aj ai)))) (ae (aV bC (pv 2) (pv 4)) ai))) (fk (pv 2) (pv 4) set_list))) (ay (dU (cu (jU T) hr T.fX (ae (aV bC (pv 2) (pv 4)) (ae (cu (fo T) hr T.dX (ae (cn (ae (bA je (cu (aP T) hr T.aK (ae (pv 0) (ae aj ai))) aj) (ae aj ai))) (ae (aV bC (pv 2) (pv 5)) ai))) ai))) (fk (pv 2) (pv 4) set_list))))))))
   (ay (aW (pv 2))))),?_⟩
  refine aT (σ:=[some (.ref b),some (.int n),none,none,none,none]) rfl ?_;exists ⟨by lia,by lia,?_⟩;refine eo (n:=n) (c4 K H) (λ(i:Nat)=>(List.range n).map λ(j:Nat)=>(((if decide ((i:Int)=(j:Int))=true then 1 else 0:Int)):Rat)) (by lia) (λa b=>a.same b) ?_ ?_
  ·rintro i Ha NY NN hi sa k1;exists ⟨by lia,by lia,?_⟩;refine eo (n:=n) (bU K) (λ(j:Nat)=>(((if decide ((i:Int)=(j:Int))=true then 1 else 0:Int)):Rat)) (by lia) (λa b=>a.same b) ?_ ?_
   ·rintro j Hz NY2 NN2 hj sz k2;exists bN λt Hy sy gy=>?_
    exact k2 _ _ sy (bU.mk gy rfl)
   ·rintro ys Hz t ht sz g pr nx;exact k1 _ _ sz ⟨t,rfl,sa.none ht,ys,g,pr⟩
  rintro ys H1 l nl s1 g1 pr1 nx1
  have X0:mJ K b l n 0 H H1 ys _:=⟨hB.same s1,s1.upto,nl,g1,pr1,iU nx1,⟨by simp,λxs hx=>by
   obtain ⟨i,_,rfl⟩:=aA.mp hx;simp⟩,λxs hx x hx'=>by
   obtain ⟨i,_,rfl⟩:=aA.mp hx;obtain ⟨j,_,rfl⟩:=aA.mp hx';exact Fr.int (by split <;> decide)⟩
  clear g1 pr1 nx1;exists ⟨b,2*n+1,rfl,X0.B,by lia,by lia,λT' H2 t0 t1 B2 u2=>?_⟩;obtain ⟨T,rfl⟩:=bu t0;have X2:=X0.upto hB u2 B2;clear X0;exists ⟨by lia,by lia,?_⟩;refine dg (n:=T) (λi σ' H'=>∃vs rows y1 y2 y3,σ'=[some (.ref b),some (.int n),some (.ref l),y1,y2,y3]/\mJ K b l n i H H' vs rows) ⟨_,_,_,_,_,rfl,X2⟩ ?_ ?_
  ·rintro t σ' H' ht ⟨vs,rows,y1,y2,y3,rfl,X⟩;exists ⟨b,n,rfl,X.B,by lia,by lia,λi' H3 i0 i1 B3 u3=>?_⟩;obtain ⟨i,rfl⟩:=bu i0;have X3:=X.upto hB u3 B3;exists ⟨b,n,rfl,B3,by lia,by lia,λj' H4 j0 j1 B4 u4=>?_⟩;obtain ⟨j,rfl⟩:=bu j0;have X4:=X3.upto hB u4 B4;clear X X3;have lv:vs.length=n:=by rw[<- X4.pr.length];exact X4.w.1
   exists fq (λh1=>?_) (λh1=>?_)
   ·exists bN λt1 H5 s5 g5=>?_
    exists bN λt2 H6 s6 g6=>?_
    exists bN λt3 H7 s7 g7=>?_
    exists dj λL H8 s8 n8' g8=>?_
    have X8:=X4.same (((s5.trans s6).trans s7).trans s8);have nL:H L=none:=X4.u.none X4.B (((s5.trans s6).trans s7).none n8');exists ⟨b,3,rfl,X8.B,by decide,by decide,λc H9 c0 c1 B9 u9=>?_⟩;have X9:=X8.upto hB u9 B9;obtain ⟨v,ev,mv,_⟩:=iM (xs:=[V.ref t1,.ref t2,.ref t3]) c0 (by simpa using c1);exists bV (bD.of (u9.other (X8.ne hB nL) g8)) ev ?_
    obtain ⟨cq,fc,nc⟩:∃cq:Rat,Fr 3 2 cq/\bU K H9 cq v:=by
     simp only[aD,aO,or_false] at mv;rcases mv with rfl | rfl | rfl
     ·exact ⟨((2:Int):Rat),Fr.int (by decide),bU.mk (u9.tup X8.B (((s6.trans s7).trans s8) _ _ g5)) rfl⟩
     ·exact ⟨((-1:Int):Rat),Fr.int (by decide),bU.mk (u9.tup X8.B ((s7.trans s8) _ _ g6)) rfl⟩
     ·exact ⟨1 / 3,⟨1,by decide +kernel,by decide⟩,bU.mk (u9.tup X8.B (s8 _ _ g7)) (by decide +kernel)⟩
    obtain ⟨row,q,er,evq,mr,R⟩:=X9.at (j:=i) (by lia);have lr:=X9.w.2 row mr;exists bV (bD.of X9.g) (cX evq) ?_;exists ⟨v,q,cq,row,rfl,nc,kn (a:=2) (b:=1) (by decide) (by decide) (by decide) (by decide) fc,R,by lia,X9.szn (by lia) row mr,λr HA nA sA RA=>?_⟩;exists dC (X9.same sA).g (dY (by lia)) rfl ?_
    exact ⟨_,_,_,_,_,rfl,X9.set hB sA nA RA (by rw[ag];exact lr) (λx hx=>by
     obtain ⟨y,hy,rfl⟩:=aA.mp hx;rw[fF,cB];exact (fc.mul (X9.f row mr y hy)).mono (aN _ (by decide)))⟩
   ·walk_at "w";obtain ⟨row,q,er,evq,mr,R⟩:=X4.at (j:=i) (by lia);have lr:=X4.w.2 row mr;refine bV (bD.of X4.g) (cX evq) ?_;exists ⟨b,5,rfl,X4.B,by decide,by decide,λc H9 c0 c1 B9 u9=>?_⟩;have X9:=X4.upto hB u9 B9;exists bN λtc HA sA gA=>?_
    have XA:=X9.same sA;obtain ⟨row2,q2,er2,evq2,mr2,R2⟩:=XA.at (j:=j) (by lia);have lr2:=XA.w.2 row2 mr2;obtain ⟨row3,q3,er3,evq3,mr3,R3⟩:=XA.at (j:=i) (by lia);rw[er] at er3;cases er3;rw[evq] at evq3;cases evq3;have fc:Fr (3^0) 2 ((c - 2:Int):Rat):=Fr.int (by lia)
    have f1:∀y∈row2,Fr (3^t) (2*3^t) (((c - 2:Int):Rat)*y):=λy hy=>by
     have:=fc.mul (XA.f row2 mr2 y hy);rwa [Nat.pow_zero,tS] at this
    have s1:∀y∈row2,ky (((c - 2:Int):Rat)*y):=λy hy=>kn (tR (by decide)) (Ee (t:=t) (by lia)) (v5 (i:=1) (by decide) (Ee (t:=t) (by lia)) (av _)) (by decide) (f1 y hy)
    exists bV (bD.of XA.g) (cX evq2) ?_;exists ⟨_,q2,((c - 2:Int):Rat),row2,rfl,bU.mk gA rfl,kn (a:=0) (b:=1) (by decide) (by decide) (by decide) (by decide) fc,R2,by lia,XA.szn (by lia) row2 mr2,λr1 HB nB sB RB=>?_⟩;exists ⟨q,r1,row,_,rfl,R3.same sB,RB,by rw[ag];lia,by lia,XA.szn (by lia) row mr,λy hy=>?_,λr HC nC sC RC=>?_⟩
    ·obtain ⟨z,hz,rfl⟩:=aA.mp hy;exact s1 z hz
    have sBC:=sB.trans sC;exists dC (XA.same sBC).g (dY (by lia)) rfl ?_;refine ⟨_,_,_,_,_,rfl,XA.set hB sBC (sB.none nC) RC (by rw[bG,ag];lia) (λx hx=>?_)⟩;obtain ⟨k,hk,rfl⟩:=bZ hx;rw[iW,vO];rw[bG,ag] at hk;have:=(XA.f row mr _ (aS (show k < row.length by lia))).add (f1 _ (aS (show k < row2.length by lia)));rw[fF,cB];exact (this.scaleL 3).mono (by lia)
  ·rintro σ' H' ⟨vs,rows,y1,y2,y3,rfl,X⟩;exists k l rows T H' nl ⟨vs,X.g,X.pr,X.ni⟩ X.w (by lia) X.f X.B X.u
theorem xk:a7 ["grid","wide"] ["grid","wide"] (aH kY):=by walk_at "d"
theorem kb (T:Txt K mg Z):cw P w K mg base fJ 1 Z.qN Z.qE ["grid","wide"] (BD K):=by
 refine T.fP.F.ok xk (λvs H Q E h=>?_) (λcdv A outer s H vs Q E hr h=>?_)
 ·obtain ⟨p,w,H0,rows,rfl,_⟩:=h;rfl
 ·obtain ⟨p,w,H0,rows,rfl,hp,hz,hw,hl,kk⟩:=h;refine ⟨_,(ay (aW (bT ["place"] ["grid"] [0] (bP rfl T.range (ae (pv 1) ai)) (λ_=>(aI (i:=0) (show ND9 ["place","grid"] by decide +kernel) rfl (Or.inr rfl) (Or.inl rfl))) (λ_=>bW) (λ_=>(bT ["line"] ["place"] [0] (xy K (pv 1)) (λ_=>(aI (i:=0) (show ND9 ["line","place"] by decide +kernel))) (λ_=>bW) (λ_=>(aV (fv K (by rfl)) (pv 0) (pv 1)))))))),?_⟩;refine aT (σ:=[some (.ref p),some (.int w)]) rfl ?_;exists ⟨by lia,by lia,?_⟩;refine eo (n:=w) (c4 K H) (λj=>rows.map λxs=>xs.getD j 0) hw (λa b=>a.same b) ?_ ?_
  ·rintro j H1 NY NN hj s1 k1;obtain ⟨xs,gx,qx,_⟩:=hp.same s1;exists ⟨⟨_,bD.of gx⟩,?_⟩;refine cW (K:=K) (F:=c4 K H0) (bU K) (λxs=>xs.getD j 0) gx qx hz (λa b=>a.same b) (λa b=>a.same b) ?_ ?_
   ·rintro i ns x H2 NY2 NN2 en s2 ⟨u,rfl,_,zs,gz,qz⟩ k2;obtain ⟨v,ev,hv⟩:=Bi qz (j:=j) (by rw[hl ns (ao en)];exact hj);exists bV (bD.of gz) ev ?_;exact k2 _ _ (aE.refl _) hv
   ·rintro ys' H2 r hr s2 g pr nx;exact k1 _ _ s2 ⟨r,rfl,s1.none hr,ys',g,pr⟩
  ·rintro ys' H1 r hr s1 g pr nx;exact kk r H1 hr s1 ⟨ys',g,pr,iU nx⟩
theorem Ak:a7 ["row","bottom"] ["row","bottom"] (aH oQ):=by walk_at "d"
theorem ng (T:Txt K mg Z):cw P w K mg base fJ 1 Z.vq Z.uU ["row","bottom"] (BE K):=by
 refine T.iF.F.ok Ak (λvs H Q E h=>?_) (λcdv A outer s H vs Q E hr h=>?_)
 ·obtain ⟨p,ns,M,B,rfl,_⟩:=h;rfl
 ·obtain ⟨p,ns,M,B,rfl,hp,hl,hz,hB,sB,q⟩:=h;refine ⟨_,(ay (aW (bT ["value"] ["bottom"] [1] (cb (pv 0)) (λ_=>(aI (i:=0) (show ND9 ["value","bottom"] by decide +kernel))) (λ_=>bW) (λ_=>(bA cH (aV (p6 K (by rfl)) (pv 0) aj) (bA gK (pv 1) (aV (p6 K (by rfl)) (pv 0) aj))))))),?_⟩;refine aT (σ:=[some (.ref p),some (.int B)]) rfl ?_;obtain ⟨xs,gx,qx⟩:=id hp;have lx:=qx.length;exists ⟨⟨_,bD.of gx⟩,?_⟩;refine dO (K:=K) (xs:=xs) (λi ys H'=>H'=H/\ys=(eK (ns.take i) B).map V.int) (aR (bB (by lia))) ⟨rfl,rfl⟩ (λi ys H' _ ⟨e,_⟩=>by subst e;exact bD.of gx) ?_ ?_
  ·rintro i x ys H' hx hlen ⟨rfl,rfl⟩;obtain ⟨n,en,r,rfl,hr1⟩:=cG qx hx;have nz:=hz.2.2 n (ao en);have sn:Sz 4400 n.2:=AZ hz.1 nz.2.1 hz.2.1;exists fj (show mI _ _ from ⟨by lia,sn.mono (by decide)⟩) ?_;rw[b7 _ (by lia)]
   have sq:Sz 4400 (B / n.2):=sB.le (by
    rw[Mb (by lia)];exact Nat.div_le_self ..)
   exists fj (show fR _ _ from .inr ⟨_,_,nz.2.2,sq,by decide⟩) ?_;exact ⟨rfl,by rw[take_snoc en];simp [eK]⟩
  ·rintro ys H' hy ⟨rfl,rfl⟩ l hl';exact q l _ hl' (aE.new hl') (by rw[aG,aJ (by lia)])
theorem ff:a7 ["wholes","multiple","whole"] ["wholes"] (aH iq):=by walk_at "d"
theorem rJ (T:Txt K mg Z):cw P w K mg base fJ 2 Z.kO Z.kM ["wholes"] (F5 K):=by
 refine T.gU.F.ok ff (λvs H Q E h=>?_) (λcdv A outer s H vs Q E hr h=>?_)
 ·obtain ⟨p,bs,M,rfl,_⟩:=h;rfl
 ·obtain ⟨p,bs,M,rfl,hp,hM,sM,hb,q⟩:=h
  refine ⟨_,(au (aY (i:=1) ff.nd rfl (Or.inl rfl) aj)
   (au (dD PassesOwn.never rfl (cb (pv 0)) (aI (i:=2) ff.nd)
    (ay (aY (i:=1) ff.nd rfl (Or.inl rfl) (bA cH (pv 1) (bA gK (pv 2) (cu (iB T) hr T.eC (ae (pv 1) (ae (pv 2) ai))))))))
   (ay (aW (pv 1))))),?_⟩
  refine aT (σ:=[some (.ref p),none,none]) rfl ?_;exists ⟨⟨_,hp⟩,?_⟩;refine jH (K:=K) (a:=p) (xs:=bs.map V.int) (λi σ' H'=>H'=H/\∃x,σ'=[some (.ref p),some (.int (uB (bs.take i) 1)),x]) ⟨rfl,none,rfl⟩ (λi σ' H' _ ⟨e,_⟩=>by subst e;exact hp) ?_ ?_
  ·rintro i x σ' H' hx ⟨rfl,y,rfl⟩;rw[aB] at hx
   obtain ⟨b,eb,rfl⟩:∃b,bs[i]?=some b/\x=.int b:=by
    cases e:bs[i]? with
    | none=>rw[e] at hx;cases hx
    | some b=>rw[e] at hx;cases hx;exact ⟨b,rfl,rfl⟩
   have b1:=hb b (ao eb);have sb:Sz 4400 b:=AZ hM b1.2 sM;have ht:∀c∈bs.take i,0 < c/\c∣M:=λc hc=>hb c (cf hc)
   have msz:Sz 4400 (uB (bs.take i) 1):=AZ hM (wa (by decide) (Int.one_dvd _) ht) sM;generalize hm:uB (bs.take i) 1=m at msz ⊢;have gp:0 < g m b:=xT (by lia);exists ⟨m,b,rfl,?_⟩;exists fj (show mI _ _ from ⟨by lia,(NQ b1.1 sb).mono (by decide)⟩) ?_;rw[b7 _ (by lia)];exists fj (show fR _ _ from .inr ⟨_,_,msz,sb.hi (t:=m) (by lia),by decide⟩) ?_;exists ⟨rfl,_,by rw[take_snoc eb,zl,hm];rfl⟩
  ·rintro σ' H' ⟨rfl,y,rfl⟩;walk_at "w";rw[aJ (by simp)];exact q
theorem t7:a7 ["row"] ["row"] (aH jN):=by walk_at "d"
theorem jf (T:Txt K mg Z):cw P w K mg base fJ 3 Z.oz Z.ou ["row"] (F6 K):=by
 refine T.eT.F.ok t7 (λvs H Q E h=>?_) (λcdv A outer s H vs Q E hr h=>?_)
 ·obtain ⟨p,ns,M,rfl,_⟩:=h;rfl
 ·obtain ⟨p,ns,M,rfl,hp,hl,hz,q⟩:=h;refine ⟨_,(ay (aW (cu (rJ T) hr T.gU (ae (bT ["value"] [] [] (cb (pv 0)) (λ_=>(aI (i:=0) (show ND9 ["value"] by decide +kernel))) (λ_=>bW) (λ_=>(aV (p6 K (by rfl)) (pv 0) aj))) ai)))),?_⟩;refine aT (σ:=[some (.ref p)]) rfl ?_;obtain ⟨xs,gx,qx⟩:=id hp;have lx:=qx.length;exists ⟨⟨_,bD.of gx⟩,?_⟩;refine dO (K:=K) (xs:=xs) (λi ys H'=>H'=H/\ys=((ns.take i).map (·.2)).map V.int) (aR (bB (by lia))) ⟨rfl,rfl⟩ (λi ys H' _ ⟨e,_⟩=>by subst e;exact bD.of gx) ?_ ?_
  ·rintro i x ys H' hx hlen ⟨rfl,rfl⟩;obtain ⟨n,en,r,rfl,hr1⟩:=cG qx hx;exists ⟨rfl,by rw[take_snoc en];simp⟩
  ·rintro ys H' hy ⟨rfl,rfl⟩ l hl';exists ⟨l,ns.map (·.2),M,rfl,bD.of (by rw[aG,aJ (by lia)]),hz.1,hz.2.1,λb hb=>?_,?_⟩
   ·obtain ⟨n,hn,rfl⟩:=aA.mp hb;exact ⟨(hz.2.2 n hn).1,(hz.2.2 n hn).2.1⟩
   ·exact q _ (aE.new hl')
theorem qj:a7 ["lines","begin","place","at"] ["lines","begin","place"] (aH mS):=by walk_at "d"
theorem yC (T:Txt K mg Z):cw P w K mg base fJ 1 Z.tF Z.sW ["lines","begin","place"] y8:=by
 refine T.lG.F.ok qj (λvs H Q E h=>?_) (λcdv A outer s H vs Q E hr h=>?_)
 ·obtain ⟨l,p,ls,b,c,rfl,_⟩:=h;rfl
 ·obtain ⟨l,p,ls,b,c,rfl,G,l1000,b1000,hc,k1,k2⟩:=h
  refine ⟨_,(au (dD PassesOwn.never rfl (Fc rfl T.range (ae (pv 1) (ae (bq aX (by rfl) T.len aQ (ae (pv 0) ai)) ai))) (aI (i:=3) qj.nd)
    (ay (cy (aZ sL (aV bC (aV bC (pv 0) (pv 3)) (pv 2)) aj (bg _)) (ay (aW (pv 3))) bF)))
   (ay (aW Az))),?_⟩
  refine aT (σ:=[some (.ref p),some (.int b),some (.int c),none]) rfl ?_;obtain ⟨_,xs,gx,qx⟩:=id G;have lx:=qx.length;exists ⟨_,_,rfl,.inl (bD.of gx),?_⟩;rw[<- lx];exists ⟨⟨by lia,by lia,by lia,by lia⟩,?_⟩;refine zu (lo:=(b:Int)) (n:=((ls.length:Int) - (b:Int)).toNat) (λi σ' H'=>H'=H/\(∃y,σ'=[some (.ref p),some (.int b),some (.int c),y])/\∀s,b<=s->s < b+i->dF ls s c=0) ⟨rfl,⟨_,rfl⟩,λs h1 h2=>absurd h2 (by lia)⟩ ?_ ?_
  ·rintro i σ' H' hi ⟨rfl,⟨y,rfl⟩,hz⟩;rw[show ((b:Int)+(i:Int))=((b+i:Nat):Int) by lia];obtain ⟨zs,v,ez,ev,mz,q,rfl,_,gq⟩:=df qx (i:=b+i) (by lia);exists bV (bD.of gx) (cX ev) ?_;exists bV (bD.of gq) (Bt (hc zs mz)) ?_;walk_at "w";have ef:=KE (c:=c) ez;by_cases e:zs.getD c 0=0
   ·rw[decide_eq_true e];exists ⟨rfl,⟨_,rfl⟩,λs h1 h2=>?_⟩;by_cases e2:s=b+i
    ·rw[e2,ef,e];rfl
    ·exact hz s h1 (by lia)
   ·rw[decide_eq_false e];exists k1 (b+i) (by lia) (by lia) (by rw[ef];exact NF.mpr e)
  ·rintro σ' H' ⟨rfl,⟨y,rfl⟩,hz⟩;exists k2 λt h1 h2=>hz t h1 (by lia)
theorem mP:a7 ["lines","at","place","before","used","by","swept"] ["lines","at","place","before"] (aH uh):=by walk_at "d"
theorem Ds (T:Txt K mg Z):cw P w K mg base fJ 1 Z.zT Z.zD ["lines","at","place","before"] y9:=by
 refine T.rO.F.ok mP (λvs H Q E h=>?_) (λcdv A outer s H vs Q E hr h=>?_)
 ·obtain ⟨l,p,ls,kk,c,n,b,rfl,_⟩:=h;rfl
 ·obtain ⟨l,p,ls,kk,c,n,b,rfl,hl,G,l1000,hk,hw,n1000,hc,b0,sb,hs,k⟩:=h
  refine ⟨_,(au (aY (i:=4) mP.nd rfl (Or.inr rfl) (aV bC (pv 0) (pv 1)))
   (au (aY (i:=5) mP.nd rfl (Or.inr rfl) (aV bC (pv 4) (pv 2)))
   (au (gM 6 ["line"] ["used","by","place","before"] [4,5,2,3] mP.nd rfl rfl (cb (pv 0)) (λ_=>(aI (i:=0) (show ND9 ["line","used","by","place","before"] by decide +kernel) rfl (Or.inr rfl) (Or.inl rfl))) (λ_=>bW) (λ_=>(bT ["mine","yours"] ["by","line","place","before"] [2,0,3,4] (GC K rfl T.zip (ae (pv 0) (ae (pv 1) ai))) (λ_=>(pW K 2 (cz (aI (i:=0) (show ND9 ["mine","yours","by","line","place","before"] by decide +kernel)) (cz (aI (i:=1) (show ND9 ["mine","yours","by","line","place","before"] by decide +kernel)) iw)))) (λ_=>bW) (λ_=>(bA gK (bA je (bA cH (pv 2) (pv 0)) (bA cH (aV (fv K (by rfl)) (pv 3) (pv 4)) (pv 1))) (pv 5))))))
   (au (dU (pv 4) (fk (pv 6) (pv 1) set_list))
   (ay (aW (pv 6))))))),?_⟩
  refine aT (σ:=[some (.ref p),some (.int kk),some (.int c),some (.int b),none,none,none]) rfl ?_;obtain ⟨pl,xs,gx,qx⟩:=id G;have lx:=qx.length;obtain ⟨zk,vk,ek,evk,mk,qk,rfl,qkl,gk⟩:=df qx hk;have wk:=hw zk mk;have ek':ls.getD kk []=zk:=by rw[aa,ek];rfl
  exists bV (bD.of gx) (cX evk) ?_;exists bV (bD.of gk) (Bt (by lia)) ?_;exists ⟨⟨_,bD.of gx⟩,?_⟩;refine dO (K:=K) (xs:=xs) (λi ys H'=>aE H H'/\Paired (EE l H') ((ls.take i).map λzs=>List.zipWith (λx y=>(zk.getD c 0*x - zs.getD c 0*y).fdiv b) zs zk) ys) (aR (bB (by lia))) ⟨aE.refl _,.nil⟩ (λi ys H' _ ⟨s,_⟩=>bD.of (s _ _ gx)) ?_ ?_
  ·rintro i v ys0 H' hx hlen ⟨s',pr⟩;obtain ⟨zs,ec,q,rfl,ql,gq⟩:=cG qx hx;have mz:=ao ec;have wz:=hw zs mz;have gq':=s' _ _ gq;have gk':=s' _ _ gk;exists ⟨⟨_,bD.of gq'⟩,⟨_,bD.of gk'⟩,?_⟩;refine tz (K:=K) (xs:=zs.map V.int) (ws:=zk.map V.int) (λj ys H2=>aE H' H2/\ys=((List.zipWith (λx y=>(zk.getD c 0*x - zs.getD c 0*y).fdiv b) zs zk).take j).map V.int) (aR (bB (by rw[ag];lia))) (by rw[ag,ag];lia) ⟨aE.refl _,rfl⟩ (λj ys H2 _ ⟨s2,_⟩=>⟨bD.of (s2 _ _ gq'),bD.of (s2 _ _ gk')⟩) ?_ ?_
   ·rintro j v1 v2 ys H2 r h1 h2 hy ⟨s2,rfl⟩ hr
    obtain ⟨x,ex,rfl⟩:∃x,zs[j]?=some x/\V.int x=v1:=by
     rw[aB] at h1;cases e:zs[j]? with
     | none=>rw[e] at h1;cases h1
     | some x=>rw[e] at h1;exact ⟨x,rfl,bR h1⟩
    obtain ⟨y,ey,rfl⟩:∃y,zk[j]?=some y/\V.int y=v2:=by
     rw[aB] at h2;cases e:zk[j]? with
     | none=>rw[e] at h2;cases h2
     | some x=>rw[e] at h2;exact ⟨x,rfl,bR h2⟩
    have sr:aE H2 (upd H2 r (.tup [.int x,.int y])):=aE.new hr;have gr:(upd H2 r (.tup [.int x,.int y])) r=some (.tup [.int x,.int y]):=aG;generalize upd H2 r (.tup [.int x,.int y])=H3 at sr gr ⊢;have gq3:=sr _ _ (s2 _ _ gq');have sx:=hs zs mz x (ao ex);have sy:=hs zk mk y (ao ey);have s1:=hs zk mk _ (getD_in (e:=0) (show c < zk.length by lia));have s3:=hs zs mz _ (getD_in (e:=0) (show c < zs.length by lia));exists fj (show fR _ _ from .inr ⟨_,_,s1,sx,by decide⟩) ?_;exists bV (bD.of gq3) (Bt (by lia)) ?_;exists fj (show fR _ _ from .inr ⟨_,_,s3,sy,by decide⟩) ?_;exists fj (show mI _ _ from ⟨b0,sb⟩) ?_;have ez:(List.zipWith (λx y=>(zk.getD c 0*x - zs.getD c 0*y).fdiv b) zs zk)[j]?=some ((zk.getD c 0*x - zs.getD c 0*y).fdiv b):=by rw[bO,ex,ey]
    exact ⟨s2.trans sr,by rw[take_snoc ez];simp⟩
   ·rintro ys H2 hy ⟨s2,rfl⟩ r hr;have sn:aE H2 (upd H2 r (.lst (((List.zipWith (λx y=>(zk.getD c 0*x - zs.getD c 0*y).fdiv b) zs zk).take (zs.map V.int).length).map V.int))):=aE.new hr;refine ⟨(s'.trans s2).trans sn,?_⟩;rw[take_snoc ec,cD];refine cx (Paired.imp' (λ_ _ z=>(EE.same z s2).same sn) pr) (.cons ⟨r,rfl,ne_old (λz=>hl (s'.none (s2.none z))) hr,?_⟩ .nil);rw[aG,aJ (by rw[bG,ag];lia)]
  ·rintro ys H1 hy ⟨s1,pr⟩ r hr;have sn:aE H1 (upd H1 r (.lst ys)):=aE.new hr;have gn:(upd H1 r (.lst ys)) r=some (.lst ys):=aG;have ly:=pr.length;rw[ag,bY] at ly;generalize upd H1 r (.lst ys)=H2 at sn gn ⊢;exists dC gn (dY (by lia)) rfl ?_;have s2:aE H1 (upd H2 r (.lst (ys.set kk (.ref qk)))):=sn.after hr;exists k r _ (s1.none hr) (s1.trans s2) ⟨ne_old (λz=>hl (s1.none z)) hr,_,aG,?_⟩;unfold CH;rw[ek'];rw[aJ (by lia)] at pr;exact j8 (Paired.imp' (λ_ _ z=>EE.same z s2) pr) kk ⟨qk,rfl,qkl,(s1.trans s2) _ _ gk⟩
theorem qo:a7 ["lines","at","to","swapped"] ["lines","at","to"] (aH mT):=by walk_at "d"
theorem yD (T:Txt K mg Z):cw P w K mg base fJ 1 Z.tG Z.sX ["lines","at","to"] uN:=by
 refine T.lH.F.ok qo (λvs H Q E h=>?_) (λcdv A outer s H vs Q E hr h=>?_)
 ·obtain ⟨l,p,ls,t,kk,rfl,_⟩:=h;rfl
 ·obtain ⟨l,p,ls,t,kk,rfl,hl,G,l1000,ht,hk,k⟩:=h
  refine ⟨_,(au (aY (i:=3) qo.nd rfl (Or.inl rfl) (eS oi (by rfl) T.list PyProof.Rows.boot_list (ae (pv 0) ai)))
   (au (dU (aV bC (pv 0) (pv 1)) (fk (pv 3) (pv 2) set_list))
   (au (dU (aV bC (pv 0) (pv 2)) (fk (pv 3) (pv 1) set_list))
   (ay (aW (pv 3)))))),?_⟩
  refine aT (σ:=[some (.ref p),some (.int t),some (.int kk),none]) rfl ?_;obtain ⟨pl,xs,gx,qx⟩:=id G;have lx:=qx.length;obtain ⟨zt,vt,et,evt,_,Ft⟩:=df qx ht;obtain ⟨zk,vk,ek,evk,_,Fk⟩:=df qx hk;exists ⟨p,xs,rfl,.inl (bD.of gx),λc hc=>?_⟩;have sc:aE H (upd H c (.lst xs)):=aE.new hc;have gc:(upd H c (.lst xs)) c=some (.lst xs):=aG;generalize upd H c (.lst xs)=Hc at sc gc ⊢;exists bV (bD.of (sc _ _ gx)) (cX evt) ?_;exists dC gc (dY (by lia)) rfl ?_;have s1:aE H (upd Hc c (.lst (xs.set kk vt))):=sc.after hc;have g1:(upd Hc c (.lst (xs.set kk vt))) c=some (.lst (xs.set kk vt)):=aG;generalize upd Hc c (.lst (xs.set kk vt))=H1 at s1 g1 ⊢;exists bV (bD.of (s1 _ _ gx)) (cX evk) ?_;exists dC g1 (dY (by rw[dA];lia)) rfl ?_;have s2:aE H (upd H1 c (.lst ((xs.set kk vt).set t vk))):=s1.after hc;exists k c _ hc s2 ⟨ne_old hl hc,_,aG,?_⟩;have et':ls.getD t []=zt:=by rw[aa,et];rfl
  have ek':ls.getD kk []=zk:=by rw[aa,ek];rfl
  unfold mM;rw[et',ek'];exact j8 (j8 (Paired.imp' (λ_ _ z=>EE.same z s2) qx) kk (EE.same Ft s2)) t (EE.same Fk s2)
theorem ij:a7 ["rows","wide","lines","leads","before","place","many","at"] ["rows","wide"] (aH As):=by walk_at "d"
theorem GN (T:Txt K mg Z):cw P w K mg base fJ 4 Z.ED Z.Ez ["rows","wide"] (yV K):=by
 refine T.xJ.F.ok ij (λvs H Q E h=>?_) (λcdv A outer s H vs Q E hr h=>?_)
 ·obtain ⟨p,n,w,H0,rows,rfl,_⟩:=h;rfl
 ·obtain ⟨p,n,w,H0,rows,rfl,G,r100,n100,hw,F,k⟩:=h
  refine ⟨_,(au (gM 2 ["row"] [] [] ij.nd rfl rfl (cb (pv 0)) (λ_=>(aI (i:=0) (show ND9 ["row"] by decide +kernel))) (λ_=>bW) (λ_=>(cu (ng T) hr T.iF (ae (pv 0) (ae (cu (jf T) hr T.eT (ae (pv 0) ai)) ai)))))
   (au (aY (i:=3) ij.nd rfl (Or.inl rfl) (d7 ai))
   (au (aY (i:=4) ij.nd rfl (Or.inl rfl) aj)
   (au (dD PassesOwn.never rfl (bP rfl T.range (ae (pv 1) ai)) (aI (i:=5) ij.nd)
    (au (aY (i:=6) ij.nd rfl (Or.inl rfl) (bq aX (by rfl) T.len aQ (ae (pv 3) ai)))
   (au (aY (i:=7) ij.nd rfl (Or.inl rfl) (cu (yC T) hr T.lG (ae (pv 2) (ae (pv 6) (ae (pv 5) ai)))))
   (ay (cy (aZ Ju (pv 7) Az (bg _)) (au (aY (i:=2) ij.nd rfl (Or.inl rfl) (cu (Ds T) hr T.rO (ae (cu (yD T) hr T.lH (ae (pv 2) (ae (pv 7) (ae (pv 6) ai)))) (ae (pv 6) (ae (pv 5) (ae (pv 4) ai))))))
   (au (aY (i:=4) ij.nd rfl (Or.inl rfl) (aV bC (aV bC (pv 2) (pv 6)) (pv 5)))
   (ay (kE (zd eF fL fK ma (pv 3) (ae (pv 5) ai)))))) bF)))))
   (ay (aW (cn (ae (xA Ah (pv 2) Aw (Av (bq aX (by rfl) T.len aQ (ae (pv 3) ai)))) (ae (pv 3) ai))))))))),?_⟩
  refine aT (σ:=[some (.ref p),some (.int n),none,none,none,none,none,none]) rfl ?_;obtain ⟨xs,gx,qx,_⟩:=id G;obtain ⟨W,hW,W2,ent⟩:=F.ent;obtain ⟨_,_,_,_,_,_,_,_,r15,r89⟩:=id F;exists ⟨⟨_,bD.of gx⟩,?_⟩;refine cW (K:=K) (as:=rows) (F:=c4 K H0) (λ(H:Hp) (zs:List Int) (v:V)=>∃q,v=V.ref q/\H q=some (.lst (zs.map V.int))) gH gx qx (by lia) (λa b=>a.same b) (λ⟨q,a,b⟩ s=>⟨q,a,s _ _ b⟩) ?_ ?_
  ·rintro i qs v H' NY NN ec s' ⟨u,rfl,_,R⟩ k1;have mx:=ao ec;obtain ⟨M,hM⟩:=F.rowM mx;obtain ⟨b1,sb⟩:=hM.bot;have lq:(qs.map nm).length<=1000:=by rw[ag,hw qs mx];lia
   exists ⟨u,_,M,rfl,R.rowK,lq,hM,λH2 s2=>?_⟩;exists ⟨u,_,M,_,rfl,(R.same s2).rowK,lq,hM,b1,sb,λr H3 n3 s3 g3=>k1 _ _ (s2.trans s3) ⟨r,rfl,g3⟩⟩
  rintro ys H1 lp0 hlp s1 g1 pr1 nx1;exists dj λqp H2 s2 nq gq=>?_
  have G2:pP qp H2 lp0 (rows.map gH):=⟨(λz=>by rw[z,nq] at g1;cases g1),ys,s2 _ _ g1,Paired.imp' (λ_ _ ⟨q,a,b⟩=>⟨q,a,(λz=>by rw[z,nq] at b;cases b),s2 _ _ b⟩) pr1⟩;have hq0:H qp=none:=s1.none nq;have s02:=s1.trans s2;have hm:(rows.map gH).length=rows.length:=ag ..;clear g1 pr1 nx1;exists ⟨by lia,by lia,?_⟩;refine dg (n:=n) (λP σ' H'=>aE H H'/\∃lp ls ps d y1 y2 y3,σ'=[some (.ref p),some (.int n),some (.ref lp),some (.ref qp),some (.int d),y1,y2,y3]/\H' qp=some (.lst (dn ps))/\pP qp H' lp ls/\zW (rows.map gH) n P ls ps d) ⟨s02,lp0,rows.map gH,[],1,_,_,_,rfl,gq,G2,zW.start λzs hz=>by obtain ⟨x,hx,rfl⟩:=aA.mp hz;rw[rX];exact hw x hx⟩ ?_ ?_
  ·rintro P σ' H' hP ⟨s',lp,ls,ps,d,y1,y2,y3,rfl,gq',G',I⟩;have hl:=I.len;have kP:=I.el.kP;have km:=I.el.km;have lps:(dn ps).length=ps.length:=ag ..;have hqp:H' qp≠none:=by rw[gq'];exact λz=>nomatch z
   obtain ⟨z1,z2⟩:=I.sz (r:=min rows.length n) hW ent (by lia) (by rw[hm];exact av _) r15;have big:(16*W)^min rows.length n < 2^8999:=bc (uq W2) (d4 (by decide) (by lia));exists ⟨_,_,rfl,.inl (bD.of gq'),?_⟩;rw[lps];exists ⟨qp,lp,ls,ps.length,P,rfl,G',by lia,by lia,λzs hz=>by rw[I.wide zs hz];exact hP,λt h1 h2 h3=>?_,λhz=>?_⟩
   ·exists ⟨rfl,_,rfl,?_⟩;rw[show decide (V.int (t:Int)=V.non)=false from decide_eq_false (λz=>nomatch z)];exists ⟨qp,lp,ls,t,ps.length,rfl,hqp,G',by lia,h2,by lia,λl1 Ha na sa Ga=>?_⟩;exists ⟨qp,l1,_,ps.length,P,n,d,rfl,λz=>hqp (sa.none z),Ga,by rw[tW];lia,by rw[tW];lia,DV I.wide (by lia) h2,by lia,hP,I.d0,bc z1 big,λzs hz z hz'=>?_,λl2 Hb nb sb Gb=>?_⟩
    ·unfold mM at hz;have key:∀ys,ys∈ls->∀z∈ys,Sz 8999 z:=λys hy z hz=>bc (z2 ys hy z hz) big
     rcases bE hz with h | h
     ·rcases bE h with h | h
      ·exact key zs h z hz'
      ·rw[h] at hz';exact key _ (getD_in h2) z hz'
     ·rw[h] at hz';exact key _ (getD_in (by lia)) z hz'
    have sab:=sa.trans sb;have I2:=I.step hW ent h1 h2 h3;have hk2:ps.length < (CH (mM ls ps.length t) ps.length P d).length:=by rw[Il,tW];lia
    obtain ⟨n2,xs2,gx2,qx2⟩:=id Gb;obtain ⟨zk,vk,ek,evk,mk,qk,rfl,_,gk⟩:=df qx2 hk2;have wk:=I2.wide zk mk;exists bV (bD.of gx2) (cX evk) ?_;exists bV (bD.of gk) (Bt (by lia)) ?_;have gqb:=sab _ _ gq';exists ⟨.inl ⟨rfl,_,bD.of gqb⟩,?_⟩;exists lY gqb (bB (by lia)) ?_;refine ⟨(s'.trans sab).after hq0,l2,_,ps++[P],_,_,_,_,rfl,?_,Gb.upd,?_⟩
    ·rw[aG];unfold dn;rw[cD];rfl
    ·have e:(CH (mM ls ps.length t) ps.length P d).getD ps.length []=zk:=by rw[aa,ek];rfl
     rw[e] at I2;exact I2
   ·exists ⟨rfl,_,rfl,?_⟩;rw[show decide (V.non=V.non)=true from decide_eq_true rfl];exists ⟨s',lp,ls,ps,d,_,_,_,rfl,gq',G',I.skip hz⟩
  rintro σ' H' ⟨s',lp,ls,ps,d,y1,y2,y3,rfl,gq',G',I⟩;obtain ⟨R,hR⟩:=I.done hw F;have lps:(dn ps).length=ps.length:=ag ..;obtain ⟨nl,xs',gx',qx'⟩:=id G';exists ⟨_,_,rfl,.inl (bD.of gq'),?_⟩;rw[lps];exists Gn (bD.of gx') λsl H3 s3 n3 g3=>?_
  rw[Ii] at g3;exists bN λt H4 s4 g4=>?_
  have s34:=s3.trans s4;exact k t sl qp R ps d _ H4 g4 (s34 _ _ gq') ⟨(λz=>by rw[z,gq'] at n3;cases n3),_,s4 _ _ g3,Paired.imp' (λ_ _ z=>EE.same z s34) (uO qx' ps.length)⟩ (s'.trans s34) hR
theorem tY:a7 ["top","bottom","divisor"] ["top","bottom"] (aH xo):=by walk_at "d"
theorem zg (T:Txt K mg Z):cw P w K mg base fJ 2 Z.CM Z.CF ["top","bottom"] EX:=by
 refine T.pZ.F.ok tY (λvs H Q E h=>?_) (λcdv A outer s H vs Q E hr h=>?_)
 ·obtain ⟨t,b,rfl,_⟩:=h;rfl
 ·obtain ⟨t,b,rfl,hb,hs,k⟩:=h
  refine ⟨_,(au (aY (i:=2) tY.nd rfl (Or.inl rfl) (cu (iB T) hr T.eC (ae (pv 0) (ae (pv 1) ai))))
   (au (cy (aZ l8 (pv 1) aj (bg _)) (ay (aY (i:=2) tY.nd rfl (Or.inl rfl) (Cj wL (pv 2)))) bF)
   (ay (aW (cn (ae (bA gK (pv 0) (pv 2)) (ae (bA gK (pv 1) (pv 2)) ai))))))),?_⟩
  refine aT (σ:=[some (.int t),some (.int b),none]) rfl ?_;exists ⟨t,b,rfl,?_⟩;have hg:=xT (t:=t) hb
  have hgs:Sz 8999 (g t b):=hs.le (by
   have h1:(g t b).natAbs=Int.gcd t b:=by unfold g;simp
   rw[h1];exact fM (by lia) (by have:=eG (a:=t) (b:=b);exact dN.mpr this |> λz=>by simpa using z))
  have hgn:g (-t) (-b)=g t b:=by unfold g;rw[Int.gcd_neg,Int.neg_gcd]
  exists fq (λh=>?_) (λh=>?_)
  ·have hb0:b < 0:=of_decide_eq_true h;exists fj (show mI _ _ from ⟨by lia,hgs.neg⟩) ?_;exists fj (show mI _ _ from ⟨by lia,hgs.neg⟩) ?_;exists bN λr H' s' h'=>?_
   have e1:t.fdiv (-g t b)=lo (-t) (-b):=by
    unfold Nm.lo;rw[hgn,<- b7 _ (by lia),<- Int.neg_fdiv_neg (-t),Int.neg_neg]
   have e2:b.fdiv (-g t b)=hi (-t) (-b):=by
    unfold Nm.hi;rw[hgn,<- b7 _ (by lia),<- Int.neg_fdiv_neg (-b),Int.neg_neg]
   exact k r H' s' (by rw[if_pos hb0,if_pos hb0,<- e1,<- e2];exact h')
  ·have hb0:¬b < 0:=λz=>h (decide_eq_true z)
   exists fj (show mI _ _ from ⟨by lia,hgs⟩) ?_;exists fj (show mI _ _ from ⟨by lia,hgs⟩) ?_;exists bN λr H' s' h'=>?_
   rw[b7 _ (by lia),b7 _ (by lia)] at h';exact k r H' s' (by rw[if_neg hb0,if_neg hb0];exact h')
theorem xj:a7 ["rows","wide","found"] ["rows","wide"] (aH uc):=by walk_at "d"
theorem Dn (T:Txt K mg Z):cw P w K mg base fJ 5 Z.zP Z.zz ["rows","wide"] (uL K):=by
 refine T.rL.F.ok xj (λvs H Q E h=>?_) (λcdv A outer s H vs Q E hr h=>?_)
 ·obtain ⟨p,n,w,H0,rows,rfl,_⟩:=h;rfl
 ·obtain ⟨p,n,w,H0,rows,rfl,G,r100,n100,hw,F,k⟩:=h
  refine ⟨_,(au (aY (i:=2) xj.nd rfl (Or.inl rfl) (cu (GN T) hr T.xJ (ae (pv 0) (ae (pv 1) ai))))
   (ay (aW (bT ["line","lead"] [] [] (v7 rfl T.zip (ae (aV bJ (pv 2) aj) (ae (aV bJ (pv 2) aj) ai))) (λ_=>(pW K 2 (cz (aI (i:=0) (show ND9 ["line","lead"] by decide +kernel) rfl (Or.inr rfl) (Or.inl rfl)) (cz (aI (i:=1) (show ND9 ["line","lead"] by decide +kernel) rfl (Or.inr rfl) (Or.inl rfl)) iw)))) (λ_=>bW) (λ_=>(bT ["top"] ["line","lead"] [0,1] (xy K (pv 0)) (λ_=>(aI (i:=0) (show ND9 ["top","line","lead"] by decide +kernel))) (λ_=>bW) (λ_=>(cu (zg T) hr T.pZ (ae (pv 0) (ae (aV (fv K (by rfl)) (pv 1) (pv 2)) ai)))))))))),?_⟩
  refine aT (σ:=[some (.ref p),some (.int n),none]) rfl ?_;obtain ⟨_,_,_,_,_,_,_,_,r15,r89⟩:=id F;exists ⟨p,n,w,H0,rows,rfl,G,r100,n100,hw,F,λt lp qp R ps d ls H1 gt gq G1 s1 S=>?_⟩;obtain ⟨lR,wR,RR⟩:=id S.rr;have hl:=S.len;obtain ⟨_,xs,gx,qx⟩:=id G1;have lx:=qx.length;have lps:(dn ps).length=ps.length:=ag ..;have d0:(d:Rat)≠0:=λz=>S.d0 (pK z)
  have dsz:Sz 8999 d:=bc S.dsz (d4 (by decide) (by lia))
  have km:ps.length<=n:=by
   rcases gO n ps.length with z | z
   ·have inc:∀j,j < ps.length->j<=ps.getD j 0:=by
     intro j
     induction j with
     | zero=>intro _;exact bH _
     | succ j ih =>
      intro hj;have:=ih (by lia);have:=RR.inc j (j+1) (by lia) hj
      lia
    have h1:=inc (ps.length - 1) (by lia);have h2:=RR.low (ps.length - 1) (by lia)
    lia
   ·exact z
  exists ⟨⟨_,bD.of gx⟩,⟨_,bD.of gq⟩,?_⟩;refine tz (K:=K) (xs:=xs) (ws:=dn ps) (λi ys H'=>aE H1 H'/\Paired (c4 K H1 H') (R.take i) ys) (aR (bB (by lia))) (by lia) ⟨aE.refl _,.nil⟩ (λi ys H' _ ⟨s,_⟩=>⟨bD.of (s _ _ gx),bD.of (s _ _ gq)⟩) ?_ ?_
  ·rintro i v1 v2 ys H' r h1 h2 hy ⟨s,pr⟩ hr;obtain ⟨zs,ez,q,rfl,_,gq1⟩:=cG qx h1;have hi:i < ls.length:=(aF.mp ez).1;have mz:=ao ez;have wz:=S.wide zs mz
   obtain ⟨j,ej,rfl⟩:∃j:Nat,ps[i]?=some j/\V.int (j:Int)=v2:=by
    unfold dn at h2;rw[aB] at h2;cases e:ps[i]? with
    | none=>rw[e] at h2;cases h2
    | some x=>rw[e] at h2;exact ⟨x,rfl,bR h2⟩
   have ej':ps.getD i 0=j:=by rw[aa,ej];rfl
   have jn:j < n:=by have:=RR.low i (by lia);rw[ej'] at this;exact this
   have sr:aE H' (upd H' r (.tup [.ref q,.int j])):=aE.new hr;have gr:(upd H' r (.tup [.ref q,.int j])) r=some (.tup [.ref q,.int j]):=aG;generalize upd H' r (.tup [.ref q,.int j])=H2 at sr gr ⊢;have s2:=s.trans sr;have iR:i < R.length:=by lia
   have eR:=af iR;have wRi:=wR _ (aS iR)
   have ed:zs.getD j 0=d:=by
    have h:=S.val i j;rw[KE ez] at h;have u:=RR.unit i (by lia) i (by lia);rw[if_pos rfl,ej'] at u;rw[u,Rat.mul_one] at h;exact de.mp h
   have val:∀c,((zs.getD c 0:Int):Rat)=(d:Rat)*(R[i]).getD c 0:=λc=>by
    have h:=S.val i c;rw[KE ez] at h;rw[h];unfold b8;rw[aa (l:=R),eR];rfl
   exists ⟨⟨_,bD.of (s2 _ _ gq1)⟩,?_⟩;refine dO (K:=K) (xs:=zs.map V.int) (λc ys' H3=>aE H2 H3/\Paired (bU K H3) ((R[i]).take c) ys') (aR (bB (by rw[ag];lia))) ⟨aE.refl _,.nil⟩ (λc ys' H3 _ ⟨s3,_⟩=>bD.of ((s2.trans s3) _ _ gq1)) ?_ ?_
   ·rintro c x ys' H3 hx hlen ⟨s3,pr3⟩
    obtain ⟨z,ec,rfl⟩:∃z,zs[c]?=some z/\V.int z=x:=by
     rw[aB] at hx;cases e:zs[c]? with
     | none=>rw[e] at hx;cases hx
     | some x=>rw[e] at hx;exact ⟨x,rfl,bR hx⟩
    have hc:c < zs.length:=(aF.mp ec).1;have vc:=val c;have e1:zs.getD c 0=z:=by rw[aa,ec];rfl
    rw[e1] at vc;exists bV (bD.of ((s2.trans s3) _ _ gq1)) (Bt (by lia)) ?_;rw[ed];exists ⟨z,d,rfl,S.d0,dsz,λr4 H4 s4 g4=>?_⟩;have ec':(R[i])[c]?=some ((R[i]).getD c 0):=by rw[aa,af (show c < (R[i]).length by lia)];rfl
    refine ⟨s3.trans s4,?_⟩;rw[take_snoc ec'];refine cx (Paired.imp' (λ_ _ z=>bU.same z s4) pr3) (.cons (bU.mk g4 ?_) .nil);rcases Int.lt_or_lt_of_ne S.d0 with hd | hd
    ·rw[if_pos hd,if_pos hd];refine nV (by lia) ?_;rw[eH,eH,vc];grind
    ·rw[if_neg (by lia),if_neg (by lia)];refine nV hd ?_;rw[vc];grind
   ·rintro ys' H3 hy' ⟨s3,pr3⟩ l4 hl4;have sn:aE H3 (upd H3 l4 (.lst ys')):=aE.new hl4;refine ⟨(s2.trans s3).trans sn,?_⟩;rw[take_snoc eR];rw[aJ (by rw[ag];lia)] at pr3;exact cx (Paired.imp' (λ_ _ z=>c4.same z ((sr.trans s3).trans sn)) pr) (.cons ⟨l4,rfl,(s2.trans s3).none hl4,ys',aG,Paired.imp' (λ_ _ z=>bU.same z sn) pr3⟩ .nil)
  ·rintro ys H' hy ⟨s,pr⟩ r hr;have sn:aE H' (upd H' r (.lst ys)):=aE.new hr;rw[aJ (by lia)] at pr;refine k r R ps d.natAbs _ (s1.none (s.none hr)) ((s1.trans s).trans sn) ⟨ys,aG,Paired.imp' (λ_ _ z=>(c4.weak z s1).same sn) pr,iU (H0:=H1) (rows:=R) ⟨H',hr,pr⟩⟩ S.rr S.km ?_ S.dsz S.tp;have:=S.d0
   lia
theorem BU:a7 ["many","at"] ["many","at"] (aH rk):=by walk_at "d"
theorem Cm (T:Txt K mg Z):cw P w K mg base fJ 1 Z.yk Z.xX ["many","at"] (BC K):=by
 refine T.pk.F.ok BU (λvs H Q E h=>?_) (λcdv A outer s H vs Q E hr h=>?_)
 ·obtain ⟨m,a',rfl,_⟩:=h;rfl
 ·obtain ⟨m,a',rfl,hm,k⟩:=h;refine ⟨_,(ay (aW (bT ["place"] ["at"] [1] (bP rfl T.range (ae (pv 0) ai)) (λ_=>(aI (i:=0) (show ND9 ["place","at"] by decide +kernel))) (λ_=>bW) (λ_=>(GG (aZ eB (pv 0) (pv 1) (bg _)) (kG (v:=.ref Z.a_ONE) rfl T.mg_ONE rfl) (kG (v:=.ref Z.a_NOUGHT) rfl T.mg_NOUGHT rfl)))))),?_⟩;refine aT (σ:=[some (.int m),some (.int a')]) rfl ?_;exists ⟨by lia,by lia,?_⟩;refine eo (n:=m) (bU K) (λi=>if ((i:Nat):Int)=a' then 1 else 0) hm (λa b=>a.same b) ?_ ?_
  ·rintro i H' NY NN hi s k1;exists fq (λh0=>?_) (λh0=>?_)
   ·exists k1 _ _ (aE.refl _) (by rw[if_pos (of_decide_eq_true h0)];exact ⟨_,rfl,T.sq_ONE _⟩)
   ·exists k1 _ _ (aE.refl _) (by rw[if_neg (λz=>h0 (decide_eq_true z))];exact ⟨_,rfl,T.sq_NOUGHT _⟩)
  ·rintro ys H' l hl s g pr nx;exact k l _ hl s ⟨ys,g,pr⟩
theorem Aj:a7 ["many"] ["many"] (aH oP):=by walk_at "d"
theorem AB (T:Txt K mg Z):cw P w K mg base fJ 2 Z.vp Z.uT ["many"] (EV K):=by
 refine T.nF.F.ok Aj (λvs H Q E h=>?_) (λcdv A outer s H vs Q E hr h=>?_)
 ·obtain ⟨m,rfl,_⟩:=h;rfl
 ·obtain ⟨m,rfl,hm,k⟩:=h;refine ⟨_,(ay (aW (bT ["at"] ["many"] [0] (bP rfl T.range (ae (pv 0) ai)) (λ_=>(aI (i:=0) (show ND9 ["at","many"] by decide +kernel))) (λ_=>bW) (λ_=>(cu (Cm T) hr T.pk (ae (pv 1) (ae (pv 0) ai))))))),?_⟩;refine aT (σ:=[some (.int m)]) rfl ?_;exists ⟨by lia,by lia,?_⟩;refine eo (n:=m) (c4 K H) (λi=>C1 m i) hm (λa b=>a.same b) ?_ ?_
  ·rintro i H' NY NN hi s k1;exists ⟨m,i,rfl,hm,λr H2 n2 s2 h2=>k1 _ _ s2 ⟨r,rfl,s.none n2,h2⟩⟩
  ·rintro ys H' l hl s g pr nx;exact k l _ hl s ⟨ys,g,pr,iU nx⟩
theorem tZ:a7 ["row"] ["row"] (aH jM):=by walk_at "d"
theorem uw (T:Txt K mg Z):cw P w K mg base fJ 1 Z.oy Z.ot ["row"] (BN K):=by
 refine T.jg.F.ok tZ (λvs H Q E h=>?_) (λcdv A outer s H vs Q E hr h=>?_)
 ·obtain ⟨p,xs,j,rfl,_⟩:=h;rfl
 ·obtain ⟨p,xs,j,rfl,R,x1000,hj,hne,hz,k⟩:=h;refine ⟨_,(ay (aW (bq (FA rfl) (by rfl) T.min PyProof.Rows.boot_min (ae (bT ["place","value"] [] [] (Ea rfl T.enumerate (ae (pv 0) ai)) (λ_=>(pW K 2 (cz (aI (i:=0) (show ND9 ["place","value"] by decide +kernel)) (cz (aI (i:=1) (show ND9 ["place","value"] by decide +kernel)) iw)))) (λ_=>GD (aZ (Ef K (by rfl) (uE hr)) (pv 1) (kG (v:=.ref Z.a_NOUGHT) rfl T.mg_NOUGHT rfl) (bg _))) (λ_=>(pv 0))) ai)))),?_⟩;refine aT (σ:=[some (.ref p)]) rfl ?_;obtain ⟨zs,gz,qz⟩:=id R;have lz:=qz.length;exists ⟨⟨_,bD.of gz⟩,?_⟩;refine Fz (K:=K) (xs:=zs) (λi ys H'=>aE H H'/\ys=dn (Cp xs i)) (aR (bB (by lia))) ⟨aE.refl _,rfl⟩ (λi ys H' _ ⟨s,_⟩=>bD.of (s _ _ gz)) ?_ ?_
  ·rintro i v ys H' r hx hlen ⟨s',rfl⟩ hr;obtain ⟨y,ey,ny⟩:=cG qz hx;have ey':xs.getD i 0=y:=by rw[aa,ey];rfl
   have sr:aE H' (upd H' r (.tup [.int i,v])):=aE.new hr;have gr:(upd H' r (.tup [.int i,v])) r=some (.tup [.int i,v]):=aG;generalize upd H' r (.tup [.int i,v])=H2 at sr gr ⊢;exists ⟨_,_,Ht,y,0,by decide,(ny.same s').same sr,⟨_,rfl,T.sq_NOUGHT _⟩,?_⟩;by_cases e:y=0
   ·rw[decide_eq_true e];exists ⟨s'.trans sr,?_⟩;rw[v9,ey',if_neg (by simpa using e)]
   ·rw[decide_eq_false e];exists ⟨s'.trans sr,?_⟩;rw[v9,ey',if_pos e];unfold dn;rw[cD];rfl
  ·rintro ys H1 hy ⟨s1,rfl⟩ l hl;have sn:aE H1 (upd H1 l (.lst (dn (Cp xs zs.length)))):=aE.new hl;have gn:(upd H1 l (.lst (dn (Cp xs zs.length)))) l=some (.lst (dn (Cp xs zs.length))):=aG;generalize upd H1 l (.lst (dn (Cp xs zs.length)))=H2 at sn gn ⊢
   have mj:j∈Cp xs zs.length:=by
    unfold Cp;exact oC.mpr ⟨zZ.mpr (by lia),by simpa using hne⟩
   exists ⟨l,pC (Cp xs zs.length),rfl,bD.of (by rw[<- zi];exact gn),?_,λM hM hle=>?_⟩
   ·unfold pC;rw[ag];exact List.length_pos_of_mem mj
   ·obtain ⟨c,hc,rfl⟩:=aA.mp hM;have h1:=hle j (aA.mpr ⟨j,mj,rfl⟩);have h2:=(oC.mp hc).2
    have e:c=j:=by
     rcases kU c j with z | z | z
     ·exact absurd (hz c z) (of_decide_eq_true h2)
     ·exact z
     ·lia
    rw[e];exact k _ (s1.trans sn)
theorem C9:a7 ["rows"] ["rows"] (aH ue):=by walk_at "d"
theorem Dp (T:Txt K mg Z):cw P w K mg base fJ 2 Z.zQ Z.zA ["rows"] (BO K):=by
 refine T.rM.F.ok C9 (λvs H Q E h=>?_) (λcdv A outer s H vs Q E hr h=>?_)
 ·obtain ⟨p,n,H0,R,ps,rfl,_⟩:=h;rfl
 ·obtain ⟨p,n,H0,R,ps,rfl,G,r100,n100,⟨rows,RR⟩,k⟩:=h;refine ⟨_,(ay (aW (bT ["row"] [] [] (cb (pv 0)) (λ_=>(aI (i:=0) (show ND9 ["row"] by decide +kernel))) (λ_=>bW) (λ_=>(cu (uw T) hr T.jg (ae (pv 0) ai)))))),?_⟩;refine aT (σ:=[some (.ref p)]) rfl ?_;obtain ⟨lR,wR,rr⟩:=id RR;obtain ⟨xs,gx,qx,_⟩:=id G;have lx:=qx.length;exists ⟨⟨_,bD.of gx⟩,?_⟩;refine dO (K:=K) (xs:=xs) (λi ys H'=>aE H H'/\ys=dn (ps.take i)) (aR (bB (by lia))) ⟨aE.refl _,rfl⟩ (λi ys H' _ ⟨s,_⟩=>bD.of (s _ _ gx)) ?_ ?_
  ·rintro i v ys H' hx hlen ⟨s',rfl⟩;obtain ⟨row,er,q,rfl,_,Rr⟩:=cG qx hx;have wr:=wR row (ao er);have hi:i < ps.length:=by have:=(aF.mp er).1;lia
   have ef:∀c,b8 R i c=row.getD c 0:=λc=>by unfold b8;rw[aa (l:=R),er];rfl
   have ep:ps[i]?=some (ps.getD i 0):=by rw[aa,af hi];rfl
   have lowp:=rr.low i hi;have u:=rr.unit i hi i hi;rw[if_pos rfl,ef] at u;exists ⟨q,row,ps.getD i 0,rfl,Rr.same s',by lia,by lia,by rw[u];decide,λc hc=>by rw[<- ef];exact rr.lead i hi c hc,λH2 s2=>?_⟩;refine ⟨s'.trans s2,?_⟩;unfold dn;rw[take_snoc ep,cD];rfl
  ·rintro ys H1 hy ⟨s1,rfl⟩ r hr;refine k r _ (s1.none hr) (s1.trans (aE.new hr)) ?_;rw[aG,aJ (by lia)]
theorem rh:a7 ["grid","many","joined"] ["grid"] (aH uf):=by walk_at "d"
theorem Dq (T:Txt K mg Z):cw P w K mg base fJ 6 Z.zR Z.zB ["grid"] (uM K):=by
 refine T.rN.F.ok rh (λvs H Q E h=>?_) (λcdv A outer s H vs Q E hr h=>?_)
 ·obtain ⟨p,n,w,H0,A,rfl,_⟩:=h;rfl
 ·obtain ⟨p,n,w,H0,A,rfl,G,SA,n40,F,k1,k2⟩:=h
  refine ⟨_,(au (aY (i:=1) rh.nd rfl (Or.inr rfl) (bq aX (by rfl) T.len aQ (ae (pv 0) ai)))
   (au (aY (i:=2) rh.nd rfl (Or.inl rfl) (cu (Dn T) hr T.rL (ae (bT ["row","unit"] [] [] (v7 rfl T.zip (ae (pv 0) (ae (cu (AB T) hr T.nF (ae (pv 1) ai)) ai))) (λ_=>(pW K 2 (cz (aI (i:=0) (show ND9 ["row","unit"] by decide +kernel)) (cz (aI (i:=1) (show ND9 ["row","unit"] by decide +kernel)) iw)))) (λ_=>bW) (λ_=>(bA m8 (pv 0) (pv 1)))) (ae (bA cH aj (pv 1)) ai))))
   (au (cy (aZ (m7 (uE hr)) (cu (Dp T) hr T.rM (ae (pv 2) ai)) (AA rfl T.list rfl T.range (ae (pv 1) ai)) (bg _)) (ay (aW Az)) bF)
   (ay (aW (bT ["row"] ["many"] [1] (cb (pv 2)) (λ_=>(aI (i:=0) (show ND9 ["row","many"] by decide +kernel))) (λ_=>bW) (λ_=>(xA (Gd K (by rfl)) (pv 0) (Av (pv 1)) Aw)))))))),?_⟩
  refine aT (σ:=[some (.ref p),none,none]) rfl ?_;obtain ⟨lA,wA⟩:=id SA;obtain ⟨xs,gx,qx,_⟩:=id G;have lx:=qx.length;obtain ⟨lU,wU⟩:=oF (n:=n);have lj:(kL A (cg n)).length=n:=by rw[pB (by lia),lA]
  exists ⟨_,_,rfl,.inl (bD.of gx),?_⟩;rw[show ((xs.length:Nat):Int)=((n:Nat):Int) by lia];exists ⟨n,rfl,by lia,λu H1 nu s1 U1=>?_⟩;obtain ⟨us,gu,qu,_⟩:=id U1;have lu:=qu.length;exists ⟨⟨_,bD.of (s1 _ _ gx)⟩,⟨_,bD.of gu⟩,?_⟩;refine tz (K:=K) (xs:=xs) (ws:=us) (λi ys H'=>aE H1 H'/\Paired (c4 K H H') ((kL A (cg n)).take i) ys) (aR (bB (by lia))) (by lia) ⟨aE.refl _,.nil⟩ (λi ys H' _ ⟨s,_⟩=>⟨bD.of (s _ _ (s1 _ _ gx)),bD.of (s _ _ gu)⟩) ?_ ?_
  ·rintro i v1 v2 ys H' r h1 h2 hy ⟨s,pr⟩ hr;obtain ⟨row,er,a1,rfl,_,Ra⟩:=cG qx h1;obtain ⟨un,eu,a2,rfl,_,Ru⟩:=cG qu h2;have wr:=wA row (ao er);have wn:=wU un (ao eu);have sr:aE H' (upd H' r (.tup [.ref a1,.ref a2])):=aE.new hr;have gr:(upd H' r (.tup [.ref a1,.ref a2])) r=some (.tup [.ref a1,.ref a2]):=aG;generalize upd H' r (.tup [.ref a1,.ref a2])=H2 at sr gr ⊢;have s2:=s.trans sr;obtain ⟨zs,gz,qz⟩:=Ra.same (s1.trans s2);obtain ⟨ys',gy,qy⟩:=Ru.same s2;have lz:=qz.length;have ly:=qy.length;exists m6 gz gy (aR (bB (by lia))) λl2 H4 s4 n4 g4=>?_
   refine ⟨s2.trans s4,?_⟩;rw[take_snoc (Kj er eu)];exact cx (Paired.imp' (λ_ _ z=>c4.same z (sr.trans s4)) pr) (.cons ⟨l2,rfl,(s1.trans s2).none n4,_,g4,Paired.imp' (λ_ _ z=>bU.same z s4) (cx qz qy)⟩ .nil)
  rintro ys H2 hy ⟨s2,pr⟩ l hl;have sn:aE H2 (upd H2 l (.lst ys)):=aE.new hl;have gn:(upd H2 l (.lst ys)) l=some (.lst ys):=aG;rw[aJ (by lia)] at pr;generalize upd H2 l (.lst ys)=H3 at sn gn ⊢;have GJ:bK K H H3 l (kL A (cg n)):=zo pr sn hl gn;have s03:=s1.trans (s2.trans sn);walk_at "w";rw[show (2*(n:Int))=((n+n:Nat):Int) by lia];refine ⟨l,n+n,w,H,_,rfl,GJ,by lia,by lia,wd wA wU,F,λjd R ps M H4 nj s4 G4 RR pm M0 M1 tM=>?_⟩;rw[lj,show min n (n+n)=n by lia] at M1 tM;rw[lj] at pm;have s04:=s03.trans s4;have lR:=RR.1;have wR:=RR.2.1;exists ⟨jd,n+n,H3,R,ps,rfl,G4,by lia,by lia,⟨_,RR⟩,λle H5 nle s5 g5=>?_⟩;walk_at "w";unfold wO;exists ⟨by lia,λrl H6 s6 n6 g6=>?_⟩;have s06:=(s04.trans s5).trans s6;exists ⟨_,_,Fm Fn,pC ps,pC (List.range n),by decide,pY (s6 _ _ g5),pY g6,?_⟩;by_cases e:ps=List.range n
  ·subst e;rw[decide_eq_true rfl];obtain ⟨vs,gv,qv,_⟩:=G4.same (s5.trans s6);have lv:=qv.length;rw[bo] at lR;exists ⟨⟨_,bD.of gv⟩,?_⟩;refine dO (K:=K) (xs:=vs) (λi ys H'=>aE H6 H'/\Paired (c4 K H H') ((R.map λxs=>xs.drop n).take i) ys) (aR (bB (by lia))) ⟨aE.refl _,.nil⟩ (λi ys H' _ ⟨s,_⟩=>bD.of (s _ _ gv)) ?_ ?_
   ·rintro i v ys H' hx hlen ⟨s',pr⟩;obtain ⟨row,er,q,rfl,_,Rr⟩:=cG qv hx;have wr:=wR row (ao er);obtain ⟨zs,gz,qz⟩:=Rr.same s';have lz:=qz.length;exists Gn (bD.of gz) λl3 H8 s8 n8 g8=>?_
    rw[Ik] at g8;refine ⟨s'.trans s8,?_⟩;rw[take_snoc (show (R.map λxs=>xs.drop n)[i]?=some (row.drop n) by rw[aB,er];rfl)];exact cx (Paired.imp' (λ_ _ z=>c4.same z s8) pr) (.cons ⟨l3,rfl,s06.none (s'.none n8),_,g8,Paired.imp' (λ_ _ z=>bU.same z s8) (qq qz n)⟩ .nil)
   rintro ys3 H7 hy3 ⟨s7,pr3⟩ l3 hl3;have sn3:aE H7 (upd H7 l3 (.lst ys3)):=aE.new hl3;rw[aJ (by rw[ag];lia)] at pr3;have s07:=s06.trans s7;refine k1 l3 R M _ RR (s07.none hl3) (s07.trans sn3) (zo pr3 sn3 hl3 aG) M0 M1 λxs hx x hx'=>?_
   obtain ⟨y,hy,rfl⟩:=aA.mp hx;exact tM y hy x (List.mem_of_mem_drop hx')
  ·rw[decide_eq_false (λz=>e (Cw z))];exists k2 R ps H6 RR pm e s06
theorem mO:a7 ["one","other","one_bottom","other_bottom","pairs"] ["one","other"] (aH t9):=by walk_at "d"
theorem xD (T:Txt K mg Z):cw P w K mg base fJ 4 Z.zO Z.zy ["one","other"] (Af K):=by
 refine T.nG.F.ok mO (λvs H Q E h=>?_) (λcdv A outer s H vs Q E hr h=>?_)
 ·obtain ⟨p,q,xs,ys,rfl,_⟩:=h;rfl
 ·obtain ⟨p,q,xs,ys,rfl,hp,hq,hl,hz,⟨k1,j1,k2,j2,h1,h2,hkj⟩,kk⟩:=h
  refine ⟨_,(au (aY (i:=2) mO.nd rfl (Or.inl rfl) (cu (jf T) hr T.eT (ae (pv 0) ai)))
   (au (aY (i:=3) mO.nd rfl (Or.inl rfl) (cu (jf T) hr T.eT (ae (pv 1) ai)))
   (au (aY (i:=4) mO.nd rfl (Or.inl rfl) (Dk rfl T.list rfl T.zip (ae (cu (ng T) hr T.iF (ae (pv 0) (ae (pv 2) ai))) (ae (cu (ng T) hr T.iF (ae (pv 1) (ae (pv 3) ai))) ai))))
   (ay (aW (cu (zg T) hr T.pZ (ae (bq (Im rfl) (by rfl) T.sum PyProof.Rows.boot_sum (ae (bT ["mine","yours"] [] [] (cb (pv 4)) (λ_=>(pW K 2 (cz (aI (i:=0) (show ND9 ["mine","yours"] by decide +kernel)) (cz (aI (i:=1) (show ND9 ["mine","yours"] by decide +kernel)) iw)))) (λ_=>bW) (λ_=>(bA cH (pv 0) (pv 1)))) ai)) (ae (bA cH (pv 2) (pv 3)) ai)))))))),?_⟩
  refine aT (σ:=[some (.ref p),some (.ref q),none,none,none]) rfl ?_;obtain ⟨M,h1⟩:=h1.rowM (by lia);obtain ⟨N,h2⟩:=h2.rowM (by lia);replace hp:=hp.rowK;replace hq:=hq.rowK;replace hl:(ys.map nm).length=(xs.map nm).length:=by simpa using hl
  replace hz:(xs.map nm).length<=1000:=by simpa using hz
  obtain ⟨b1,s1⟩:=h1.bot;obtain ⟨b2,s2⟩:=h2.bot;have k2:∀r H',aE H H'->H' r=some (.tup [.int (lo (HY (xs.map nm) (ys.map nm)) (fH (xs.map nm)*fH (ys.map nm))),.int (hi (HY (xs.map nm) (ys.map nm)) (fH (xs.map nm)*fH (ys.map nm)))])->Q (.ref r) H':=λr H' s g=>kk r H' s (bU.mk g (JG b1 b2))
  clear kk;generalize xs.map nm=ns at hp hq hl hz h1 h2 b1 b2 s1 s2 k2;generalize ys.map nm=ms at hp hq hl hz h1 h2 b1 b2 s1 s2 k2;have hb:0 < fH ns*fH ms:=iX b1 b2;exists ⟨p,ns,M,rfl,hp,hz,h1,λH1 t1=>?_⟩;exists ⟨q,ms,N,rfl,hq.same t1,by lia,h2,λH2 t2=>?_⟩;have u2:=t1.trans t2;exists ⟨p,ns,M,_,rfl,hp.same u2,hz,h1,b1,s1,λr1 H3 n3 t3 g3=>?_⟩;exists ⟨q,ms,N,_,rfl,(hq.same u2).same t3,by lia,h2,b2,s2,λr2 H4 n4 t4 g4=>?_⟩;exists ⟨r1,r2,_,_,rfl,bD.of (t4 _ _ g3),bD.of g4,by simp [eK,hl],λL ts H5 t5 n5 g5 pr=>?_⟩;have lt:=pr.length;have ll:(eK ns (fH ns)).length=ns.length:=by simp [eK]
  have lm:(eK ms (fH ms)).length=ns.length:=by simp [eK,hl]
  rw[yz,ag,ag,ll,lm] at lt;exists ⟨⟨_,bD.of g5⟩,?_⟩;refine dO (K:=K) (xs:=ts) (λi ys H'=>H'=H5/\ys=((List.zipWith (λx y=>x*y) (eK ns (fH ns)) (eK ms (fH ms))).take i).map V.int) (aR (bB (by lia))) ⟨rfl,rfl⟩ (λi ys H' _ ⟨e,_⟩=>by subst e;exact bD.of g5) ?_ ?_
  ·rintro i x ys H' hx hlen ⟨rfl,rfl⟩;obtain ⟨pq,epq,T,rfl,gT⟩:=cG pr hx;obtain ⟨t,u,et,eu,rfl⟩:=ID epq;exists fj (show fR _ _ from .inr ⟨_,_,Bw h1 b1 s1 (ao et),Bw h2 b2 s2 (ao eu),by decide⟩) ?_;have ez:(List.zipWith (λx y=>x*y) (eK ns (fH ns)) (eK ms (fH ms)))[i]?=some (t*u):=by rw[bO,et,eu]
   exact ⟨rfl,by rw[take_snoc ez];simp⟩
  ·rintro ys H' hy ⟨rfl,rfl⟩ l hl';exists ⟨l,List.zipWith (λx y=>x*y) (eK ns (fH ns)) (eK ms (fH ms)),rfl,bD.of (by rw[aG,aJ (by rw[bG];lia)]),?_⟩;exists fj (show fR _ _ from .inr ⟨_,_,s1,s2,by decide⟩) ?_;exists ⟨_,_,rfl,by lia,(s1.mul s2).mono (by decide),λr H6 t6 g6=>?_⟩;rw[if_neg (by lia),if_neg (by lia)] at g6;exact k2 r H6 ((((u2.trans t3).trans t4).trans t5).trans ((aE.new hl').trans t6)) g6
theorem Dc:a7 ["grid","row"] ["grid","row"] (aH ug):=by walk_at "d"
theorem nh (T:Txt K mg Z):cw P w K mg base fJ 5 Z.zS Z.zC ["grid","row"] (Ae K):=by
 refine T.jh.F.ok Dc (λvs H Q E h=>?_) (λcdv A outer s H vs Q E hr h=>?_)
 ·obtain ⟨p,q,H0,rows,ys,rfl,_⟩:=h;rfl
 ·obtain ⟨p,q,H0,rows,ys,rfl,hp,hq,hz,hl,hr1,kk⟩:=h;refine ⟨_,(ay (aW (bT ["line"] ["row"] [1] (cb (pv 0)) (λ_=>(aI (i:=0) (show ND9 ["line","row"] by decide +kernel))) (λ_=>bW) (λ_=>(cu (xD T) hr T.nG (ae (pv 0) (ae (pv 1) ai))))))),?_⟩;refine aT (σ:=[some (.ref p),some (.ref q)]) rfl ?_;obtain ⟨xs,gx,qx,_⟩:=id hp;exists ⟨⟨_,bD.of gx⟩,?_⟩;refine cW (K:=K) (F:=c4 K H0) (bU K) (λxs=>cZ xs ys) gx qx hz (λa b=>a.same b) (λa b=>a.same b) ?_ ?_
  ·rintro i ns x H' NY NN en s ⟨u,rfl,_,hu⟩ k;obtain ⟨e1,e2⟩:=hr1 ns (ao en);exists ⟨u,q,ns,ys,rfl,hu,hq.same s,e1.symm,by lia,e2,λr H2 s2 h2'=>k _ _ s2 h2'⟩
  ·rintro ys' H' r hr s g pr nx;exact kk r H' hr s ⟨ys',g,pr⟩
theorem qi:a7 ["one","other","wide","columns"] ["one","other","wide"] (aH mR):=by walk_at "d"
theorem qB (T:Txt K mg Z):cw P w K mg base fJ 6 Z.tE Z.sV ["one","other","wide"] (xf K):=by
 refine T.ju.F.ok qi (λvs H Q E h=>?_) (λcdv A outer s H vs Q E hr h=>?_)
 ·obtain ⟨p,q,w,H0,H1,one,other,rfl,_⟩:=h;rfl
 ·obtain ⟨p,q,w,H0,H1,one,other,rfl,hp,hq,z1,z2,hw,h1,h2,kk⟩:=h
  refine ⟨_,(au (aY (i:=3) qi.nd rfl (Or.inr rfl) (cu (kb T) hr T.fP (ae (pv 1) (ae (pv 2) ai))))
   (ay (aW (bT ["line"] ["columns"] [3] (cb (pv 0)) (λ_=>(aI (i:=0) (show ND9 ["line","columns"] by decide +kernel))) (λ_=>bW) (λ_=>(cu (nh T) hr T.jh (ae (pv 1) (ae (pv 0) ai)))))))),?_⟩
  refine aT (σ:=[some (.ref p),some (.ref q),some (.int w),none]) rfl ?_;exists ⟨q,w,H1,other,rfl,hq,z2,hw,h2,λc H2 nc s2 hc=>?_⟩;obtain ⟨xs,gx,qx,_⟩:=hp.same s2;exists ⟨⟨_,bD.of gx⟩,?_⟩;refine cW (K:=K) (F:=c4 K H0) (c4 K H) (λxs=>(cm other w).map λys=>cZ ys xs) gx qx z1 (λa b=>a.same b) (λa b=>a.same b) ?_ ?_
  ·rintro i ns x H3 NY NN en s3 ⟨u,rfl,_,hu⟩ k;obtain ⟨e1,e2⟩:=h1 ns (ao en);exists ⟨c,u,H,cm other w,ns,rfl,hc.same s3,hu,by simp [cm];lia,by lia,λys hy=>⟨?_,e2 ys hy⟩,λr H4 nr s4 hr=>k _ _ s4 ⟨r,rfl,s2.none (s3.none nr),hr⟩⟩;obtain ⟨j,_,rfl⟩:=aA.mp hy;rw[ag];exact e1.symm
  ·rintro ys' H3 r hr s3 g pr nx;exact kk r H3 (s2.none hr) (s2.trans s3) ⟨ys',g,pr,iU nx⟩
theorem gX:a7 ["system","rows","wide","to_state","to_numbers","move","put"] ["system","rows"] (aH rz):=by walk_at "d"
theorem Cn (T:Txt K mg Z):cw P w K mg base (L7 P w) 7 Z.yn Z.xZ ["system","rows"] (BQ K Z.a_System Z.a_NoFit):=by
 refine T.jG.F.okX gX (λvs H Q E h=>?_) (λcdv A outer s H vs Q E hr h=>?_)
 ·obtain ⟨x,r,H0,H1,mv,pt,lk,rows,M1,M2,V9,a1,a2,c,Mr,rfl,_⟩:=h;rfl
 ·obtain ⟨x,r,H0,H1,mv,pt,lk,rows,M1,M2,V9,a1,a2,c,Mr,rfl,S,D,G,hR,z,kF,kQ⟩:=h
  refine ⟨_,(au (aY (i:=2) gX.nd rfl (Or.inl rfl) (d9 (pv 0) rfl))
   (au (aY (i:=3) gX.nd rfl (Or.inl rfl) (cu (kb T) hr T.fP (ae (pv 1) (ae (pv 2) ai))))
   (au (aY (i:=4) gX.nd rfl (Or.inr rfl) (cu (Dq T) hr T.rN (ae (pv 3) ai)))
   (au (cy (aZ Lq (pv 4) Az (bg _)) (ay (E8 C5 rfl rfl T.mg_NoFit T.ex_NoFit)) bF)
   (au (aY (i:=5) gX.nd rfl (Or.inl rfl) (cu (qB T) hr T.ju (ae (cu (qB T) hr T.ju (ae (pv 4) (ae (d9 (pv 0) rfl) (ae (pv 2) ai)))) (ae (pv 3) (ae (pv 2) ai)))))
   (au (gM 6 ["row"] ["to_numbers"] [4] gX.nd rfl rfl (cb (d9 (pv 0) rfl)) (λ_=>(aI (i:=0) (show ND9 ["row","to_numbers"] by decide +kernel))) (λ_=>bW) (λ_=>(cu (nh T) hr T.jh (ae (pv 1) (ae (pv 0) ai)))))
   (ay (aW (Ec T.mk_System (ke T) (hr.mono (by decide)) rfl T.mg_System T.iL .nil Ck (ae (pv 5) (ae (pv 6) (ae (bT ["row"] ["rows"] [1] (cb (d9 (pv 0) rfl)) (λ_=>(aI (i:=0) (show ND9 ["row","rows"] by decide +kernel))) (λ_=>bW) (λ_=>(cu (nh T) hr T.jh (ae (pv 1) (ae (pv 0) ai))))) ai)))))))))))),?_⟩
  refine aT (σ:=[some (.ref x),some (.ref r),none,none,none,none,none]) rfl ?_;obtain ⟨dx,xa,xb,xc,gx,n1,n2,n3,Ga,Gb,Gc⟩:=id S;have d1:=D.n8;have d2:=D.i4;have d3:=D.o4;have lr:=hR.1;exists ⟨x,Z.a_System,dx,_,_,rfl,gx,T.cl_System,T.na_states,rf,?_⟩;exists ⟨r,mv.length,H1,rows,rfl,G,by lia,by lia,hR.2,λt H2 n2' s2 Gt=>?_⟩;exists ⟨t,mv.length,66,H,cm rows mv.length,rfl,Gt,jC hR,by lia,z.swT hR d1,λi R M H3 RR ni s3 Gi M0 M1' tp=>?_,λR ps H3 RR _ ne s3=>?_⟩
  rotate_left
  ·exists ⟨rfl,?_⟩;rw[decide_eq_true rfl];exists kF R ps H3 RR ne (s2.trans s3)
  obtain ⟨hi,o1,o2⟩:=AS (jC hR) RR;have I:EH (R.map λxs=>xs.drop mv.length) mv.length M:=⟨M0,M1',tp⟩;have kQ:=λz' H'=>kQ z' H' _ R M RR rfl I
  have D':=AU D hi hR;have F:=z.fit I hi hR d1;generalize R.map (λxs=>xs.drop mv.length)=inv at hi o1 o2 I kQ D' F Gi;have li:=hi.1;have s13:=s2.trans s3;have gx3:=s13 _ _ gx;have Ga3:=Ga.same s13;exists ⟨rfl,?_⟩;rw[decide_eq_false (λz=>nomatch z)];exists ⟨x,Z.a_System,dx,_,_,rfl,gx3,T.cl_System,T.na_move,rY,?_⟩;exists ⟨i,xa,mv.length,H2,H0,inv,mv,rfl,Gi,Ga3,by lia,by lia,by lia,λxs hx=>⟨hi.2 xs hx,λys hy=>F.f1 xs hx ys hy⟩,D.mw,λm1 H4 n4 s4 G4=>?_⟩;exists ⟨m1,t,mv.length,H3,H,gF inv mv mv.length,cm rows mv.length,rfl,G4,(Gt.same s3).same s4,by unfold gF;rw[ag];lia,by rw[cV];lia,by lia,λxs hx=>⟨by rw[JX xs hx,cV],F.f2 xs hx⟩,(jC hR).2,λm2 H5 n5 s5 G5=>?_⟩;have s35:=s4.trans s5;have s15:=s13.trans s35;have gx5:=s15 _ _ gx;have Gi5:=Gi.same s35;obtain ⟨bs,gb,qb,_⟩:=Gb.same s15;have lb:=qb.length;exists ⟨x,Z.a_System,dx,_,_,rfl,gx5,T.cl_System,T.na_put,vX,?_⟩;exists ⟨⟨_,bD.of gb⟩,?_⟩;refine cW (K:=K) (as:=pt) (F:=c4 K H0) (c4 K H5) (λxs=>inv.map λr=>cZ r xs) gb qb (by lia) (λa b=>a.same b) (λa b=>a.same b) ?_ ?_
  ·rintro j xs y H6 NY NN ex s6 ⟨u,rfl,_,Ru⟩ k1;have mx:=ao ex;exists ⟨i,u,H2,inv,xs,rfl,Gi5.same s6,Ru,by lia,by rw[D.pw xs mx];lia,λzs hz=>⟨by rw[hi.2 zs hz,D.pw xs mx],F.f3 xs mx zs hz⟩,λv H7 n7 s7 R7=>?_⟩;exact k1 _ _ s7 ⟨v,rfl,s6.none n7,R7⟩
  rintro ysP H6 pp np s6 gp prp nxp;have Gp:bK K H5 H6 pp (ibP inv pt):=⟨ysP,gp,prp,iU nxp⟩;clear gp prp nxp gb qb lb;have s16:=s15.trans s6;have gx6:=s16 _ _ gx;obtain ⟨cs,gc,qc,_⟩:=Gc.same s16;have lc:=qc.length;exists ⟨x,Z.a_System,dx,_,_,rfl,gx6,T.cl_System,T.na_look,rZ,?_⟩;exists ⟨⟨_,bD.of gc⟩,?_⟩;refine cW (K:=K) (as:=lk) (F:=c4 K H0) (c4 K H6) (λxs=>rows.map λr=>cZ r xs) gc qc (by lia) (λa b=>a.same b) (λa b=>a.same b) ?_ ?_
  ·rintro j xs y H7 NY NN ex s7 ⟨u,rfl,_,Ru⟩ k1;have mx:=ao ex;exists ⟨r,u,H1,rows,xs,rfl,(G.same s16).same s7,Ru,by lia,by rw[D.lw xs mx];lia,λzs hz=>⟨by rw[hR.2 zs hz,D.lw xs mx],F.f4 xs mx zs hz⟩,λv H8 n8 s8 R8=>?_⟩;exact k1 _ _ s8 ⟨v,rfl,s7.none n8,R8⟩
  rintro ysL H7 ll nl s7 gl prl nxl;have Gl:bK K H6 H7 ll (lk.map λxs=>rows.map λr=>cZ r xs):=⟨ysL,gl,prl,iU nxl⟩;clear gl prl nxl gc qc lc;have s17:=s16.trans s7;walk_at "w";intro z' dz nz ndz nez;exact ⟨z',dz,m2,pp,ll,H7,H4,H5,H6,_,_,_,rfl,nz,ndz,nez,rfl,(G5.same s6).same s7,Gp.same s7,Gl,D',F.g1,F.g2,F.g3,λH9 s9 S9=>⟨rfl,kQ z' H9 (s17.trans s9) (S9.weak s17)⟩⟩
theorem mQ:a7 ["_law_system_here","_law_rows","_law_found","e"] ["_law_system_here","_law_rows"] (aH oS):=by walk_at "d"
theorem AE (T:Txt K mg Z):cw P w K mg base fJ 8 Z.vw Z.uW ["_law_system_here","_law_rows"] (yU K Z.a_System):=by
 refine T.nI.F.ok mQ (λvs H Q E h=>?_) (λcdv A outer s H vs Q E hr h=>?_)
 ·obtain ⟨x,r,H0,H1,mv,pt,lk,rows,M1,M2,V9,a1,a2,c,Mr,rfl,_⟩:=h;rfl
 ·obtain ⟨x,r,H0,H1,mv,pt,lk,rows,M1,M2,V9,a1,a2,c,Mr,rfl,S,D,G,hR,z,kN,kT⟩:=h
  refine ⟨_,(au (Ll rfl rfl (λ_ _ _ hX=>(ay (aY (i:=2) mQ.nd rfl (Or.inl rfl) (GH (Cn T) (hr.mono (by decide)) rfl T.jG.m T.jG.F.kp T.jG.b .nil hX (ae (pv 0) (ae (pv 1) ai))))))
   (Nb (i:=3) rfl rfl T.mg_NoFit mQ.nd rfl rfl (λ_=>(ay (aW (cn (ae Ax (ae (Js rfl T.isinstance rfl T.mg_SumError (pv 3)) ai)))))) LN))
   (ay (aW (cn (ae Ax (ae (pv 2) ai)))))),?_⟩
  refine aT (σ:=[some (.ref x),some (.ref r),none,none]) rfl ?_;exists KY ?_;exists Gy ?_;exists ⟨x,r,H0,H1,mv,pt,lk,rows,M1,M2,V9,a1,a2,c,Mr,rfl,S,D,G,hR,z,λR ps H' RR ne s'=>?_,λz' H' inv R D9 RR ei I s' S'=>?_⟩
  ·refine .inl ⟨T.xm_NoFit_NoFit,λea hea=>?_⟩;have se:aE H' (upd H' ea (HW ea (.ref Z.a_NoFit) none)):=aE.new hea;have ge:(upd H' ea (HW ea (.ref Z.a_NoFit) none)) ea=some (HW ea (.ref Z.a_NoFit) none):=aG;generalize upd H' ea (HW ea (.ref Z.a_NoFit) none)=He at se ge ⊢;exists ⟨ea,.ref Z.a_NoFit,none,rfl,ge,.inl ⟨T.ki_NoFit_SumError,?_⟩⟩;show wN _ _ _
   exists bN λt H2 s2 g2=>?_
   exact kN R ps t H2 RR ne ((s'.trans se).trans s2) g2
  ·exists bN λt H2 s2 g2=>?_
   exact kT z' t H2 inv R D9 RR ei I (s'.trans s2) g2 (S'.same s2)
theorem Am:a7 ["_law_one","_law_other_here"] ["_law_one","_law_other_here"] (aH oV):=by walk_at "d"
theorem AF (T:Txt K mg Z):cw P w K mg base fJ 2 Z.vA Z.uY ["_law_one","_law_other_here"] (wW K):=by
 refine T.nJ.F.ok Am (λvs H Q E h=>?_) (λcdv A outer s H vs Q E hr h=>?_)
 ·obtain ⟨p,q,a,b,c,d,rfl,hp,hq,hb,hd,hc,sa,sb,sc,sd,k⟩:=Ce h;rfl
 ·obtain ⟨p,q,a,b,c,d,rfl,hp,hq,hb,hd,hc,sa,sb,sc,sd,k⟩:=Ce h
  refine ⟨_,(au (cy (aZ l8 (aV bJ (pv 1) aj) aj (bg _)) (ay (aW (cu (eZ T) hr T.dJ (ae (bA je aj (bA cH (aV bJ (pv 0) aj) (aV bJ (pv 1) aj))) (ae (bA je aj (bA cH (aV bJ (pv 0) aj) (aV bJ (pv 1) aj))) ai))))) bF)
   (ay (aW (cu (eZ T) hr T.dJ (ae (bA cH (aV bJ (pv 0) aj) (aV bJ (pv 1) aj)) (ae (bA cH (aV bJ (pv 0) aj) (aV bJ (pv 1) aj)) ai)))))),?_⟩
  refine aT (σ:=[some (.ref p),some (.ref q)]) rfl ?_;have sbc:Sz 8999 (b*c):=(sb.mul sc).mono (by decide);exists fq (λh=>?_) (λh=>?_)
  ·have h0:c < 0:=of_decide_eq_true h;have hbc:b*c < 0:=rW hb h0;exists fj (show fR _ _ from .inr ⟨_,_,sa,sd,by decide⟩) ?_;exists fj (show fR _ _ from .inr ⟨_,_,sb,sc,by decide⟩) ?_;exists ⟨_,_,rfl,by lia,by rw[Int.zero_sub];exact sbc.neg,λr H' s' h'=>?_⟩;exact k r H' s' (by rw[if_pos h0,if_pos h0];exact h')
  ·have h0:¬c < 0:=λz=>h (decide_eq_true z)
   have hbc:0 < b*c:=iX hb (by lia);exists fj (show fR _ _ from .inr ⟨_,_,sa,sd,by decide⟩) ?_;exists fj (show fR _ _ from .inr ⟨_,_,sb,sc,by decide⟩) ?_;exists ⟨_,_,rfl,hbc,sbc,λr H' s' h'=>?_⟩;exact k r H' s' (by rw[if_neg h0,if_neg h0];exact h')
theorem Ar:a7 ["_law_one","_law_other_here"] ["_law_one","_law_other_here"] (aH o7):=by walk_at "d"
theorem AK (T:Txt K mg Z):cw P w K mg base fJ 2 Z.vI Z.vh ["_law_one","_law_other_here"] (oM K (λx y=>x - y)):=by
 refine T.nQ.F.ok Ar (λvs H Q E h=>?_) (λcdv A outer s H vs Q E hr h=>?_)
 ·obtain ⟨p,q,a,b,c,d,rfl,hp,hq,hb,hd,sa,sb,sc,sd,k⟩:=DW h;rfl
 ·obtain ⟨p,q,a,b,c,d,rfl,hp,hq,hb,hd,sa,sb,sc,sd,k⟩:=DW h;refine ⟨_,(ay (aW (cu (eZ T) hr T.dJ (ae (bA je (bA cH (aV bJ (pv 0) aj) (aV bJ (pv 1) aj)) (bA cH (aV bJ (pv 1) aj) (aV bJ (pv 0) aj))) (ae (bA cH (aV bJ (pv 0) aj) (aV bJ (pv 1) aj)) ai))))),?_⟩;refine aT (σ:=[some (.ref p),some (.ref q)]) rfl ?_;have hbd:0 < b*d:=iX hb hd;have sbd:Sz 8999 (b*d):=(sb.mul sd).mono (by decide);exists fj (show fR _ _ from .inr ⟨_,_,sa,sd,by decide⟩) ?_;exists fj (show fR _ _ from .inr ⟨_,_,sc,sb,by decide⟩) ?_;exists fj (show fR _ _ from .inr ⟨_,_,sb,sd,by decide⟩) ?_;walk_at "w";exists ⟨_,_,rfl,hbd,sbd,k⟩
theorem yB:a7 ["_law_one","_law_other_here"] ["_law_one","_law_other_here"] (aH mY):=by walk_at "d"
theorem qD (T:Txt K mg Z):cw P w K mg base fJ 3 Z.tN Z.tu ["_law_one","_law_other_here"] (y7 K):=by
 refine T.jw.F.ok yB (λvs H Q E h=>?_) (λcdv A outer s H vs Q E hr h=>?_)
 ·obtain ⟨p,q,xs,ys,rfl,_⟩:=h;rfl
 ·obtain ⟨p,q,xs,ys,rfl,hp,hq,hl,hz,h1,h2,kk⟩:=h;refine ⟨_,(ay (aW (bT ["_law_k"] ["_law_one","_law_other_here"] [0,1] (bP rfl T.range (ae (bq aX (by rfl) T.len aQ (ae (pv 0) ai)) ai)) (λ_=>(aI (i:=0) (show ND9 ["_law_k","_law_one","_law_other_here"] by decide +kernel))) (λ_=>bW) (λ_=>(cu (AK T) hr T.nQ (ae (aV (fv K (by rfl)) (pv 1) (pv 0)) (ae (aV (fv K (by rfl)) (pv 2) (pv 0)) ai))))))),?_⟩;refine aT (σ:=[some (.ref p),some (.ref q)]) rfl ?_;obtain ⟨us,gu,qu⟩:=id hp;obtain ⟨ws,gw,qw⟩:=id hq;have lu:=qu.length;exists ⟨_,_,rfl,.inl (bD.of gu),?_⟩;exists ⟨by lia,by lia,?_⟩;refine eo (n:=us.length) (bU K) (λi=>xs.getD i 0 - ys.getD i 0) (by lia) (λa b=>a.same b) ?_ ?_
  ·rintro i H' NY NN hi s k1;have ix:i < xs.length:=by lia
   have iy:i < ys.length:=by lia
   obtain ⟨vx,ex,nx⟩:=Bi (Paired.imp' (λ_ _ z=>z.same s) qu) ix;obtain ⟨vy,ey,ny⟩:=Bi (Paired.imp' (λ_ _ z=>z.same s) qw) iy;exists bV (bD.of (s _ _ gu)) ex ?_;exists bV (bD.of (s _ _ gw)) ey ?_;exists ⟨_,_,_,_,rfl,nx,ny,h1 _ (getD_mem ix),h2 _ (getD_mem iy),λr3 H3 s3 n3=>k1 _ _ s3 n3⟩
  ·rintro ys' H' l hl' s g pr nx;exact kk l H' hl' s ⟨ys',g,by rw[CY (by lia)];rw[<- lu] at pr;exact pr⟩
theorem dB:a7 ["_law_rows","_law_wide","_law_left","_law_found","_law_place","_law_heads","_law_head"] ["_law_rows","_law_wide"] (aH o8):=by walk_at "d"
theorem AL (T:Txt K mg Z):cw P w K mg base fJ 4 Z.vJ Z.vm ["_law_rows","_law_wide"] (wY K):=by
 refine T.nR.F.ok dB (λvs H Q E h=>?_) (λcdv A outer s H vs Q E hr h=>?_)
 ·obtain ⟨p,n,S,H0,rows,rfl,_⟩:=h;rfl
 ·obtain ⟨p,n,S,H0,rows,rfl,G,r100,n100,hw,⟨e39,J,j0,jskip,jlean,jlw,jsz⟩,k⟩:=h
  refine ⟨_,(au (aY (i:=2) dB.nd rfl (Or.inr rfl) (bT ["_law_row_here"] [] [] (cb (pv 0)) (λ_=>(aI (i:=0) (show ND9 ["_law_row_here"] by decide +kernel))) (λ_=>bW) (λ_=>(eS (lV K (by rfl)) (by rfl) T.list PyProof.Rows.boot_list (ae (pv 0) ai)))))
   (au (aY (i:=3) dB.nd rfl (Or.inl rfl) (d7 ai))
   (au (dD PassesOwn.never rfl (bP rfl T.range (ae (pv 1) ai)) (aI (i:=4) dB.nd rfl (Or.inr rfl) (Or.inl rfl))
    (au (gM 5 ["_law_k"] ["_law_left","_law_place"] [2,4] dB.nd rfl rfl (bP rfl T.range (ae (bq aX (by rfl) T.len aQ (ae (pv 2) ai)) ai)) (λ_=>(aI (i:=0) (show ND9 ["_law_k","_law_left","_law_place"] by decide +kernel))) (λ_=>GD (aZ (Ef K (by rfl) (uE hr)) (aV (fv K (by rfl)) (aV (fv K (by rfl)) (pv 1) (pv 0)) (pv 2)) (cn (ae aj (ae aj ai))) (bg _))) (λ_=>(pv 0)))
   (ay (cy (aZ (m7 (uE hr)) (pv 5) (d7 ai) (bg _)) (au (aY (i:=6) dB.nd rfl (Or.inr rfl) (zd eF PySem.F.slot_list_pop PySem.F.type_list_pop GU (pv 2) (ae (aV bC (pv 5) aj) ai)))
   (au (aY (i:=6) dB.nd rfl (Or.inr rfl) (cu (fo T) hr T.dX (ae (cu (AF T) hr T.nJ (ae (cn (ae aj (ae aj ai))) (ae (aV bC (pv 6) (pv 4)) ai))) (ae (pv 6) ai))))
   (au (aY (i:=2) dB.nd rfl (Or.inr rfl) (bT ["_law_row_here"] ["_law_place","_law_head"] [4,6] (cb (pv 2)) (λ_=>(aI (i:=0) (show ND9 ["_law_row_here","_law_place","_law_head"] by decide +kernel))) (λ_=>bW) (λ_=>(cu (qD T) hr T.jw (ae (pv 0) (ae (cu (fo T) hr T.dX (ae (aV (fv K (by rfl)) (pv 0) (pv 1)) (ae (pv 2) ai))) ai))))))
   (au (gM 3 ["_law_row_here"] ["_law_place","_law_head"] [4,6] dB.nd rfl rfl (cb (pv 3)) (λ_=>(aI (i:=0) (show ND9 ["_law_row_here","_law_place","_law_head"] by decide +kernel))) (λ_=>bW) (λ_=>(cu (qD T) hr T.jw (ae (pv 0) (ae (cu (fo T) hr T.dX (ae (aV (fv K (by rfl)) (pv 0) (pv 1)) (ae (pv 2) ai))) ai)))))
   (ay (kE (zd eF fL fK ma (pv 3) (ae (pv 6) ai)))))))) bF))))
   (ay (aW (pv 3)))))),?_⟩
  refine aT (σ:=[some (.ref p),some (.int n),none,none,none,none,none]) rfl ?_;obtain ⟨xs,gx,qx,_⟩:=id G;have szT:∀{D:Nat} {x:Rat},0 < D->D<=2^S->Tp D (2^S) x->ky x:=λh0 h1 t=>Ab t h0 (ar h1 (aw (by decide) (by lia))) (aw (by decide) (by lia))
  have szP:∀{D D':Nat} {x y:Rat},0 < D->0 < D'->D<=2^S->D'<=2^S->Tp D (2^S) x->Tp D' (2^S) y->ky (x*y):=λh0 h0' h1 h1' t t'=>Ab (t.mul t') (bQ h0 h0') (ar (bf h1 h1') (by rw[<- bS];exact aw (by decide) (by lia))) (by rw[<- bS];exact aw (by decide) (by lia))
  exists ⟨⟨_,bD.of gx⟩,?_⟩;refine cW (K:=K) (F:=c4 K H0) (c4 K H) id gx qx (by lia) (λa b=>a.same b) (λa b=>a.same b) ?_ ?_
  ·rintro i ns x H' NY NN en s ⟨u,rfl,_,zs,gz,qz⟩ k1;exists ⟨u,zs,rfl,.inl (bD.of gz),λl1 hl1=>?_⟩;exact k1 _ _ (aE.new hl1) ⟨l1,rfl,s.none hl1,zs,aG,Paired.imp' (λ_ _ z=>z.same (aE.new hl1)) qz⟩
  rintro ys1 H1 L hL s1 g1 pr1 nx1;rw[Ir] at pr1 nx1;have GL1:bK K H H1 L rows:=⟨ys1,g1,pr1,iU nx1⟩;exists dj λfd H2 s2 nf gf=>?_
  have fdL:fd≠L:=λz=>by rw[z,g1] at nf;cases nf
  clear g1 pr1 nx1;exists ⟨by lia,by lia,?_⟩;refine dg (n:=n) (λP σ' H'=>aE H H'/\∃lp fp ls fs ps vs y1 y2 y3,σ'=[some (.ref p),some (.int n),some (.ref lp),some (.ref fp),y1,y2,y3]/\H lp=none/\H fp=none/\fp≠lp/\bK K H H' lp ls/\H' fp=some (.lst vs)/\Paired (lX K (λq=>(H q=none/\q≠fp)/\q≠lp) H') fs vs/\fs.length=ps.length/\J P (fs++ls) ps) ⟨s1.trans s2,L,fd,rows,[],[],[],_,_,_,rfl,hL,s1.none nf,fdL,GL1.same s2,gf,.nil,rfl,j0⟩ ?_ ?_
  ·rintro P σ' H' hP ⟨s',lp,fp,ls,fs,ps,vs,y1,y2,y3,rfl,nlp,nfp,fl,GL,gv,pv,hf,JI⟩;have I:=jlw _ _ _ JI;have len:=I.len;rw[az] at len;have wide:=I.wide;obtain ⟨us,gu,qu,nu⟩:=id GL;have lu:=qu.length;have lv:=pv.length
   have szI:∀{i:Nat},i < rows.length->∀c,ky (b8 (fs++ls) i c):=λhi c=>by
    obtain ⟨D,D0,D1,D2⟩:=jsz _ _ _ JI (by lia) _ hi;exact szT D0 D1 (D2 c)
   have ez:∀i,(ls.map λr=>r.getD P 0).getD i 0=b8 ls i P:=λi=>Lx
   exists ⟨_,_,rfl,.inl (bD.of gu),?_⟩;rw[<- lu];exists ⟨by lia,by lia,?_⟩;refine oa (n:=ls.length) (λi ys H''=>aE H' H''/\ys=dn (Cp (ls.map λr=>r.getD P 0) i)) (aR (bB (by lia))) ⟨aE.refl _,rfl⟩ ?_ ?_
   ·rintro i ys Hb hi hlen ⟨sb,rfl⟩;rw[wI];obtain ⟨xt,vt,et,evt,mt,qt,rfl,nqt,Rt⟩:=df (Paired.imp' (λ_ _ z=>c4.same z sb) qu) hi;have wt:=wide xt (ax.mpr (.inr mt));obtain ⟨zs,gz,qz⟩:=id Rt;obtain ⟨vx,ex,nx⟩:=Bi qz (j:=P) (by lia);have fx:(ls.map λr=>r.getD P 0).getD i 0=xt.getD P 0:=by rw[ez];unfold b8;rw[aa (l:=ls),et];rfl
    exists bV (bD.of (sb _ _ gu)) (cX evt) ?_;exists bV (bD.of gz) ex ?_;exists bN λt0 Hc sc gc=>?_
    exists ⟨_,_,Ht,xt.getD P 0,0,by decide,nx.same sc,bU.mk (q:=0) gc rfl,?_⟩;by_cases e:xt.getD P 0=0
    ·rw[decide_eq_true e];exists ⟨sb.trans sc,?_⟩;rw[v9,fx,if_neg (by simpa using e)]
    ·rw[decide_eq_false e];exists ⟨sb.trans sc,?_⟩;rw[v9,fx,if_pos e];unfold dn;rw[cD];rfl
   rintro ys Hb hy ⟨sb,rfl⟩ hd hhd;have nzm:∀c,c∈Cp (ls.map λr=>r.getD P 0) ls.length↔c < ls.length/\b8 ls c P≠0:=λc=>by rw[Lu,ez]
   generalize Cp (ls.map λr=>r.getD P 0) ls.length=hs at hy hhd nzm;have sn:aE Hb (upd Hb hd (.lst (dn hs))):=aE.new hhd;have gh:(upd Hb hd (.lst (dn hs))) hd=some (.lst (dn hs)):=aG;generalize upd Hb hd (.lst (dn hs))=Hc at sn gh ⊢;have sbc:=sb.trans sn;exists dj λem Hd sd nd gd=>?_
   exists ⟨_,_,Fm Fn,pC hs,pC [],by decide,pY (sd _ _ gh),pY gd,?_⟩;have sbd:=sbc.trans sd;by_cases e0:hs=[]
   ·subst e0;rw[decide_eq_true rfl];exists ⟨s'.trans sbd,lp,fp,ls,fs,ps,vs,_,_,_,rfl,nlp,nfp,fl,GL.same sbd,sbd _ _ gv,Paired.imp' (λ_ _ z=>lX.same z sbd) pv,hf,jskip _ _ _ JI λi h1 h2=>?_⟩;rw[az] at h2;obtain ⟨j,rfl⟩:∃j,i=fs.length+j:=⟨i - fs.length,by lia⟩;rw[yN];by_cases z:b8 ls j P=0
    ·exact z
    ·exact absurd ((nzm j).mpr ⟨by lia,z⟩) (by simp)
   ·rw[decide_eq_false (λz=>e0 (Cw z))]
    obtain ⟨t,hs',rfl⟩:∃t hs',hs=t :: hs':=by cases hs with
     | nil=>exact absurd rfl e0
     | cons t r=>exact ⟨t,r,rfl⟩
    obtain ⟨tl,hne⟩:=(nzm t).mp (.head _);have gud:=sbd _ _ gu;obtain ⟨xt,vt,et,evt,mt,qt,rfl,nqt,Rt⟩:=df (Paired.imp' (λ_ _ z=>c4.same z sbd) qu) tl;have ext:ls.getD t []=xt:=by rw[aa,et];rfl
    have hne':xt.getD P 0≠0:=by unfold b8 at hne;rw[ext] at hne;exact hne
    have wt:=wide xt (ax.mpr (.inr mt));have qtl:qt≠lp:=λz=>nu (by rw[<- z];exact ao evt)
    exists ⟨.inl ⟨rfl,_,bD.of gud⟩,?_⟩;exists bV (bD.of (sd _ _ gh)) (cX (j:=0) rfl) ?_;exists ⟨lp,us,t,t,_,rfl,rfl,gud,by lia,by lia,PySem.StrLaws.seqIndex_nonneg (by lia) (by lia),evt,?_⟩;have s0e:aE H (upd Hd lp (.lst (us.eraseIdx t))):=(s'.trans sbd).after nlp;obtain ⟨us',gu',pu'⟩:=(GL.same sbd).toE;have eus:us'=us:=by rw[gud] at gu';cases gu';rfl
    subst eus;have ple:Paired (lX K (λq=>H q=none/\q≠lp) (upd Hd lp (.lst (us'.eraseIdx t)))) (ls.eraseIdx t) (us'.eraseIdx t):=sJ (Paired.imp' (λ_ _ z=>lX.updL z gud (λq h=>h.2)) pu') t;have gle:(upd Hd lp (.lst (us'.eraseIdx t))) lp=some (.lst (us'.eraseIdx t)):=aG;have gve:(upd Hd lp (.lst (us'.eraseIdx t))) fp=some (.lst vs):=by rw[a9 fl];exact sbd _ _ gv
    have pve:Paired (lX K (λq=>(H q=none/\q≠fp)/\q≠lp) (upd Hd lp (.lst (us'.eraseIdx t)))) fs vs:=Paired.imp' (λ_ _ z=>lX.updL (lX.same z sbd) gud (λq h=>h.2)) pv;have Re:cM K (upd Hd lp (.lst (us'.eraseIdx t))) qt xt:=Rt.updL gud qtl;generalize upd Hd lp (.lst (us'.eraseIdx t))=He at s0e ple gle gve pve Re ⊢;clear pu' gu' gud Rt;have I2:=jlean _ _ _ _ _ JI hf tl hP (by rw[ext];exact hne');rw[ext] at I2
    have rowD:∀r∈fs++ls,∃D:Nat,0 < D/\D<=2^S/\∀c,Tp D (2^S) (r.getD c 0):=λr hr=>by
     obtain ⟨i,hi,rfl⟩:=bZ hr;obtain ⟨D,D0,D1,D2⟩:=jsz _ _ _ JI (by lia) i (by rw[az] at hi;lia);refine ⟨D,D0,D1,λc=>?_⟩;have:=D2 c;unfold b8 at this;rw[aa (l:=fs++ls),af hi] at this;exact this
    have szr:∀r∈fs++ls,∀y∈r,ky y:=λr hr y hy=>by
     obtain ⟨D,D0,D1,D2⟩:=rowD r hr;obtain ⟨c,hc,rfl⟩:=bZ hy;have:=D2 c;rw[aa,af hc] at this;exact szT D0 D1 this
    have mxt:xt∈fs++ls:=ax.mpr (.inr mt);have lu2:(me P xt).length=n:=by unfold me;rw[ag];exact wt
    obtain ⟨Du,Du0,Du1,Du2⟩:∃D:Nat,0 < D/\D<=2^S/\∀y∈me P xt,Tp D (2^S) y:=by
     obtain ⟨D,D0,D1,D2⟩:=jsz _ _ _ I2 (by lia) ps.length (by lia);refine ⟨D,D0,D1,λy hy=>?_⟩;obtain ⟨c,hc,rfl⟩:=bZ hy;have:=D2 c;rw[bX,show ps.length=(fs.map (xM P (me P xt))).length+0 by rw[ag];lia,yN] at this
     have e:b8 ([me P xt]++(ls.eraseIdx t).map (xM P (me P xt))) 0 c=(me P xt)[c]:=by
      show (me P xt).getD c 0=_
      rw[aa,af hc];rfl
     rw[e] at this;exact this
    have szu:∀y∈me P xt,ky y:=λy hy=>szT Du0 Du1 (Du2 y hy)
    have szp:∀r∈fs++ls,∀y∈me P xt,ky (r.getD P 0*y):=λr hr y hy=>by
     obtain ⟨D,D0,D1,D2⟩:=rowD r hr;exact szP D0 Du0 D1 Du1 (D2 P) (Du2 y hy)
    obtain ⟨zs,gz,qz⟩:=id Re;obtain ⟨vx,ex,nx⟩:=Bi qz (j:=P) (by lia);have szx:ky (xt.getD P 0):=szr xt mxt _ (getD_in (by lia));exists bN λtq Hf sf gf=>?_
    exists bV (bD.of (sf _ _ gz)) ex ?_;exists ⟨_,_,1,xt.getD P 0,rfl,bU.mk (q:=1) gf rfl,nx.same sf,IJ,szx,hne',λqr Hg sg nq=>?_⟩;have sfg:=sf.trans sg;exists ⟨_,qt,1 / xt.getD P 0,xt,rfl,nq,IK szx hne',Re.same sfg,by lia,szr xt mxt,λur Hh nur sh Rur=>?_⟩;have Rur:cM K Hh ur (me P xt):=Rur;have seh:=sfg.trans sh;have s0h:=s0e.trans seh;have nur0:H ur=none:=(s0e.trans sfg).none nur;exists ⟨⟨_,bD.of (seh _ _ gle)⟩,?_⟩;refine cW (K:=K) (F:=lX K (λq=>H q=none/\q≠lp)) (c4 K H) (xM P (me P xt)) (seh _ _ gle) (Paired.imp' (λ_ _ z=>lX.same z seh) ple) (by rw[KC tl];lia) (λa b=>a.same b) (λa b=>a.same b) ?_ ?_
    ·rintro i ns x Hi NY NN en si ⟨q,rfl,nq0,Rq⟩ k1;have mn:ns∈fs++ls:=ax.mpr (.inr (Mg (ao en)));have wn:=wide ns mn;obtain ⟨zs2,gz2,qz2⟩:=id Rq;obtain ⟨vx2,ex2,nx2⟩:=Bi qz2 (j:=P) (by lia);exists bV (bD.of gz2) ex2 ?_;exists ⟨_,ur,ns.getD P 0,me P xt,rfl,nx2,szr ns mn _ (getD_in (by lia)),Rur.same si,by lia,szu,λb1 Hj nb1 sj Rb=>?_⟩;exists ⟨q,b1,ns,_,rfl,Rq.same sj,Rb,by rw[ag];lia,by lia,szr ns mn,λy hy=>?_,λr2 Hk nr2 sk Rk=>?_⟩
     ·obtain ⟨y',hy',rfl⟩:=aA.mp hy;exact szp ns mn y' hy'
     ·exact k1 _ _ (sj.trans sk) ⟨r2,rfl,s0h.none (si.none (sj.none nr2)),Rk⟩
    rintro yl Hk lp2 hlp2 sk gk prk nxk;have s0k:=s0h.trans sk;have Gk:bK K H Hk lp2 ((ls.eraseIdx t).map (xM P (me P xt))):=⟨yl,gk,prk,iU nxk⟩;have Ruk:=Rur.same sk;exists ⟨⟨_,bD.of (sk _ _ (seh _ _ gve))⟩,?_⟩;refine cW (K:=K) (F:=lX K (λq=>(H q=none/\q≠fp)/\q≠lp)) (c4 K Hk) (xM P (me P xt)) (sk _ _ (seh _ _ gve)) (Paired.imp' (λ_ _ z=>lX.same (lX.same z seh) sk) pve) (by lia) (λa b=>a.same b) (λa b=>a.same b) ?_ ?_
    ·rintro i ns x Hi NY NN en si ⟨q,rfl,nq0,Rq⟩ k1;have mn:ns∈fs++ls:=ax.mpr (.inl (ao en));have wn:=wide ns mn;obtain ⟨zs2,gz2,qz2⟩:=id Rq;obtain ⟨vx2,ex2,nx2⟩:=Bi qz2 (j:=P) (by lia);exists bV (bD.of gz2) ex2 ?_;exists ⟨_,ur,ns.getD P 0,me P xt,rfl,nx2,szr ns mn _ (getD_in (by lia)),Ruk.same si,by lia,szu,λb1 Hj nb1 sj Rb=>?_⟩;exists ⟨q,b1,ns,_,rfl,Rq.same sj,Rb,by rw[ag];lia,by lia,szr ns mn,λy hy=>?_,λr2 Hl nr2 sl Rl=>?_⟩
     ·obtain ⟨y',hy',rfl⟩:=aA.mp hy;exact szp ns mn y' hy'
     ·exact k1 _ _ (sj.trans sl) ⟨r2,rfl,si.none (sj.none nr2),Rl⟩
    rintro yf Hl fp2 hfp2 sl gl prl nxl;have lyf:=prl.length;rw[ag] at lyf;have nfp2:H fp2=none:=s0k.none hfp2;have nlp2:H lp2=none:=s0h.none hlp2;have fl2:fp2≠lp2:=λz=>by rw[z,gk] at hfp2;cases hfp2
    have urk:Hk ur≠none:=by obtain ⟨_,gg,_⟩:=Ruk;rw[gg];exact λz=>nomatch z
    have urf:ur≠fp2:=λz=>urk (by rw[z];exact hfp2)
    have url:ur≠lp2:=λz=>by obtain ⟨_,gg,_⟩:=Rur;rw[z,hlp2] at gg;cases gg
    exists ⟨.inl ⟨rfl,_,bD.of gl⟩,?_⟩;exists lY gl (bB (by lia)) ?_;refine ⟨(s0k.trans sl).after nfp2,lp2,fp2,_,_,ps++[P],_,_,_,_,rfl,nlp2,nfp2,fl2,?_,aG,?_,by rw[az,az,ag];show fs.length+1=ps.length+1;lia,I2⟩
    ·obtain ⟨ul,gul,pul⟩:=Gk.toE;refine bK.ofE (P:=λq=>(H q=none/\q≠lp2)/\q≠fp2) (by rw[a9 (Ne.symm fl2)];exact sl _ _ gul) (Paired.imp' (λ_ _ ⟨q,e1,e2,e3⟩=>?_) pul) (λq h=>h.1.1) (λq h=>h.1.2);have qf:q≠fp2:=λz=>by obtain ⟨_,gg,_⟩:=e3;rw[z,hfp2] at gg;cases gg
     exact ⟨q,e1,⟨e2,qf⟩,(cM.same e3 sl).updL gl qf⟩
    ·have nn:=iU nxl;refine cx (kH (λxs v hv ⟨q,e1,e2,e3⟩=>?_) prl) (.cons ⟨ur,rfl,⟨⟨nur0,urf⟩,url⟩,(Ruk.same sl).updL gl urf⟩ .nil);have qf:q≠fp2:=λz=>nn (by rw[<- z,<- e1];exact hv)
     exact ⟨q,e1,⟨⟨s0k.none e2,qf⟩,λz=>by rw[z,gk] at e2;cases e2⟩,cM.updL e3 gl qf⟩
  ·rintro σ' H' ⟨s',lp,fp,ls,fs,ps,vs,y1,y2,y3,rfl,nlp,nfp,fl,GL,gv,pv,hf,JI⟩;have I:=jlw _ _ _ JI;have D:=I.done hw;rw[List.take_left' hf] at D;obtain ⟨km,_⟩:=I.km;exists k fp fs ps H' nfp s' (bK.ofE gv pv (λq h=>h.1.1) (λq h=>h.1.2)) D km
theorem kC:a7 ["_law_thing","_law_part"] ["_law_thing"] (aH i8):=by walk_at "d"
theorem sQ (T:Txt K mg Z):cw P w K mg base fJ 2 Z.mG Z.mC ["_law_thing"] (EZ K):=by
 refine T.iJ.F.ok kC (λvs H Q E h=>?_) (λcdv A outer s H vs Q E hr h=>?_)
 ·obtain ⟨x,n,rfl,_⟩:=h;rfl
 ·obtain ⟨x,n,rfl,⟨p,rfl,hp⟩,hn,k⟩:=h
  refine ⟨_,(au (cy (PW.pt (lZ (jb (iu (v8 rfl T.isinstance PyProof.Rows.boot_tuple T.tuple (pv 0)))) (ja (aZ sL (bq aX (by rfl) T.len aQ (ae (pv 0) ai)) aj (bg _))))) (ay (aW jE)) bF)
   (au (dD PassesOwn.never rfl (Lm (pv 0)) (aI (i:=1) kC.nd)
    (ay (cy (PW.pt (lZ (jb (iu (v8 rfl T.isinstance PyProof.Rows.boot_int T.int (pv 1)))) (ja (iu (v8 rfl T.isinstance PyProof.Rows.boot_bool T.bool (pv 1)))))) (ay (aW jE)) bF)))
   (ay (aW (xB (gN qA (aV bJ (pv 0) aj) aj (bg _)) (Ay (gN (Dl (uE hr)) (cu (eZ T) hr T.dJ (ae (aV bJ (pv 0) aj) (ae (aV bJ (pv 0) aj) ai))) (pv 0) (bg _)))))))),?_⟩
  refine aT (σ:=[some (.ref p),none]) rfl ?_;obtain ⟨hb,hg,_,hs⟩:=hn;exists .inr ⟨p,_,_,rfl,hp,rfl,?_⟩;exists ⟨_,_,rfl,.inr hp,?_⟩;walk_at "w"
  try refine Jy ?_
  exists ⟨⟨_,hp⟩,?_⟩;refine JC (K:=K) (a:=p) (xs:=[.int n.1,.int n.2]) (λi σ' H'=>H'=H/\∃x,σ'=[some (.ref p),x]) ⟨rfl,none,rfl⟩ (λi σ' H' _ ⟨e,_⟩=>by subst e;exact hp) ?_ ?_
  ·rintro i x σ' H' hx ⟨rfl,y,rfl⟩
   obtain ⟨z,rfl⟩:∃z,x=V.int z:=by
    have hm:x∈[V.int n.1,V.int n.2]:=ao hx;simp only[aD,aO,or_false] at hm;rcases hm with e | e
    ·exact ⟨_,e⟩
    ·exact ⟨_,e⟩
   exists .inl ⟨_,_,.int z,rfl,?_⟩;exists .inl ⟨_,_,.int z,rfl,?_⟩;exists ⟨rfl,_,rfl⟩
  ·rintro σ' H' ⟨rfl,x,rfl⟩;walk_at "w";rw[decide_eq_true hb];exists ⟨n.1,n.2,rfl,hb,hs.mono (by decide),λr H' s1 h'=>?_⟩;obtain ⟨e1,e2⟩:=Lz hb hg;exists ⟨_,_,MZ,(lo n.1 n.2,hi n.1 n.2),n,by decide,⟨r,rfl,kz.of h'⟩,⟨p,rfl,s1.sqt hp⟩,?_⟩;rw[e1,e2,decide_eq_true rfl];exact k _ s1
theorem xl:a7 ["_law_thing","_law_many"] ["_law_thing","_law_many"] (aH lC):=by walk_at "d"
theorem xG (T:Txt K mg Z):cw P w K mg base fJ 3 Z.qS Z.qJ ["_law_thing","_law_many"] (tX K):=by
 refine T.kj.F.ok xl (λvs H Q E h=>?_) (λcdv A outer s H vs Q E hr h=>?_)
 ·obtain ⟨p,ns,rfl,_⟩:=h;rfl
 ·obtain ⟨p,ns,rfl,hp,hl,hn,k⟩:=h
  refine ⟨_,(au (cy (PW.pt (lZ (jb (iu (uv rfl T.isinstance PyProof.Rows.boot_list T.list (pv 0)))) (ja (aZ sL (bq aX (by rfl) T.len aQ (ae (pv 0) ai)) (pv 1) (bg _))))) (ay (aW jE)) bF)
   (ay (aW (bq (yi rfl) (by rfl) T.all PyProof.Rows.boot_all (ae (bT ["_law_one"] [] [] (cb (pv 0)) (λ_=>(aI (i:=0) (show ND9 ["_law_one"] by decide +kernel))) (λ_=>bW) (λ_=>(cu (sQ T) hr T.iJ (ae (pv 0) ai)))) ai))))),?_⟩
  refine aT (σ:=[some (.ref p),some (.int ns.length)]) rfl ?_;obtain ⟨xs,gx,qx⟩:=id hp;have lx:=qx.length;exists ⟨_,_,.lst gx,rfl,?_⟩;exists ⟨_,_,rfl,.inl (bD.of gx),?_⟩;walk_at "w";rw[show ((xs.length:Nat):Int)=(ns.length:Nat) by rw[lx],decide_eq_true rfl];exists ⟨⟨_,bD.of gx⟩,?_⟩;refine dO (K:=K) (xs:=xs) (λi ys H'=>aE H H'/\ys=List.replicate i (.bl true)) (aR (bB (by lia))) ⟨aE.refl _,rfl⟩ (λi ys H' _ ⟨s,_⟩=>bD.of (s _ _ gx)) ?_ ?_
  ·rintro i x ys H' hx hlen ⟨s,rfl⟩;obtain ⟨n,en,z⟩:=cG qx hx;exists ⟨x,n,rfl,s.num z,hn n (ao en),λH2 s2=>⟨s.trans s2,by rw[zY]⟩⟩
  ·rintro ys H' hy ⟨s,rfl⟩ l hl';exists ⟨l,List.replicate xs.length true,rfl,bD.of (by rw[aG];simp),?_⟩;have e4:(List.replicate xs.length true).all id=true:=by simp
   rw[e4];exact k _ (s.trans (aE.new hl'))
theorem vR:a7 ["_law_thing","_law_many","_law_wide"] ["_law_thing","_law_many","_law_wide"] (aH j7):=by walk_at "d"
theorem jP (T:Txt K mg Z):cw P w K mg base fJ 4 Z.pO Z.pJ ["_law_thing","_law_many","_law_wide"] (w5 K):=by
 refine T.fu.F.ok vR (λvs H Q E h=>?_) (λcdv A outer s H vs Q E hr h=>?_)
 ·obtain ⟨p,rows,m,rfl,_⟩:=h;rfl
 ·obtain ⟨p,rows,m,rfl,hp,hl,hm,hn,k⟩:=h
  refine ⟨_,(au (cy (PW.pt (lZ (jb (iu (uv rfl T.isinstance PyProof.Rows.boot_list T.list (pv 0)))) (ja (aZ sL (bq aX (by rfl) T.len aQ (ae (pv 0) ai)) (pv 1) (bg _))))) (ay (aW jE)) bF)
   (ay (aW (bq (yi rfl) (by rfl) T.all PyProof.Rows.boot_all (ae (bT ["_law_row_here"] ["_law_wide"] [2] (cb (pv 0)) (λ_=>(aI (i:=0) (show ND9 ["_law_row_here","_law_wide"] by decide +kernel))) (λ_=>bW) (λ_=>(cu (xG T) hr T.kj (ae (pv 0) (ae (pv 1) ai))))) ai))))),?_⟩
  refine aT (σ:=[some (.ref p),some (.int rows.length),some (.int m)]) rfl ?_;obtain ⟨xs,gx,qx⟩:=id hp;have lx:=qx.length;exists ⟨_,_,.lst gx,rfl,?_⟩;exists ⟨_,_,rfl,.inl (bD.of gx),?_⟩;walk_at "w";rw[show ((xs.length:Nat):Int)=(rows.length:Nat) by rw[lx],decide_eq_true rfl];exists ⟨⟨_,bD.of gx⟩,?_⟩;refine dO (K:=K) (xs:=xs) (λi ys H'=>aE H H'/\ys=List.replicate i (.bl true)) (aR (bB (by lia))) ⟨aE.refl _,rfl⟩ (λi ys H' _ ⟨s,_⟩=>bD.of (s _ _ gx)) ?_ ?_
  ·rintro i x ys H' hx hlen ⟨s,rfl⟩;obtain ⟨ns,en,q,rfl,z⟩:=cG qx hx;obtain ⟨e1,e2⟩:=hn ns (ao en);exists ⟨q,ns,by rw[e1],z.same s,by lia,e2,λH2 s2=>⟨s.trans s2,by rw[zY]⟩⟩
  ·rintro ys H' hy ⟨s,rfl⟩ l hl';exists ⟨l,List.replicate xs.length true,rfl,bD.of (by rw[aG];simp),?_⟩;have e4:(List.replicate xs.length true).all id=true:=by simp
   rw[e4];exact k _ (s.trans (aE.new hl'))
theorem sE:a7 ["_law_thing","_law_n","_law_ins","_law_outs"] ["_law_thing","_law_n","_law_ins","_law_outs"] (aH i5):=by walk_at "d"
theorem sP (T:Txt K mg Z):cw P w K mg base fJ 5 Z.mF Z.mB ["_law_thing","_law_n","_law_ins","_law_outs"] (BP K Z.a_System):=by
 refine T.iI.F.ok sE (λvs H Q E h=>?_) (λcdv A outer s H vs Q E hr h=>?_)
 ·obtain ⟨x,H0,mv,pt,lk,rfl,_⟩:=h;rfl
 ·obtain ⟨x,H0,mv,pt,lk,rfl,S,D,G1,G2,G3,k⟩:=h
  refine ⟨_,(au (cy (PW.pt (lZ (jb (iu (Lp rfl T.isinstance rfl T.mg_System (pv 0)))) (ja (aZ (m7 (uE hr)) (d7 (ae (d9 (pv 0) rfl) (ae (d9 (pv 0) rfl) (ae (d9 (pv 0) rfl) ai)))) (d7 (ae (pv 1) (ae (pv 2) (ae (pv 3) ai)))) (bg _))))) (ay (aW jE)) bF)
   (ay (aW (xB (cu (jP T) hr T.fu (ae (d9 (pv 0) rfl) (ae (pv 1) (ae (pv 1) ai)))) (xB (cu (jP T) hr T.fu (ae (d9 (pv 0) rfl) (ae (pv 2) (ae (pv 1) ai)))) (Ay (cu (jP T) hr T.fu (ae (d9 (pv 0) rfl) (ae (pv 3) (ae (pv 1) ai)))))))))),?_⟩
  refine aT (σ:=[some (.ref x),some (.int mv.length),some (.int pt.length),some (.int lk.length)]) rfl ?_;obtain ⟨dx,a,b,c,gx,n1,n2,n3,Ga,Gb,Gc⟩:=id S;have d1:=D.n8;have d2:=D.i4;have d3:=D.o4;have lm:(mv.map (List.map nm)).length=mv.length:=ag ..;have lp:(pt.map (List.map nm)).length=pt.length:=ag ..;have ll:(lk.map (List.map nm)).length=lk.length:=ag ..
  have ok:∀(rows:LR9),(∀xs∈rows,xs.length=mv.length)->FG rows->∀ns∈rows.map (List.map nm),ns.length=mv.length/\∀n∈ns,tQ n:=λrows hr ho ns hn=>by
   obtain ⟨qs,hq,rfl⟩:=aA.mp hn;refine ⟨by rw[ag];exact hr qs hq,λn hn=>?_⟩;obtain ⟨y,hy,rfl⟩:=aA.mp hn;exact ho qs hq y hy
  exists ⟨_,true,T.ty_System.1 gx,T.ty_System.2,?_⟩;exists ⟨x,Z.a_System,dx,_,_,rfl,gx,T.cl_System,T.na_states,rf,?_⟩;exists ⟨x,Z.a_System,dx,_,_,rfl,gx,T.cl_System,T.na_ins,IL,?_⟩;exists ⟨x,Z.a_System,dx,_,_,rfl,gx,T.cl_System,T.na_outs,F2,?_⟩;exists dj λsz H5 s5 n5 g5=>?_
  exists dj λt2 H7 s7 n7 g7=>?_
  exists ⟨_,_,Fm Fn,[(mv.length:Int),pt.length,lk.length],[(mv.length:Int),pt.length,lk.length],by decide,⟨sz,_,rfl,bD.of (s7 _ _ g5),.cons rfl (.cons rfl (.cons rfl .nil))⟩,⟨t2,_,rfl,bD.of g7,.cons rfl (.cons rfl (.cons rfl .nil))⟩,?_⟩;rw[decide_eq_true rfl];have s:=s5.trans s7;have gx7:=s _ _ gx;exists ⟨x,Z.a_System,dx,_,_,rfl,gx7,T.cl_System,T.na_move,rY,?_⟩;exists ⟨a,_,mv.length,by rw[lm],(Ga.same s).gridK,by rw[lm];lia,by lia,λns' hx=>ok mv D.mw G1 ns' hx,λH2 s2=>?_⟩;have s12:=s.trans s2;exists ⟨x,Z.a_System,dx,_,_,rfl,(s12 _ _ gx),T.cl_System,T.na_put,vX,?_⟩;exists ⟨b,_,mv.length,by rw[lp],(Gb.same s12).gridK,by rw[lp];lia,by lia,λns' hx=>ok pt D.pw G2 ns' hx,λH3 s3=>?_⟩;have s13:=s12.trans s3;exists ⟨x,Z.a_System,dx,_,_,rfl,(s13 _ _ gx),T.cl_System,T.na_look,rZ,?_⟩;exists ⟨c,_,mv.length,by rw[ll],(Gc.same s13).gridK,by rw[ll];lia,by lia,λns' hx=>ok lk D.lw G3 ns' hx,λH4 s4=>?_⟩;exact k H4 (s13.trans s4)
theorem ik:a7 ["_law_weights","_law_rows","_law_n","_law_found","_law_k"] ["_law_weights","_law_rows","_law_n"] (aH k9):=by walk_at "d"
theorem iC (T:Txt K mg Z):cw P w K mg base fJ 4 Z.qQ Z.qH ["_law_weights","_law_rows","_law_n"] (BF K):=by
 refine T.eU.F.ok ik (λvs H Q E h=>?_) (λcdv A outer s H vs Q E hr h=>?_)
 ·obtain ⟨p,q,n,H0,ws,rows,rfl,_⟩:=h;rfl
 ·obtain ⟨p,q,n,H0,ws,rows,rfl,hp,G,lw,hR,n8,Z,k⟩:=h
  refine ⟨_,(au (gM 3 ["_law_k"] [] [] ik.nd rfl rfl (bP rfl T.range (ae (pv 2) ai)) (λ_=>(aI (i:=0) (show ND9 ["_law_k"] by decide +kernel))) (λ_=>bW) (λ_=>(cn (ae aj (ae aj ai)))))
   (au (dD PassesOwn.never rfl (bP rfl T.range (ae (bq aX (by rfl) T.len aQ (ae (pv 1) ai)) ai)) (aI (i:=4) ik.nd)
    (ay (aY (i:=3) ik.nd rfl (Or.inl rfl) (cu (jU T) hr T.fX (ae (pv 3) (ae (cu (fo T) hr T.dX (ae (aV bC (pv 0) (pv 4)) (ae (aV bC (pv 1) (pv 4)) ai))) ai))))))
   (ay (aW (pv 3))))),?_⟩
  refine aT (σ:=[some (.ref p),some (.ref q),some (.int n),none,none]) rfl ?_;obtain ⟨us,gu,qu⟩:=id hp;obtain ⟨vs,gv,qv,_⟩:=id G;have lu:=qu.length;have lv:=qv.length;have lr:=hR.1;exists ⟨by lia,by lia,?_⟩;refine eo (n:=n) (bU K) (λ_=>0) (by lia) (λa b=>a.same b) ?_ ?_
  ·rintro j Ha NY NN hj sa k1;exists bN λt Hb sb gb=>?_
   exact k1 _ _ sb (bU.mk gb rfl)
  rintro ys H1 l1 nl1 s1 g1 pr1 nx1;have R1:cM K H1 l1 (Kc ws rows n 0):=⟨ys,g1,pr1⟩;clear g1 pr1 nx1;exists ⟨_,_,rfl,.inl (bD.of (s1 _ _ gv)),?_⟩;exists ⟨by lia,by lia,?_⟩;refine dg (n:=vs.length) (λi σ' H'=>∃l y,σ'=[some (.ref p),some (.ref q),some (.int n),some (.ref l),y]/\aE H H'/\H l=none/\cM K H' l (Kc ws rows n i)) ⟨l1,none,rfl,s1,nl1,R1⟩ ?_ ?_
  ·rintro i σ' H' hi ⟨l,y,rfl,s,nl,R⟩;obtain ⟨row,vr,er,ev,mr,q',rfl,_,Rq⟩:=df qv (i:=i) (by lia);obtain ⟨wx,ex,nx⟩:=Bi (Paired.imp' (λ_ _ z=>z.same s) qu) (j:=i) (by lia);have lw':=hR.2 row mr;exists bV (bD.of (s _ _ gu)) ex ?_;exists bV (bD.of (s _ _ gv)) (cX ev) ?_;exists ⟨wx,q',ws.getD i 0,row,rfl,nx,Z.sw i (by lia),Rq.same s,by lia,Z.sr row mr,λb1 H2 n2 s2 R2=>?_⟩;exists ⟨l,b1,Kc ws rows n i,row.map λy=>ws.getD i 0*y,rfl,R.same s2,R2,by rw[ag,pV];exact lw',by rw[pV];lia,λx hx=>?_,λx hx=>?_,λl' H3 n3 s3 R3=>?_⟩
   ·obtain ⟨j,_,rfl⟩:=aA.mp hx;exact Z.ss i j (by lia)
   ·obtain ⟨j,hj,rfl⟩:=bZ hx;rw[vO]
    have e:b8 rows i j=row[j]'(by rw[ag] at hj;exact hj):=by
     rw[pF er,aa,af (by rw[ag] at hj;exact hj)];rfl
    rw[<- e];exact Z.sp i j
   ·rw[F9 er lw'] at R3;exact ⟨l',_,rfl,s.trans (s2.trans s3),s.none (s2.none n3),R3⟩
  ·rintro σ' H' ⟨l,y,rfl,s,nl,R⟩;walk_at "w";rw[show vs.length=n by lia] at R;exact k l H' nl s R
theorem kD:a7 ["_law_one","_law_other_here","_law_total","_law_k"] ["_law_one","_law_other_here"] (aH rE):=by walk_at "d"
theorem uQ (T:Txt K mg Z):cw P w K mg base fJ 3 Z.yr Z.ye ["_law_one","_law_other_here"] (Af K):=by
 refine T.kK.F.ok kD (λvs H Q E h=>?_) (λcdv A outer s H vs Q E hr h=>?_)
 ·obtain ⟨p,q,xs,ys,rfl,_⟩:=h;rfl
 ·obtain ⟨p,q,xs,ys,rfl,hp,hq,hl,hz,⟨k1,j1,k2,j2,h1,h2,hkj⟩,kk⟩:=h
  refine ⟨_,(au (aY (i:=2) kD.nd rfl (Or.inl rfl) (cn (ae aj (ae aj ai))))
   (au (dD PassesOwn.never rfl (bP rfl T.range (ae (bq aX (by rfl) T.len aQ (ae (pv 0) ai)) ai)) (aI (i:=3) kD.nd)
    (ay (aY (i:=2) kD.nd rfl (Or.inl rfl) (cu (kI T) hr T.gZ (ae (pv 2) (ae (cu (jT T) hr T.fW (ae (aV bC (pv 0) (pv 3)) (ae (aV bC (pv 1) (pv 3)) ai))) ai))))))
   (ay (aW (pv 2))))),?_⟩
  refine aT (σ:=[some (.ref p),some (.ref q),none,none]) rfl ?_;obtain ⟨us,gu,qu⟩:=id hp;obtain ⟨ws,gw,qw⟩:=id hq;have lu:=qu.length;have lw:=qw.length;exists bN λr0 H0 s0 g0=>?_
  exists ⟨_,_,rfl,.inl (bD.of (s0 _ _ gu)),?_⟩;exists ⟨by lia,by lia,?_⟩;refine dg (n:=us.length) (λi σ' H'=>aE H H'/\∃(r:V) (v:Option V),σ'=[some (.ref p),some (.ref q),some r,v]/\bU K H' (cZ (xs.take i) (ys.take i)) r) ⟨s0,_,none,rfl,bU.mk g0 rfl⟩ ?_ ?_
  ·rintro i σ' H' hi ⟨s,r,v,rfl,hr⟩;have ix:i < xs.length:=by lia
   have iy:i < ys.length:=by lia
   obtain ⟨vx,ex,nx⟩:=Bi (Paired.imp' (λ_ _ z=>z.same s) qu) ix;obtain ⟨vy,ey,ny⟩:=Bi (Paired.imp' (λ_ _ z=>z.same s) qw) iy;exists bV (bD.of (s _ _ gu)) ex ?_;exists bV (bD.of (s _ _ gw)) ey ?_;exists ⟨_,_,_,_,rfl,nx,ny,h1.szn (getD_mem ix) (by lia),h2.szn (getD_mem iy) (by lia),λr3 H3 s3 n3=>?_⟩;exists ⟨_,_,_,_,rfl,hr.same s3,n3,HX h1 h2 hz i hkj,GR (h1.one (getD_mem ix)) (h2.one (getD_mem iy)) hkj,λr4 H4 s4 n4=>?_⟩;exists ⟨(s.trans s3).trans s4,_,_,rfl,by rw[zx ix iy];exact n4⟩
  ·rintro σ' H' ⟨s,r,v,rfl,hr⟩;rw[aJ (by lia),aJ (by lia)] at hr;obtain ⟨t,rfl,ht⟩:=hr;exists kk _ H' s ⟨t,rfl,ht⟩
theorem Dd:a7 ["_law_grid","_law_row_here"] ["_law_grid","_law_row_here"] (aH ui):=by walk_at "d"
theorem rK (T:Txt K mg Z):cw P w K mg base fJ 4 Z.zU Z.zE ["_law_grid","_law_row_here"] (Ae K):=by
 refine T.kg.F.ok Dd (λvs H Q E h=>?_) (λcdv A outer s H vs Q E hr h=>?_)
 ·obtain ⟨p,q,H0,rows,ys,rfl,_⟩:=h;rfl
 ·obtain ⟨p,q,H0,rows,ys,rfl,hp,hq,hz,hl,hr1,kk⟩:=h;refine ⟨_,(ay (aW (bT ["_law_one"] ["_law_row_here"] [1] (cb (pv 0)) (λ_=>(aI (i:=0) (show ND9 ["_law_one","_law_row_here"] by decide +kernel))) (λ_=>bW) (λ_=>(cu (uQ T) hr T.kK (ae (pv 0) (ae (pv 1) ai))))))),?_⟩;refine aT (σ:=[some (.ref p),some (.ref q)]) rfl ?_;obtain ⟨xs,gx,qx,_⟩:=id hp;exists ⟨⟨_,bD.of gx⟩,?_⟩;refine cW (K:=K) (F:=c4 K H0) (bU K) (λxs=>cZ xs ys) gx qx hz (λa b=>a.same b) (λa b=>a.same b) ?_ ?_
  ·rintro i ns x H' NY NN en s ⟨u,rfl,_,hu⟩ k;obtain ⟨e1,e2⟩:=hr1 ns (ao en);exists ⟨u,q,ns,ys,rfl,hu,hq.same s,e1.symm,by lia,e2,λr H2 s2 h2'=>k _ _ s2 h2'⟩
  ·rintro ys' H' r hr s g pr nx;exact kk r H' hr s ⟨ys',g,pr⟩
theorem gI:a7 ["_law_parts_here","_law_other_here","_law_rows","_law_n","_law_k","_law_column"] ["_law_parts_here","_law_other_here","_law_rows"] (aH mW):=by walk_at "d"
theorem yH (T:Txt K mg Z):cw P w K mg base fJ 5 Z.tK Z.tj ["_law_parts_here","_law_other_here","_law_rows"] (BJ K):=by
 refine T.lP.F.ok gI (λvs H Q E h=>?_) (λcdv A outer s H vs Q E hr h=>?_)
 ·obtain ⟨r,o,q,H0,H1,H2,mv,pt,lk,rows,inv,M1,M2,V9,a1,a2,c,Mr,D9,rfl,_⟩:=h;rfl
 ·obtain ⟨r,o,q,H0,H1,H2,mv,pt,lk,rows,inv,M1,M2,V9,a1,a2,c,Mr,D9,rfl,PQ,PO,G,D,hR,hI,o2,z,I,k⟩:=h
  refine ⟨_,(au (aY (i:=3) gI.nd rfl (Or.inl rfl) (bq aX (by rfl) T.len aQ (ae (pv 2) ai)))
   (au (dD PassesOwn.never rfl (bP rfl T.range (ae (pv 3) ai)) (aI (i:=4) gI.nd rfl (Or.inr rfl) (Or.inl rfl))
    (au (gM 5 ["_law_row_here"] ["_law_k"] [4] gI.nd rfl rfl (cb (aV bJ (pv 1) aj)) (λ_=>(aI (i:=0) (show ND9 ["_law_row_here","_law_k"] by decide +kernel))) (λ_=>bW) (λ_=>(aV (fv K (by rfl)) (pv 0) (pv 1))))
   (ay (cy (aZ (m7 (uE hr)) (cu (iC T) hr T.eU (ae (pv 5) (ae (pv 2) (ae (pv 3) ai)))) (cu (rK T) hr T.kg (ae (aV bJ (pv 0) aj) (ae (aV bC (pv 2) (pv 4)) ai))) (bg _)) (ay (aW jE)) bF))))
   (au (dD PassesOwn.never rfl (bP rfl T.range (ae (bq aX (by rfl) T.len aQ (ae (aV bJ (pv 0) aj) ai)) ai)) (aI (i:=4) gI.nd rfl (Or.inr rfl) (Or.inl rfl))
    (ay (cy (aZ (m7 (uE hr)) (cu (iC T) hr T.eU (ae (aV bC (aV bJ (pv 1) aj) (pv 4)) (ae (pv 2) (ae (pv 3) ai)))) (aV bC (aV bJ (pv 0) aj) (pv 4)) (bg _)) (ay (aW jE)) bF)))
   (ay (aW (gN (Dl (uE hr)) (aV bJ (pv 1) aj) (bT ["_law_look"] ["_law_rows"] [2] (cb (aV bJ (pv 0) aj)) (λ_=>(aI (i:=0) (show ND9 ["_law_look","_law_rows"] by decide +kernel) rfl (Or.inr rfl) (Or.inl rfl))) (λ_=>bW) (λ_=>(bT ["_law_row_here"] ["_law_look"] [0] (xy K (pv 1)) (λ_=>(aI (i:=0) (show ND9 ["_law_row_here","_law_look"] by decide +kernel))) (λ_=>bW) (λ_=>(cu (uQ T) hr T.kK (ae (pv 1) (ae (pv 0) ai))))))) (bg _))))))),?_⟩
  refine aT (σ:=[some (.ref r),some (.ref o),some (.ref q),none,none,none]) rfl ?_;obtain ⟨m,p,l,g,_,_,_,Gm,Gp,Gl⟩:=id PQ;obtain ⟨m',p',l',g',_,_,_,Gm',Gp',Gl'⟩:=id PO;have d1:=D.n8;have d2:=D.i4;have d3:=D.o4;have lr:=hR.1;have li:=hI.1;have F:=z.fit I hI hR d1;have hm:ks mv mv.length:=⟨rfl,D.mw⟩;have ex:=z.ex;have c3:=z.c33;have v1:=z.B.v1;obtain ⟨vs,gv,qv,_⟩:=id G;have lv:=qv.length;exists ⟨_,_,rfl,.inl (bD.of gv),?_⟩;rw[show ((vs.length:Nat):Int)=(mv.length:Int) by lia];exists ⟨by lia,by lia,?_⟩;refine dg (n:=mv.length) (λi σ' H'=>aE H H'/\∃y1 y2,σ'=[some (.ref r),some (.ref o),some (.ref q),some (.int mv.length),y1,y2]) ⟨aE.refl _,_,_,rfl⟩ ?_ ?_
  ·rintro i σ' H' hi ⟨s,y1,y2,rfl⟩;obtain ⟨us,gu,qu,_⟩:=Gm'.same s;have lu:=qu.length;rw[nW hI] at lu;have gs:=s _ _ g;have gs':=s _ _ g';obtain ⟨row,vr,er,ev,mr,q',rfl,_,Rq⟩:=df qv (i:=i) (by lia);have lrow:=hR.2 row mr;exists ⟨⟨_,bD.of gu⟩,?_⟩;refine cW (K:=K) (as:=ibM inv mv rows mv.length) (F:=c4 K H1) (bU K) (λxs=>xs.getD i 0) gu qu (by rw[nW hI];lia) (λa b=>a.same b) (λa b=>a.same b) ?_ ?_
   ·rintro j xs x Ha NY NN ex' sa ⟨u,rfl,_,zs,gz,qz⟩ k1;obtain ⟨vx,evx,nvx⟩:=Bi qz (j:=i) (by rw[Kk xs (ao ex')];exact hi);exists bV (bD.of gz) evx ?_;exact k1 _ _ (aE.refl _) nvx
   rintro ys H3 l3 nl3 s3 g3 pr3 nx3;have R3:cM K H3 l3 ((ibM inv mv rows mv.length).map λxs=>xs.getD i 0):=⟨ys,g3,pr3⟩;clear g3 pr3 nx3;have s03:=s.trans s3;walk_at "w"
   have fcol:∀x∈(ibM inv mv rows mv.length).map (λxs=>xs.getD i 0),Fr (Mr*(M1*D9)) (2^624) x:=λx hx=>by
    obtain ⟨xs,hx',rfl⟩:=aA.mp hx;exact (Eo (z.ibM I d1 xs hx')).mono (aw (by decide) (by lia))
   refine ⟨l3,q,mv.length,H2,_,rows,rfl,R3,G.same s03,by rw[ag,nW hI],hR,d1,vZ (a:=598) (p:=624) d1 (bQ z.r0 (z.md I).1) (v5 z.r1 (z.md I).2 (by decide)) fcol z.r0 z.r1 z.rr (by decide),λr4 H4 n4 s4 R4=>?_⟩;have s04:=s03.trans s4;have gs4:=s04 _ _ g;rw[LJ o2 hI hm hR er] at R4;exists bV (bD.of (s04 _ _ gv)) (cX ev) ?_;exists ⟨m,q',H0,mv,row,rfl,Gm.same s04,Rq.same s04,by lia,by lia,λxs hx=>⟨by rw[D.mw xs hx,lrow],⟨_,_,_,_,fY z.B.gm z.B.m1 z.B.b1 v1 xs hx,fY z.rr z.r0 z.r1 (av _) row mr,by lia⟩⟩,λr5 H5 n5 s5 R5=>?_⟩;exists ⟨_,_,zm,_,_,by decide,(R4.same s5).kind,R5.kind,?_⟩;rw[decide_eq_true rfl];exists ⟨s04.trans s5,_,_,rfl⟩
  rintro σ' H' ⟨s,y1,y2,rfl⟩;obtain ⟨ps,gp,qp,_⟩:=id Gp;have lps:=qp.length;have gs:=s _ _ g;exists ⟨_,_,rfl,.inl (bD.of (s _ _ gp)),?_⟩;exists ⟨by lia,by lia,?_⟩;refine dg (n:=ps.length) (λi σ' H'=>aE H H'/\∃y1 y2,σ'=[some (.ref r),some (.ref o),some (.ref q),some (.int mv.length),y1,y2]) ⟨s,_,_,rfl⟩ ?_ ?_
  ·rintro i σ' H3 hi ⟨s,y1,y2,rfl⟩;have gs:=s _ _ g;have gs':=s _ _ g';obtain ⟨ps',gp',qp',_⟩:=Gp'.same s;obtain ⟨w1,v1',e1,ev1,mw1,q1,rfl,_,R1⟩:=df qp' (i:=i) (by unfold ibP;rw[ag];lia);obtain ⟨w2,v2',e2,ev2,mw2,q2,rfl,_,R2⟩:=df qp (i:=i) (by lia)
   have e12:w1=inv.map λr=>cZ r w2:=by
    unfold ibP at e1;rw[aB,e2] at e1;exact (bR e1).symm
   have l2:=D.pw w2 mw2;exists bV (bD.of gp') (cX ev1) ?_;exists ⟨q1,q,mv.length,H2,w1,rows,rfl,R1,G.same s,by rw[e12,ag,hI.1],hR,d1,vZ (a:=560) (p:=624) d1 (bQ I.d0 z.B.m2) (v5 I.d1 z.B.b2 (by lia)) (λx hx=>(z.ibP I hI w1 mw1 x hx).mono (aw (by decide) (by lia))) z.r0 z.r1 z.rr (by decide),λr4 H4 n4 s4 R4=>?_⟩;rw[e12,LH o2 hI l2] at R4;have s04:=s.trans s4;have gs4:=s04 _ _ g;exists bV (bD.of (s04 _ _ gp)) (cX ev2) ?_;exists ⟨_,_,zm,_,_,by decide,R4.kind,(R2.same s04).kind,?_⟩;rw[decide_eq_true rfl];exists ⟨s04,_,_,rfl⟩
  rintro σ' H3 ⟨s,y1,y2,rfl⟩;have gs:=s _ _ g;have gs':=s _ _ g';obtain ⟨ls,gl,ql,_⟩:=Gl.same s;have lls:=ql.length;obtain ⟨M3,V3,m0,m1,w1,gf3⟩:=z.lf;exists ⟨⟨_,bD.of gl⟩,?_⟩;refine cW (K:=K) (as:=lk) (F:=c4 K H0) (c4 K H3) (λxs=>rows.map λr=>cZ xs r) gl ql (by lia) (λa b=>a.same b) (λa b=>a.same b) ?_ ?_
  ·rintro j xs x Ha NY NN ex' sa ⟨u,rfl,_,Ru⟩ k1;have mx:=ao ex';have lx:=D.lw xs mx;have s0a:=s.trans sa;obtain ⟨vs2,gv2,qv2,_⟩:=G.same s0a;exists ⟨⟨_,bD.of gv2⟩,?_⟩;refine cW (K:=K) (as:=rows) (F:=c4 K H2) (bU K) (λr=>cZ xs r) gv2 qv2 (by lia) (λa b=>a.same b) (λa b=>a.same b) ?_ ?_
   ·rintro j2 rw2 x2 Hb NY2 NN2 ex2 sb ⟨u2,rfl,_,Ru2⟩ k2;have m2:=ao ex2;exists ⟨u,u2,xs,rw2,rfl,Ru.same sb,Ru2,by rw[hR.2 rw2 m2,lx],by lia,⟨_,_,_,_,fY gf3 m0 m1 w1 xs mx,fY z.rr z.r0 z.r1 (av _) rw2 m2,by decide⟩,λr5 H5 s5 N5=>?_⟩;exact k2 _ _ s5 N5
   ·rintro ys Hb t ht sb g2 pr nx;exact k1 _ _ sb ⟨t,rfl,sa.none ht,ys,g2,pr⟩
  rintro ys H4 l4 nl4 s4 g4 pr4 nx4;have GL:bK K H3 H4 l4 (lk.map λxs=>rows.map λr=>cZ xs r):=⟨ys,g4,pr4,iU nx4⟩
  have e9:(lk.map λxs=>rows.map λr=>cZ xs r)=ibL rows lk:=by
   unfold ibL;exact Bq λxs _=>Bq λr _=>Fx _ _
  rw[e9] at GL;exists ⟨_,_,AR,_,_,by decide,((Gl'.same s).same s4).kind,GL.kind,?_⟩;rw[decide_eq_true rfl];exact k _ (s.trans s4)
theorem t8:a7 ["_law_system_here"] ["_law_system_here"] (aH jO):=by walk_at "d"
theorem uy (T:Txt K mg Z):cw P w K mg base fJ 1 Z.oA Z.ow ["_law_system_here"] (DZ K Z.a_System):=by
 refine T.ji.F.ok t8 (λvs H Q E h=>?_) (λcdv A outer s H vs Q E hr h=>?_)
 ·obtain ⟨x,H0,mv,pt,lk,rfl,_⟩:=h;rfl
 ·obtain ⟨x,H0,mv,pt,lk,rfl,S,k⟩:=h;refine ⟨_,(ay (aW (cn (ae (d9 (pv 0) rfl) (ae (d9 (pv 0) rfl) (ae (d9 (pv 0) rfl) ai)))))),?_⟩;refine aT (σ:=[some (.ref x)]) rfl ?_;obtain ⟨dx,a,b,c,gx,n1,n2,n3,Ga,Gb,Gc⟩:=id S;exists ⟨x,Z.a_System,dx,_,_,rfl,gx,T.cl_System,T.na_move,rY,?_⟩;exists ⟨x,Z.a_System,dx,_,_,rfl,gx,T.cl_System,T.na_put,vX,?_⟩;exists ⟨x,Z.a_System,dx,_,_,rfl,gx,T.cl_System,T.na_look,rZ,?_⟩;exists bN λr H1 s1 g1=>?_
  exact k r H1 s1 ⟨a,b,c,g1,n1,n2,n3,Ga.same s1,Gb.same s1,Gc.same s1⟩
theorem An:a7 ["_law_bag_here","_law_parts_here","_law_steps_here","_law_wide"] ["_law_bag_here","_law_parts_here","_law_steps_here","_law_wide"] (aH oW):=by walk_at "d"
theorem AG (T:Txt K mg Z):cw P w K mg base fJ 4 Z.vB Z.uZ ["_law_bag_here","_law_parts_here","_law_steps_here","_law_wide"] (BH K):=by
 refine T.nK.F.ok An (λvs H Q E h=>?_) (λcdv A outer s H vs Q E hr h=>?_)
 ·obtain ⟨b,r,tt,w,H0,mv,pt,lk,rfl,_⟩:=h;rfl
 ·obtain ⟨b,r,tt,w,H0,mv,pt,lk,rfl,hT,w1,w2,hB,nb,PQ,D,k⟩:=h;refine ⟨_,(ay (aW (bT ["_law_turn"] ["_law_bag_here","_law_parts_here","_law_wide"] [0,1,3] (bP rfl T.range (ae (pv 2) ai)) (λ_=>(aI (i:=0) (show ND9 ["_law_turn","_law_bag_here","_law_parts_here","_law_wide"] by decide +kernel))) (λ_=>bW) (λ_=>(cu (jF T) hr T.fe (ae (pv 1) (ae (bq (yL K (by rfl)) (by rfl) T.len aQ (ae (aV (p6 K (by rfl)) (pv 2) aj) ai)) (ae (pv 3) ai)))))))),?_⟩;refine aT (σ:=[some (.ref b),some (.ref r),some (.int tt),some (.int w)]) rfl ?_;have i4:=D.i4;exists ⟨by lia,by lia,?_⟩
  refine p9 (n:=tt) (b:=b) (c4 K H) (λxs=>xs.length=pt.length/\∀x∈xs,Dr (max w 6) x) hB (by lia) (λ{H' H'' c x} a u B=>by
   obtain ⟨q,e,nq,R⟩:=a;exact ⟨q,e,nq,R.upto u B (λz=>hB.at (by rw[<- z];exact nq))⟩) ?_ ?_
  ·rintro i Ha NY NN hi ua Ba k1;obtain ⟨m,p,l,g,n1,n2,n3,Gm,Gp,Gl⟩:=PQ.upto ua hB nb;obtain ⟨up,gp,qp,_⟩:=id Gp;have lup:=qp.length;exists ⟨_,_,rfl,.inl (bD.of gp),?_⟩;rw[<- lup];exists ⟨b,pt.length,w,rfl,Ba,by lia,w1,by lia,λq xs Hb nq R lx dx Bb ub=>?_⟩;exact k1 _ xs _ ub Bb ⟨lx,dx⟩ ⟨q,rfl,ua.none Ba nq,R⟩
  ·rintro ys cs Hz t ht uz Bz gz lc hc prz nx;exact k t cs Hz ht ⟨ys,gz,prz,iU nx⟩ lc hc Bz uz
theorem js:a7 ["_law_bag_here","_law_parts_here","_law_bottoms","_law_row_here"] ["_law_bag_here","_law_parts_here"] (aH mU):=by walk_at "d"
theorem yE (T:Txt K mg Z):cw P w K mg base fJ 2 Z.tH Z.sY ["_law_bag_here","_law_parts_here"] (yW K):=by
 refine T.lI.F.ok js (λvs H Q E h=>?_) (λcdv A outer s H vs Q E hr h=>?_)
 ·obtain ⟨b,r,H0,mv,pt,lk,rfl,_⟩:=h;rfl
 ·obtain ⟨b,r,H0,mv,pt,lk,rfl,hB,nb,PQ,D,sz,k⟩:=h
  refine ⟨_,(au (aY (i:=2) js.nd rfl (Or.inl rfl) (d7 (ae aj ai)))
   (au (dD PassesOwn.never rfl (cb (bA m8 (aV bJ (pv 1) aj) (aV bJ (pv 1) aj))) (aI (i:=3) js.nd)
    (ay (aY (i:=2) js.nd rfl (Or.inl rfl) (bA m8 (pv 2) (bT ["_law_one"] [] [] (cb (pv 3)) (λ_=>(aI (i:=0) (show ND9 ["_law_one"] by decide +kernel))) (λ_=>bW) (λ_=>(bA eI (aV (p6 K (by rfl)) (pv 0) aj) (bA cH (bA gK (bq tD (by rfl) T.abs PyProof.Rows.boot_abs (ae (aV (p6 K (by rfl)) (pv 0) aj) ai)) aj) aj))))))))
   (au (cy (aZ qA (bq (FC rfl) (by rfl) T.max PyProof.Rows.boot_max (ae (pv 2) ai)) aj (bg _)) (ay (aW (cu (aP T) hr T.aK (ae (pv 0) (ae aj ai))))) bF)
   (au (cy (aZ qA (bq aX (by rfl) T.len aQ (ae (aV bJ (pv 1) aj) ai)) aj (bg _)) (ay (aW (aV bC (d7 (ae (cu (aP T) hr T.aK (ae (pv 0) (ae aj ai))) (ae (bq aX (by rfl) T.len aQ (ae (aV bJ (pv 1) aj) ai)) ai))) (cu (aP T) hr T.aK (ae (pv 0) (ae aj ai)))))) bF)
   (au (cy (PW.pt (ir (aZ l8 (bq aX (by rfl) T.len aQ (ae (aV bJ (pv 1) aj) ai)) aj (bg _)) (jt (aZ eB (cu (aP T) hr T.aK (ae (pv 0) (ae aj ai))) aj (bg _))))) (ay (aW (cu (aP T) hr T.aK (ae (pv 0) (ae aj ai))))) bF)
   (ay (aW (cu (aP T) hr T.aK (ae (pv 0) (ae (bA eI aj (bq aX (by rfl) T.len aQ (ae (aV bJ (pv 1) aj) ai))) ai)))))))))),?_⟩
  refine aT (σ:=[some (.ref b),some (.ref r),none,none]) rfl ?_;have d8:=D.n8;have i4:=D.i4;obtain ⟨m,p,l,g,n1,n2,n3,Gm,Gp,Gl⟩:=id PQ;obtain ⟨um,gm,qm,_⟩:=id Gm;obtain ⟨up,gp,qp,_⟩:=id Gp;have lum:=qm.length;have lup:=qp.length;exists dj λbl0 H1 s1 nbl g1=>?_
  have g':=s1 _ _ g;exists m6 (s1 _ _ gm) (s1 _ _ gp) (aR (bB (by lia))) λcc H2 s2 nc gc=>?_
  have s02:=s1.trans s2;have qc:Paired (c4 K H0 H2) (mv++pt) (um++up):=Paired.imp' (λ_ _ z=>c4.same z s02) (cx qm qp)
  have wc:∀xs∈mv++pt,xs.length=mv.length:=λxs hx=>by
   rcases ax.mp hx with hx | hx
   ·exact D.mw xs hx
   ·exact D.pw xs hx
  have lc:(mv++pt).length=(um++up).length:=qc.length;rw[az,az] at lc;exists ⟨⟨_,bD.of gc⟩,?_⟩;refine jH (K:=K) (a:=cc) (xs:=um++up) (λi σ' H'=>aE H2 H'/\∃bl ns y,σ'=[some (.ref b),some (.ref r),some (.ref bl),y]/\H' bl=some (.lst (ns.map V.int))/\1<=ns.length/\ns.length<=1+i*8/\∀j xs,j < i->(mv++pt)[j]?=some xs->∀x∈xs,Md x∈ns) ⟨aE.refl _,bl0,[1],_,rfl,s2 _ _ g1,by decide,by decide,λj xs h=>absurd h (Nat.not_lt_zero _)⟩ (λi σ' H' _ ⟨e,_⟩=>bD.of (e _ _ gc)) ?_ ?_
  ·rintro i v σ' H' hv ⟨e,bl,ns,y,rfl,gb,b1,b2,hn⟩;obtain ⟨xs,exs,u,rfl,_,zs,gz,qz⟩:=cG qc hv;have mx:=ao exs;have wx:=wc xs mx;have hi:i < (um++up).length:=(aF.mp hv).1;rw[az] at hi;exists ⟨⟨_,bD.of (e _ _ gz)⟩,?_⟩;refine cW (K:=K) (F:=bU K) (λ_ c x=>x=V.int (Md c)) id (e _ _ gz) (Paired.imp' (λ_ _ z=>z.same e) qz) (by lia) (λa b=>a.same b) (λa _=>a) ?_ ?_
   ·rintro j c x Ha NY NN ec sa ⟨pp,rfl,hp⟩ k1;have mc:=ao ec;have szc:=sz xs mx c mc;walk_at "w"
    have e1:(if (nm c).1 < 0 then -(nm c).1 else (nm c).1)=(c.num.natAbs:Int):=by
     show (if c.num < 0 then -c.num else c.num)=_
     split <;> lia
    have e2:(c.num.natAbs:Int).fdiv 1000=(c.num.natAbs:Int) / 1000:=b7 _ (by decide);rw[e1];refine fj (show mI _ _ from ⟨by decide,ba (show (1000:Int).natAbs < 2^20 by decide) (aw (by decide) (by decide))⟩) ?_;rw[e2];exists k1 _ _ (aE.refl _) rfl
   rintro ys Hb cl hcl sb gcl prl _
   have ey:ys=(xs.map Md).map V.int:=by
    rw[Ir] at prl;rw[EL];exact ze prl
   have ly:=prl.length;rw[ag] at ly;have gbb:=sb _ _ gb;rw[ey] at gcl;exists m6 gbb gcl (aR (bB (by rw[ag,ag,ag];lia))) λc2 Hc sc nc2 gc2=>?_
   rw[<- cD] at gc2;refine ⟨(e.trans sb).trans sc,c2,ns++xs.map Md,_,rfl,gc2,by rw[az];lia,by rw[az,ag];lia,λj ys' hj ej x hx=>?_⟩;rcases gO j i with z | z
   ·exact fG _ (hn j ys' z ej x hx)
   ·have:j=i:=by lia
    subst this;rw[exs] at ej;cases ej;exact bI _ (aA.mpr ⟨x,hx,rfl⟩)
  ·rintro σ' H' ⟨e,bl,ns,y,rfl,gb,b1,b2,hn⟩;have e0:=s02.trans e;have B':=hB.same e0;have PQ':=PQ.same e0;obtain ⟨m',p',l',g2,_,_,_,Gm',_,_⟩:=id PQ'
   have em:m'=m:=by
    have:=e0 _ _ g;rw[this] at g2;cases g2;rfl
   subst em;obtain ⟨um',gm',qm',_⟩:=id Gm';have lum':=qm'.length;have u0:cC b H H':=e0.upto;exists ⟨bl,ns,rfl,bD.of gb,by lia,λM hM hmax=>?_⟩;exists fq (λh=>?_) (λh=>?_)
   ·exists ⟨b,4,rfl,B',by decide,by decide,λv H3 v0 v1 B3 u3=>?_⟩;obtain ⟨v,rfl⟩:=bu v0;exact k v H3 ⟨by lia,.inl (by lia)⟩ B3 (u0.trans u3)
   ·have M9:M<=9:=by rw[decide_eq_true_eq] at h;lia
    have sm:∀xs∈mv++pt,∀x∈xs,x.den<=9/\x.num.natAbs < 1000:=λxs hx x hx'=>by
     obtain ⟨j,hj,rfl⟩:=bZ hx;have:=hn j _ (by rw[az,<- lum,<- lup];rw[az] at hj;exact hj) (af hj) x hx';exact JL (Int.le_trans (hmax _ this) M9)
    exists ⟨_,_,rfl,.inl (bD.of gm'),?_⟩;rw[<- lum'];exists fq (λh1=>?_) (λh1=>?_)
    ·have n5:5 < mv.length:=by have:=of_decide_eq_true h1;lia
     exists ⟨b,4,rfl,B',by decide,by decide,λv H3 v0 v1 B3 u3=>?_⟩;obtain ⟨v,rfl⟩:=bu v0;obtain ⟨m3,p3,l3,g3,_,_,_,Gm3,_,_⟩:=PQ'.upto u3 B' nb;obtain ⟨um3,gm3,qm3,_⟩:=id Gm3;have lum3:=qm3.length;exists ⟨_,_,rfl,.inl (bD.of gm3),?_⟩;rw[<- lum3];exists dj λl4 H4 s4 n4 g4=>?_
     exists ⟨b,2,rfl,B3.same s4,by decide,by decide,λv2 H5 v20 v21 B5 u5=>?_⟩;have g5:=u5.other (λz=>B3.at (by rw[<- z];exact n4)) g4;obtain ⟨x,ex,mx,_⟩:=iM (xs:=[V.int (v:Int),V.int (mv.length:Int)]) v20 (by simpa using v21);exists bV (bD.of g5) ex ?_;have u05:=(u0.trans (u3.same s4)).trans u5;simp only[aD,aO,or_false] at mx;rcases mx with rfl | rfl
     ·exact k v H5 ⟨by lia,.inl (by lia)⟩ B5 u05
     ·exact k mv.length H5 ⟨by lia,.inr ⟨sm,λ_=>av _,λ_ _=>oB _⟩⟩ B5 u05
    ·have n5:mv.length<=5:=by rw[decide_eq_true_eq] at h1;lia
     exists ⟨_,_,rfl,.inl (bD.of gm'),?_⟩;rw[<- lum'];have last:∀(Hx:Hp),fD Hx b->cC b H Hx->∀(v:Nat),v < 2+mv.length->Q (.int v) Hx:=λHx Bx ux v hv=>k v Hx ⟨by lia,.inr ⟨sm,λz=>by lia,λ_ _=>by lia⟩⟩ Bx ux
     exists fq (λh2=>?_) (λh2=>?_)
     ·have n3':mv.length < 3:=by have:=of_decide_eq_true h2;lia
      exists ⟨b,8,rfl,B',by decide,by decide,λv H3 v0 v1 B3 u3=>?_⟩;exists fq (λh3=>?_) (λh3=>?_)
      ·exists ⟨b,13,rfl,B3,by decide,by decide,λv4 H4 v40 v41 B4 u4=>?_⟩;obtain ⟨v4,rfl⟩:=bu v40;exact k v4 H4 ⟨by lia,.inr ⟨sm,λz=>by lia,λz _=>by lia⟩⟩ B4 ((u0.trans u3).trans u4)
      ·obtain ⟨m3,p3,l3,g3,_,_,_,Gm3,_,_⟩:=PQ'.upto u3 B' nb;obtain ⟨um3,gm3,qm3,_⟩:=id Gm3;have lum3:=qm3.length;exists ⟨_,_,rfl,.inl (bD.of gm3),?_⟩;rw[<- lum3];walk_at "w";rw[show ((2:Int)+(mv.length:Int))=((2+mv.length:Nat):Int) by lia];refine ⟨b,2+mv.length,rfl,B3,by lia,by lia,λv4 H4 v40 v41 B4 u4=>?_⟩;obtain ⟨v4,rfl⟩:=bu v40;exact last H4 B4 ((u0.trans u3).trans u4) v4 (by lia)
     ·exists ⟨_,_,rfl,.inl (bD.of gm'),?_⟩;rw[<- lum'];walk_at "w";rw[show ((2:Int)+(mv.length:Int))=((2+mv.length:Nat):Int) by lia];refine ⟨b,2+mv.length,rfl,B',by lia,by lia,λv4 H4 v40 v41 B4 u4=>?_⟩;obtain ⟨v4,rfl⟩:=bu v40;exact last H4 B4 (u0.trans u4) v4 (by lia)
theorem xn:a7 ["self","state"] ["self","state"] (aH fA):=by walk_at "d"
theorem xH (T:Txt K mg Z):cw P w K mg base fJ 6 Z.lW Z.lT ["self","state"] (BG K Z.a_System):=by
 refine T.qV.ok xn (λvs H Q E h=>?_) (λcdv A outer s H vs Q E hr h=>?_)
 ·obtain ⟨x,p,H0,mv,pt,lk,st,rfl,_⟩:=h;rfl
 ·obtain ⟨x,p,H0,mv,pt,lk,st,rfl,S,D,hp,l1,fs,k⟩:=h;refine ⟨_,(ay (aW (cu (nh T) hr T.jh (ae (d9 (pv 0) rfl) (ae (pv 1) ai))))),?_⟩;refine aT (σ:=[some (.ref x),some (.ref p)]) rfl ?_;obtain ⟨dx,a,b,c,gx,n1,n2,n3,Ga,Gb,Gc⟩:=id S;have d3:=D.o4;have d1:=D.n8;exists ⟨x,Z.a_System,dx,_,_,rfl,gx,T.cl_System,T.na_look,rZ,?_⟩;exists ⟨c,p,H0,lk,st,rfl,Gc,hp,by lia,by lia,λxs hx=>⟨by rw[D.lw xs hx,l1],fs xs hx⟩,k⟩
theorem fh:a7 ["_law_parts_here","_law_state","_law_puts_here","_law_move_here","_law_put","_law_look","_law_found","_law_k"] ["_law_parts_here","_law_state","_law_puts_here"] (aH oZ):=by walk_at "d"
theorem AH (T:Txt K mg Z):cw P w K mg base fJ 5 Z.vE Z.vd ["_law_parts_here","_law_state","_law_puts_here"] (BK K):=by
 refine T.nM.F.ok fh (λvs H Q E h=>?_) (λcdv A outer s H vs Q E hr h=>?_)
 ·obtain ⟨r,s0,u0,H0,mv,pt,lk,st,pu,rfl,_⟩:=h;rfl
 ·obtain ⟨r,s0,u0,H0,mv,pt,lk,st,pu,rfl,PQ,D,hs,hu,l1,l2,NX,k⟩:=h
  refine ⟨_,(au (dU (pv 0) (uu rfl (cz (aI (i:=3) fh.nd) (cz (aI (i:=4) fh.nd) (cz (aI (i:=5) fh.nd) iw)))))
   (au (aY (i:=6) fh.nd rfl (Or.inl rfl) (cu (rK T) hr T.kg (ae (pv 3) (ae (pv 1) ai))))
   (au (dD PassesOwn.never rfl (bP rfl T.range (ae (bq aX (by rfl) T.len aQ (ae (pv 4) ai)) ai)) (aI (i:=7) fh.nd)
    (ay (aY (i:=6) fh.nd rfl (Or.inl rfl) (cu (jU T) hr T.fX (ae (pv 6) (ae (cu (fo T) hr T.dX (ae (aV bC (pv 2) (pv 7)) (ae (aV bC (pv 4) (pv 7)) ai))) ai))))))
   (ay (aW (pv 6)))))),?_⟩
  refine aT (σ:=[some (.ref r),some (.ref s0),some (.ref u0),none,none,none,none,none]) rfl ?_;obtain ⟨m,p,l,g,n1,n2,n3,Gm,Gp,Gl⟩:=id PQ;have d1:=D.n8;have d2:=D.i4;exists ⟨m,s0,H0,mv,st,rfl,Gm,hs,by lia,by lia,λxs hx=>⟨by rw[D.mw xs hx,l1],NX.f2 xs hx⟩,λf H1 nf s1 R1=>?_⟩;obtain ⟨ps,gp,qp,_⟩:=Gp.same s1;have lp:=qp.length;exists ⟨_,_,rfl,.inl (bD.of gp),?_⟩;exists ⟨by lia,by lia,?_⟩;refine dg (n:=ps.length) (λkk σ' H'=>∃(f:Addr) (x:Option V),σ'=[some (.ref r),some (.ref s0),some (.ref u0),some (.ref m),some (.ref p),some (.ref l),some (.ref f),x]/\H f=none/\aE H1 H'/\cM K H' f (nextK mv pt st pu kk)) ⟨f,none,rfl,nf,aE.refl _,by rw[Dt];exact R1⟩ ?_ ?_
  ·rintro kk σ' H' hk ⟨f',x,rfl,nf',s',R'⟩;have kp:kk < pt.length:=by lia
   have ku:kk < pu.length:=by lia
   obtain ⟨zs,gz,qz⟩:=(hu.same s1).same s';have lz:=qz.length;obtain ⟨vu,eu,nu⟩:=Bi qz ku;obtain ⟨row,vr,er,ev,mr,q,rfl,_,Rq⟩:=df qp kp
   have er':pt[kk]=row:=by
    rw[af kp] at er;exact bR er
   have eu':pu.getD kk 0=pu[kk]:=by rw[aa,af ku];rfl
   have mu:pu.getD kk 0∈pu:=getD_mem ku;exists bV (bD.of gz) eu ?_;exists bV (bD.of (s' _ _ gp)) (cX ev) ?_;exists ⟨vu,q,_,row,rfl,nu,NX.su _ mu,Rq.same s',by rw[D.pw row mr];lia,NX.sp row mr,λr1 H2 n1' s2 R2=>?_⟩;exists ⟨f',r1,_,_,rfl,R'.same s2,R2,by rw[ag,gY,D.pw row mr],by rw[gY];lia,NX.part kk,λy hy=>?_,λr2 H3 n2' s3 R3=>?_⟩
   ·obtain ⟨y',hy',rfl⟩:=aA.mp hy;exact NX.mul _ mu row mr y' hy'
   ·exists ⟨s1.none (s'.none (s2.none n2')),(s'.trans s2).trans s3,?_⟩;have e:=Dv (st:=st) (pu:=pu) (λxs hx=>by rw[D.mw xs hx,l1]) kp ku (by rw[er'];exact D.pw row mr);rw[er',<- eu'] at e;rw[<- e];exact R3
  ·rintro σ' H' ⟨f',x,rfl,nf',s',R'⟩;rw[pX (by lia) (by lia)] at R';exists k f' H' nf' (s1.trans s') R'
theorem oj:a7 ["self","state","puts","columns"] ["self","state","puts"] (aH eQ):=by walk_at "d"
theorem vS (T:Txt K mg Z):cw P w K mg base fJ 5 Z.kq Z.ko ["self","state","puts"] (yY K Z.a_System):=by
 refine T.pQ.ok oj (λvs H Q E h=>?_) (λcdv A outer s H vs Q E hr h=>?_)
 ·obtain ⟨x,p,q,H0,mv,pt,lk,st,pu,rfl,_⟩:=h;rfl
 ·obtain ⟨x,p,q,H0,mv,pt,lk,st,pu,rfl,S,D,hp,hq,l1,l2,fs,k⟩:=h
  refine ⟨_,(au (aY (i:=3) oj.nd rfl (Or.inl rfl) (cu (kb T) hr T.fP (ae (d9 (pv 0) rfl) (ae (d9 (pv 0) rfl) ai))))
   (ay (aW (bT ["line","column"] ["state","puts"] [1,2] (v7 rfl T.zip (ae (d9 (pv 0) rfl) (ae (pv 3) ai))) (λ_=>(pW K 2 (cz (aI (i:=0) (show ND9 ["line","column","state","puts"] by decide +kernel)) (cz (aI (i:=1) (show ND9 ["line","column","state","puts"] by decide +kernel)) iw)))) (λ_=>bW) (λ_=>(cu (xD T) hr T.nG (ae (bA m8 (pv 0) (pv 1)) (ae (bA m8 (pv 2) (pv 3)) ai)))))))),?_⟩
  refine aT (σ:=[some (.ref x),some (.ref p),some (.ref q),none]) rfl ?_;obtain ⟨dx,a,b,c,gx,n1,n2,n3,Ga,Gb,Gc⟩:=id S;have d1:=D.n8;have d2:=D.i4;exists ⟨x,Z.a_System,dx,_,_,rfl,gx,T.cl_System,T.na_put,vX,?_⟩;exists ⟨x,Z.a_System,dx,_,_,rfl,gx,T.cl_System,T.na_states,rf,?_⟩;exists ⟨b,mv.length,H0,pt,rfl,Gb,by lia,by lia,D.pw,λt H1 nt s1 Gt=>?_⟩;obtain ⟨as,ga,qa,_⟩:=Ga.same s1;obtain ⟨ts,gt,qt,_⟩:=id Gt;have la:=qa.length;have lt:=qt.length;rw[cV] at lt;have gx1:=s1 _ _ gx;exists ⟨x,Z.a_System,dx,_,_,rfl,gx1,T.cl_System,T.na_move,rY,?_⟩;exists ⟨⟨_,bD.of ga⟩,⟨_,bD.of gt⟩,?_⟩;refine tz (K:=K) (xs:=as) (ws:=ts) (λi ys H'=>aE H1 H'/\Paired (bU K H') ((dE mv pt st pu).take i) ys) (aR (bB (by lia))) (by lia) ⟨aE.refl _,.nil⟩ (λi ys H' _ ⟨s,_⟩=>⟨bD.of (s _ _ ga),bD.of (s _ _ gt)⟩) ?_ ?_
  ·rintro i v1 v2 ys H' r h1 h2 hy ⟨s,pr⟩ hr;obtain ⟨line,el,u1,rfl,_,R1⟩:=cG qa h1;obtain ⟨col,ec,u2,rfl,_,R2⟩:=cG qt h2;have ml:=ao el;have mc:=ao ec;have sr:aE H' (upd H' r (.tup [.ref u1,.ref u2])):=aE.new hr;have gr:(upd H' r (.tup [.ref u1,.ref u2])) r=some (.tup [.ref u1,.ref u2]):=aG;have s2:=s.trans sr;generalize upd H' r (.tup [.ref u1,.ref u2])=H2 at sr gr s2 ⊢;have lc:col.length=pt.length:=pT col mc;have ll:line.length=mv.length:=D.mw line ml;obtain ⟨z1,g1,q1⟩:=R1.same s2;obtain ⟨z2,g2,q2⟩:=R2.same s2;have y1:=q1.length;have y2:=q2.length;exists m6 g1 g2 (aR (bB (by lia))) λc1 H3 s3 n3' g3=>?_
   have s13:=s2.trans s3;obtain ⟨z3,g4,q3⟩:=(hp.same s1).same s13;obtain ⟨z4,g5,q4⟩:=(hq.same s1).same s13;have y3:=q3.length;have y4:=q4.length;exists m6 g4 g5 (aR (bB (by lia))) λc2 H4 s4 n4 g6=>?_
   have s34:=s3.trans s4;exists ⟨c1,c2,line++col,st++pu,rfl,⟨_,s4 _ _ g3,Paired.imp' (λ_ _ z=>z.same s34) (cx q1 q2)⟩,⟨_,g6,Paired.imp' (λ_ _ z=>z.same s4) (cx q3 q4)⟩,by rw[az,az];lia,by rw[az];lia,fs _ ?_,λr2 H5 s5 h5=>?_⟩
   ·intro y hy;rcases ax.mp hy with hy | hy
    ·exact .inl ⟨line,ml,hy⟩
    ·obtain ⟨j,_,rfl⟩:=aA.mp mc;obtain ⟨xs,hx,rfl⟩:=aA.mp hy;by_cases hj:j < xs.length
     ·refine .inr (.inl ⟨xs,hx,?_⟩);rw[aa,af hj];exact aS hj
     ·exact .inr (.inr (by rw[aa,bp (by lia)];rfl))
   ·have em:(dE mv pt st pu)[i]?=some (cZ (line++col) (st++pu)):=by
     unfold dE;rw[bO,el,ec]
    refine ⟨((s2.trans s34).trans s5),?_⟩;rw[take_snoc em];exact cx (Paired.imp' (λ_ _ z=>(z.same (sr.trans s34)).same s5) pr) (.cons h5 .nil)
  ·rintro ys H' hy ⟨s,pr⟩ l hl;have lm:(dE mv pt st pu).length=mv.length:=by unfold dE;rw[bG,cV];lia
   rw[aJ (by lia)] at pr;exact k l _ (s1.none (s.none hl)) ((s1.trans s).trans (aE.new hl)) ⟨ys,aG,Paired.imp' (λ_ _ z=>z.same (aE.new hl)) pr⟩
theorem fz:a7 ["_law_parts_here","_law_told_here","_law_rows","_law_start","_law_puts_here","_law_state","_law_own","_law_some"] ["_law_parts_here","_law_told_here","_law_rows","_law_start","_law_puts_here"] (aH m4):=by walk_at "d"
theorem yJ (T:Txt K mg Z):cw P w K mg base fJ 7 Z.tP Z.tx ["_law_parts_here","_law_told_here","_law_rows","_law_start","_law_puts_here"] (BS K Z.a_System):=by
 refine T.lS.F.ok fz (λvs H Q E h=>?_) (λcdv A outer s H vs Q E hr h=>?_)
 ·obtain ⟨r,x,q,s,p,H0,H1,H2,H3,mv,pt,lk,rows,inv,pus,start,rfl,_⟩:=h;rfl
 ·obtain ⟨r,x,q,s,p,H0,H1,H2,H3,mv,pt,lk,rows,inv,pus,start,rfl,PQ,S,G,hs,GP,D,hR,hI,o2,ls,wp,p4,Z0,A,k⟩:=h
  refine ⟨_,(au (aY (i:=5) fz.nd rfl (Or.inl rfl) (cu (iC T) hr T.eU (ae (pv 3) (ae (pv 2) (ae (bq aX (by rfl) T.len aQ (ae (pv 2) ai)) ai)))))
   (au (aY (i:=6) fz.nd rfl (Or.inl rfl) (eS oi (by rfl) T.list PyProof.Rows.boot_list (ae (pv 3) ai)))
   (au (dD PassesOwn.never rfl (cb (pv 4)) (aI (i:=7) fz.nd)
    (au (cy (aZ (m7 (uE hr)) (Eb (pv 1) T.cl_System T.pA (xH T) (hr.mono (by decide)) T.qM .nil Ck (ae (pv 6) ai)) (cu (rK T) hr T.kg (ae (aV bJ (pv 0) aj) (ae (pv 5) ai))) (bg _)) (ay (aW jE)) bF)
   (au (aY (i:=5) fz.nd rfl (Or.inl rfl) (cu (AH T) hr T.nM (ae (pv 0) (ae (pv 5) (ae (pv 7) ai)))))
   (au (aY (i:=6) fz.nd rfl (Or.inl rfl) (Eb (pv 1) T.cl_System T.oq (vS T) (hr.mono (by decide)) T.pN .nil Ck (ae (pv 6) (ae (pv 7) ai))))
   (ay (cy (aZ (m7 (uE hr)) (cu (iC T) hr T.eU (ae (pv 6) (ae (pv 2) (ae (bq aX (by rfl) T.len aQ (ae (pv 2) ai)) ai)))) (pv 5) (bg _)) (ay (aW jE)) bF))))))
   (ay (aW jE))))),?_⟩
  refine aT (σ:=[some (.ref r),some (.ref x),some (.ref q),some (.ref s),some (.ref p),none,none,none]) rfl ?_;obtain ⟨m,p',l,g,_,_,_,Gm,Gp,Gl⟩:=id PQ;have d1:=D.n8;have d2:=D.i4;have d3:=D.o4;have lr:=hR.1;have D':=AU D hI hR;have lM:=nW (mv:=mv) (rows:=rows) hI;obtain ⟨vs,gv,qv,_⟩:=id G;have lv:=qv.length;obtain ⟨ws,gw,qw⟩:=id hs;have lw:=qw.length;obtain ⟨pu0,gpu,qpu,_⟩:=id GP;have lpu:=qpu.length;exists ⟨_,_,rfl,.inl (bD.of gv),?_⟩;rw[show ((vs.length:Nat):Int)=(mv.length:Int) by lia];exists ⟨s,q,mv.length,H2,start,rows,rfl,hs,G,ls,hR,d1,Z0,λr1 H4 n4 s4 R4=>?_⟩;exists ⟨s,ws,rfl,.inl (bD.of (s4 _ _ gw)),λl1 hl1=>?_⟩;have s5:aE H4 (upd H4 l1 (.lst ws)):=aE.new hl1;have Ro:cM K (upd H4 l1 (.lst ws)) l1 start:=⟨ws,aG,Paired.imp' (λ_ _ z=>(z.same s4).same s5) qw⟩;generalize upd H4 l1 (.lst ws)=H5 at s5 Ro ⊢;have s05:=s4.trans s5;exists ⟨⟨_,bD.of (s05 _ _ gpu)⟩,?_⟩;refine jH (K:=K) (a:=p) (xs:=pu0) (λi σ' H'=>∃st own y so,σ'=[some (.ref r),some (.ref x),some (.ref q),some (.ref s),some (.ref p),some (.ref st),some (.ref own),y]/\aE H H'/\cM K H' st (Ad mv pt (pU start rows mv.length) pus i)/\cM K H' own so/\so.length=mv.length/\pU so rows mv.length=Ad mv pt (pU start rows mv.length) pus i) ⟨r1,l1,none,start,rfl,s05,R4.same s5,Ro,ls,rfl⟩ (λi σ' H' _ ⟨_,_,_,_,_,s,_⟩=>bD.of (s _ _ gpu)) ?_ ?_
  ·rintro i v σ' H' hv ⟨st,own,y,so,rfl,sH,Rs,Rw,lo,es⟩;obtain ⟨pu,epu,pq,rfl,_,Rp⟩:=cG qpu hv;have mp:=ao epu;have il:=(aF.mp epu).1;have lst:=DX (mv:=mv) (pt:=pt) (st:=pU start rows mv.length) (pus:=pus) (k:=i) xi (aR il);obtain ⟨dx,xa,xb,xc,gx,_⟩:=id S;have gx':=sH _ _ gx;have gs':=sH _ _ g;obtain ⟨fse,Zo⟩:=A.se i so (aR il) lo es;exists ⟨x,dx,_,rfl,gx',F1,?_⟩;exists ⟨x,own,H1,_,_,_,so,rfl,S.same sH,D',Rw,by rw[lM];exact lo,fse,λr6 H6 n6 s6 R6=>?_⟩;have s06:=sH.trans s6;have g6:=s06 _ _ g;exists ⟨l,st,H0,lk,_,rfl,Gl.same s06,Rs.same s6,by lia,by rw[lst];lia,λxs hx=>⟨by rw[D.lw xs hx,lst],A.lo i (aR il) xs hx⟩,λr7 H7 n7 s7 R7=>?_⟩
   have e67:L2.seenQ (ibL rows lk) so=lk.map λxs=>cZ xs (Ad mv pt (pU start rows mv.length) pus i):=by
    unfold L2.seenQ ibL;rw[EL]
    exact Bq λxs hx=>by
     rw[<- es];exact JA hR (D.lw xs hx) lo
   rw[e67] at R6;exists ⟨_,_,zm,_,_,by decide,(R6.same s7).kind,R7.kind,?_⟩;rw[decide_eq_true rfl];have s07:=s06.trans s7;have s67:=s6.trans s7;exists ⟨r,st,pq,H0,mv,pt,lk,_,pu,rfl,PQ.same s07,D,Rs.same s67,Rp.same s07,lst,wp pu mp,A.nx i pu epu,λr8 H8 n8 s8 R8=>?_⟩;rw[<- sD epu] at R8;have s08:=s07.trans s8;have s68:=s67.trans s8;exists ⟨x,dx,_,rfl,s08 _ _ gx,ES,?_⟩;exists ⟨x,own,pq,H1,_,_,_,so,pu,rfl,S.same s08,D',Rw.same s68,Rp.same s08,by rw[lM];exact lo,by unfold ibP;rw[ag];exact wp pu mp,A.mo i pu so epu lo es,λr9 H9 n9 s9 R9=>?_⟩
   have e9:pU (dE (ibM inv mv rows mv.length) (ibP inv pt) so pu) rows mv.length=Ad mv pt (pU start rows mv.length) pus (i+1):=by
    rw[Hw o2 hI hR D rfl D' lo (wp pu mp),es,sD epu]
   have l9:(dE (ibM inv mv rows mv.length) (ibP inv pt) so pu).length=mv.length:=by unfold dE;rw[bG,cV,lM];lia
   have s09:=s08.trans s9;exists ⟨_,_,rfl,.inl (bD.of (s09 _ _ gv)),?_⟩;rw[show ((vs.length:Nat):Int)=(mv.length:Int) by lia];exists ⟨r9,q,mv.length,H2,_,rows,rfl,R9,G.same s09,l9,hR,d1,(A.se (i+1) _ il l9 e9).2,λrA HA nA sA RA=>?_⟩;rw[e9] at RA;exists ⟨_,_,zm,_,_,by decide,RA.kind,((R8.same s9).same sA).kind,?_⟩;rw[decide_eq_true rfl];exists ⟨r8,r9,_,_,rfl,s09.trans sA,(R8.same s9).same sA,R9.same sA,l9,e9⟩
  ·rintro σ' H' ⟨st,own,y,so,rfl,sH,_⟩;exists k H' sH
theorem gR:a7 ["_law_script","_law_bag_here","_law_parts_here","_law_wide","_law_n","_law_system_here","_law_rows","_law_way","_law_at","_law_handed","_law_word","_law_found","_law_row_here","_law_puts_here"] ["_law_script"] (aH Ge):=by walk_at "d"
theorem Ls (T:Txt K mg Z):cw P w K mg base fJ 9 Z.Kv Z.Ku ["_law_script"] (wZ K):=by
 refine T.Kz.ok gR (λvs H Q E h=>?_) (λcdv A outer s H vs Q E hr h=>?_)
 ·obtain ⟨a0,ns,rfl,_⟩:=h;rfl
 ·obtain ⟨a0,ns,rfl,hS,hlen,k⟩:=h
  refine ⟨_,(au (aY (i:=1) gR.nd rfl (Or.inr rfl) (cu (Co T) hr T.pz (ae (pv 0) ai)))
   (au (dU (cu (xE T) hr T.kf (ae (pv 1) ai)) (uu rfl (cz (aI (i:=2) gR.nd) (cz (aI (i:=3) gR.nd) iw))))
   (au (aY (i:=4) gR.nd rfl (Or.inr rfl) (bq aX (by rfl) T.len aQ (ae (aV bJ (pv 2) aj) ai)))
   (au (aY (i:=5) gR.nd rfl (Or.inl rfl) (cu (AJ T) hr T.nO (ae (pv 2) ai)))
   (au (aY (i:=6) gR.nd rfl (Or.inl rfl) (cu (yI T) hr T.lQ (ae (pv 1) (ae (pv 4) ai))))
   (au (aY (i:=7) gR.nd rfl (Or.inl rfl) (cu (aP T) hr T.aK (ae (pv 1) (ae aj ai))))
   (fB (cy (PW.pt (ir (aZ qA (pv 4) aj (bg _)) (jt (aZ l8 (pv 7) aj (bg _))))) (au (aY (i:=8) gR.nd rfl (Or.inl rfl) (cu (aP T) hr T.aK (ae (pv 1) (ae (pv 4) ai))))
   (ay (dU (cu (fo T) hr T.dX (ae (cn (ae (bA cH (cu (aP T) hr T.aK (ae (pv 1) (ae aj ai))) (pv 7)) (ae aj ai))) (ae (aV bC (pv 6) (cu (aP T) hr T.aK (ae (pv 1) (ae (pv 4) ai)))) ai))) (fk (pv 6) (pv 8) set_list)))) bF)
   (fB (cy (aZ eB (pv 7) aj (bg _)) (ay (gM 6 ["_law_k"] ["_law_bag_here","_law_n"] [1,4] gR.nd rfl rfl (bP rfl T.range (ae (pv 4) ai)) (λ_=>(aI (i:=0) (show ND9 ["_law_k","_law_bag_here","_law_n"] by decide +kernel))) (λ_=>bW) (λ_=>(cu (jF T) hr T.fe (ae (pv 1) (ae (pv 2) (ae aj ai))))))) bF)
   (au (aY (i:=9) gR.nd rfl (Or.inl rfl) (cu (iD T) hr T.eV (ae (pv 6) ai)))
   (au (dU (cu (AE T) hr T.nI (ae (pv 5) (ae (pv 9) ai))) (uu rfl (cz (aI (i:=10) gR.nd) (cz (aI (i:=11) gR.nd) iw))))
   (au (cy (aZ (m7 (uE hr)) (pv 9) (pv 6) (bg _)) (ay (aW jE)) bF)
   (au (cy (aZ l8 (bq aX (by rfl) T.len aQ (ae (cu (AL T) hr T.nR (ae (pv 6) (ae (pv 4) ai))) ai)) (pv 4) (bg _)) (ay (aW (gN (Dl (uE hr)) (cn (ae (pv 10) (ae (pv 11) ai))) (cn (ae Ax (ae jE ai))) (bg _)))) bF)
   (au (cy (PW.pt (lZ (aZ sL (pv 10) Ax (bg _)) (ja (jb (iu (cu (sP T) hr T.iI (ae (pv 11) (ae (pv 4) (ae (bq aX (by rfl) T.len aQ (ae (aV bJ (pv 2) aj) ai)) (ae (bq aX (by rfl) T.len aQ (ae (aV bJ (pv 2) aj) ai)) ai)))))))))) (ay (aW jE)) bF)
   (au (dD PassesOwn.never rfl (cb (pv 9)) (aI (i:=12) gR.nd)
    (ay (kE (zd eF fL fK ma (pv 12) (ae (cn (ae aj (ae aj ai))) ai)))))
   (au (cy (jb (iu (cu (yH T) hr T.lP (ae (pv 2) (ae (cu (uy T) hr T.ji (ae (pv 11) ai)) (ae (pv 6) ai)))))) (ay (aW jE)) bF)
   (au (aY (i:=13) gR.nd rfl (Or.inl rfl) (cu (AG T) hr T.nK (ae (pv 1) (ae (pv 2) (ae (bA eI aj (bA ka (cu (yE T) hr T.lI (ae (pv 1) (ae (pv 2) ai))) aj)) (ae (pv 3) ai))))))
   (ay (aW (cu (yJ T) hr T.lS (ae (pv 2) (ae (pv 11) (ae (pv 6) (ae (cu (jF T) hr T.fe (ae (pv 1) (ae (pv 4) (ae aj ai)))) (ae (pv 13) ai)))))))))))))))))))))))),?_⟩
  refine aT (σ:=[some (.ref a0),none,none,none,none,none,none,none,none,none,none,none,none,none]) rfl ?_;exists ⟨a0,ns,rfl,hS,hlen,λb H0 hb0 B0 s0=>?_⟩;exists ⟨b,rfl,B0,λt1 r w a c mv pt lk H1 g1 P1 D F KF RG w1 w2 B1 u1=>?_⟩;have n8:=D.n8;have i4:=D.i4;have o4:=D.o4;obtain ⟨m0,p0,l0,gr,nm0,np0,nl0,Gm,Gp,Gl⟩:=id P1;obtain ⟨ms,gm,qm,_⟩:=id Gm;have lm:=qm.length;exists ⟨_,_,rfl,.inl (bD.of gm),?_⟩;rw[show ((ms.length:Nat):Int)=(mv.length:Int) by lia];exists ⟨r,H0,mv,pt,lk,rfl,P1,D,F.sf,λx H2 nx s2 S2=>?_⟩;have B2:=B1.same s2;exists ⟨b,mv.length,rfl,B2,n8,λl rows T H3 nl G3 hR T16 gf B3 u3=>?_⟩;exists ⟨b,4,rfl,B3,by decide,by decide,λway H4 y0 y1 B4 u4=>?_⟩;obtain ⟨way,rfl⟩:=bu y0;obtain ⟨vs,g3,q3,ni⟩:=G3;have X4:mJ K b l mv.length T H2 H4 vs rows:=mJ.upto ⟨B3,u3,nl,g3,q3,ni,hR,gf⟩ B2 u4 B4;clear g3 q3 ni hR gf;exists ⟨λσ' H'=>∃y vs rows T,σ'=[some (.ref a0),some (.ref b),some (.ref r),some (.int w),some (.int mv.length),some (.ref x),some (.ref l),some (.int way),y,none,none,none,none,none]/\T<=17/\mJ K b l mv.length T H2 H' vs rows,?_,?_⟩
  ·exists fq (λh0=>?_) (λh0=>?_)
   ·have h0:=of_decide_eq_true h0;exists fq (λh1=>?_) (λh1=>?_)
    ·have h1:=of_decide_eq_true h1;exists ⟨b,mv.length,rfl,B4,by lia,by lia,λi H5 i0 i1 B5 u5=>?_⟩;obtain ⟨i,rfl⟩:=bu i0;exists ⟨b,3,rfl,B5,by decide,by decide,λd H6 d0 d1 B6 u6=>?_⟩;exists fj (A5 (by lia) (by lia)) ?_;exists bN λtc H7 s7 g7=>?_
     have X7:=((X4.upto B2 u5 B5).upto B2 u6 B6).same s7;exists ⟨b,mv.length,rfl,X7.B,by lia,by lia,λj H8 j0 j1 B8 u8=>?_⟩;obtain ⟨j,rfl⟩:=bu j0;have X8:=X7.upto B2 u8 B8;have lv:vs.length=mv.length:=by rw[<- X8.pr.length];exact X8.w.1
     obtain ⟨row,q,er,ev,mr,R⟩:=X8.at (j:=j) (by lia);have lrow:=X8.w.2 row mr
     have fd:Fr (3^0) 2 ((d*way:Int):Rat):=Fr.int (by
      rcases (show way=0\/way=1 by lia) with rfl | rfl
      ·simp
      ·lia)
     exists bV (bD.of X8.g) (cX ev) ?_;exists ⟨_,q,((d*way:Int):Rat),row,rfl,bU.mk (u8.tup X7.B g7) rfl,kn (a:=0) (b:=1) (by decide) (by decide) (by decide) (by decide) fd,R,by lia,X8.szn T16 row mr,λr9 H9 n9 s9 R9=>?_⟩;exists dC (X8.same s9).g (dY (by lia)) rfl ?_;refine ⟨_,_,_,T+1,rfl,by lia,X8.set B2 s9 n9 R9 (by rw[ag];exact lrow) (λy hy=>?_)⟩;obtain ⟨y',hy',rfl⟩:=aA.mp hy;rw[fF,cB];have:=fd.mul (X8.f row mr y' hy');rw[Nat.pow_zero,tS] at this;exact (this.scaleL 3).mono (aN _ (by decide))
    ·exists ⟨_,_,_,_,rfl,by lia,X4⟩
   ·exists ⟨_,_,_,_,rfl,by lia,X4⟩
  clear X4 B4 u4 B3 u3 T16;clear vs rows T;rintro σ' H3 ⟨y,vs,rows,T,rfl,T17,X4⟩;have q17:3^T<=2^27:=ar (aw (by decide) T17) (by decide);exists ⟨λσ' H'=>∃l rows Mr,σ'=[some (.ref a0),some (.ref b),some (.ref r),some (.int w),some (.int mv.length),some (.ref x),some (.ref l),some (.int way),y,none,none,none,none,none]/\fD H' b/\cC b H2 H'/\H2 l=none/\bK K H2 H' l rows/\ks rows mv.length/\0 < Mr/\Mr<=2^38/\GF Mr (2^28) rows,?_,?_⟩
  ·exists fq (λh0=>?_) (λh0=>?_)
   ·exists ⟨by lia,by lia,?_⟩;refine p9 (n:=mv.length) (b:=b) (c4 K H3) (λxs=>xs.length=mv.length/\∀x∈xs,Dr 6 x) X4.B (by lia) (λh u B=>h.upto u B X4.B.at) ?_ ?_
    ·rintro i H5 NY NN hi u5 B5 k1;exists ⟨b,mv.length,4,rfl,B5,by lia,by decide,by decide,λr6 xs H6 n6 R6 l6 d6 B6 u6=>?_⟩;exact k1 _ _ _ u6 B6 ⟨l6,d6⟩ ⟨r6,rfl,u5.none B5 n6,R6⟩
    rintro ys F H5 l5 n5 u5 B5 g5 lF wF pr5 nx5;exists ⟨l5,F,2520,rfl,B5,X4.u.trans u5,X4.u.none X4.B n5,⟨ys,g5,Paired.imp' (λ_ _ ⟨q,a,b',c⟩=>⟨q,a,X4.u.none X4.B b',c⟩) pr5,iU nx5⟩,⟨lF,λxs hx=>(wF xs hx).1⟩,by decide,by decide,λxs hx x hx'=>(A2 ⟨ar ((wF xs hx).2 x hx').1 (by decide),ar ((wF xs hx).2 x hx').2 (by decide)⟩ (EK _)).mono (by decide)⟩
   ·exists ⟨l,rows,3^T,rfl,X4.B,X4.u,nl,⟨vs,X4.g,X4.pr,X4.ni⟩,X4.w,tR (by decide),ar q17 (by decide),wg X4.f (ar q17 (by decide))⟩
  clear X4 q17 T17 nl;clear vs rows T l;rintro σ' H4 ⟨l,rows,Mr,rfl,B4,u4,nl,G4,hR,r0,r1,rr⟩;obtain ⟨M1,M2,V9,a1,a2,c9,z⟩:=KG (lk:=lk) RG F n8 r0 r1 rr;have lr:=hR.1;have lb:l≠b:=λz=>B2.at (by rw[<- z];exact nl)
  have LW:NZ rows mv.length (min rows.length mv.length*(66+4)+38):=Kx.lws ⟨Mr,2^66,r0,r1,by decide,av _,λxs hx x hx'=>Tp.of (rr xs hx x hx') (ar (eL _ r1) (by rw[<- bS];exact av _)),by lia,by lia⟩ hR.2;have P4:=(P1.same s2).upto u4 B2 B0.at;exists ⟨l,H2,rows,rfl,G4,by lia,λxs hx=>by rw[hR.2 xs hx];lia,λhd H5 nhd s5 Gh=>?_⟩;exists ⟨x,hd,H1,H4,mv,pt,lk,rows,M1,M2,V9,a1,a2,c9,Mr,rfl,(S2.upto u4 B2 B1.at).same s5,D,Gh,hR,z,λR ps t H6 RR ne s6 g6=>?_,λz9 t H6 inv R D9 RR ei I s6 g6 S6=>?_⟩
  ·exists ⟨_,_,AR,_,_,by decide,(Gh.same s6).kind,(G4.same (s5.trans s6)).kind,?_⟩;rw[decide_eq_true rfl];exists ⟨l,mv.length,_,H2,rows,rfl,G4.same (s5.trans s6),by lia,by lia,hR.2,LW,λr7 R0 ps0 H7 n7 s7 G7 RR0 _=>?_⟩;obtain ⟨vs7,g7,q7,_⟩:=G7;have l7:=q7.length;have e7:R0.length=ps0.length:=RR0.1;have ft:=zq hR (z.sw hR n8) RR RR0;exists ⟨_,_,rfl,.inl (bD.of g7),?_⟩;exists fq (λh0=>?_) (λh0=>absurd (ft.mpr λh=>h0 (decide_eq_true (by lia))) ne);exists bN λt2 H8 s8 g8=>?_
   exists bN λt3 H9 s9 g9=>?_
   exists ⟨_,_,MY NP kBl,(Str.ofString "no",true),(Str.ofString "no",true),by decide,⟨t2,_,_,rfl,kz.of (s9 _ _ g8),rfl,rfl⟩,⟨t3,_,_,rfl,kz.of g9,rfl,rfl⟩,?_⟩;rw[decide_eq_true rfl];exact k _
  obtain ⟨hi,o1,o2⟩:=AS (jC hR) RR;rw[<- ei] at hi o1 o2;have FT:=z.fit I hi hR n8;have D':=AU D hi hR;exists ⟨_,_,AR,_,_,by decide,(Gh.same s6).kind,(G4.same (s5.trans s6)).kind,?_⟩;rw[decide_eq_true rfl];exists ⟨l,mv.length,_,H2,rows,rfl,G4.same (s5.trans s6),by lia,by lia,hR.2,LW,λr7 R0 ps0 H7 n7 s7 G7 RR0 _=>?_⟩;obtain ⟨vs7,g7,q7,_⟩:=G7;have l7:=q7.length;have e7:R0.length=ps0.length:=RR0.1;have ft:=zq hR (z.sw hR n8) RR RR0;exists ⟨_,_,rfl,.inl (bD.of g7),?_⟩;exists fq (λh0=>absurd (of_decide_eq_true h0) (λh=>ft.mp rfl (by lia))) (λh0=>?_);have s47:=(s5.trans s6).trans s7;have s67:=s7;obtain ⟨m1,p1,l1,gr1,_,_,_,_,Gp1,Gl1⟩:=P4.same s47;obtain ⟨pv,gpv,qpv,_⟩:=id Gp1;obtain ⟨lv,glv,qlv,_⟩:=id Gl1;have lpv:=qpv.length;have llv:=qlv.length;walk_at "w";rw[decide_eq_true rfl];exists ⟨_,_,rfl,.inl (bD.of gpv),?_⟩;exists ⟨_,_,rfl,.inl (bD.of glv),?_⟩;exists ⟨z9,H5,ibM inv mv rows mv.length,ibP inv pt,ibL rows lk,by unfold ibP ibL;rw[nW hi,ag,ag,lpv,llv],S6.same s7,D',FT.g1,FT.g2,FT.g3,λH8 s8=>?_⟩;have s68:=s7.trans s8;have s58:=s6.trans s68;obtain ⟨zs,L0,lz⟩:=LL.of (B:=mv.length) (N:=λq=>H4 q=none/\H5 q≠none) Gh (λxs hx=>by rw[hR.2 xs hx];exact av _) (λq h h'=>⟨h,h'⟩);have Lg:=L0.same s58;exists ⟨⟨_,bD.of Lg.1⟩,?_⟩;refine jH (K:=K) (a:=hd) (xs:=zs) (λi2 σ' H'=>aE H4 H'/\iV (λq=>H5 q≠none) H8 H'/\LL (λq=>H4 q=none/\H5 q≠none) (mv.length+i2) H' hd zs/\∃y2,σ'=[some (.ref a0),some (.ref b),some (.ref r),some (.int w),some (.int mv.length),some (.ref x),some (.ref l),some (.int way),y,some (.ref hd),some (.str (Str.ofString "told")),some (.ref z9),y2,none]) ⟨s5.trans s58,iV.of (aE.refl _),Lg,_,rfl⟩ (λi σ' H' _ ⟨_,_,L,_⟩=>bD.of L.1) ?_ ?_
  ·rintro i2 v σ' Hi hv ⟨ei',ki,Li,y2,rfl⟩;have hi2:=(aF.mp hv).1;obtain ⟨q,ws,rfl,nq,qt,gq,lq⟩:=Li.2 v (ao hv);exists ⟨.inl ⟨rfl,_,bD.of gq⟩,?_⟩;exists bN λt2 Hj sj gj=>?_
   have gqj:=sj _ _ gq;exists lY gqj (bB (by lia)) ?_;exact ⟨(ei'.trans sj).after nq.1,(ki.trans (iV.of sj)).trans (iV.set gqj nq.2),(Li.same sj).upd qt (by lia) (by rw[az,cA];lia),_,rfl⟩
  rintro σ' Hm ⟨sm,km,_,y2,rfl⟩;clear Lg L0;have Tm:jW K H5 Hm Z.a_System z9 (ibM inv mv rows mv.length) (ibP inv pt) (ibL rows lk):=(S6.same s68).keepL km λq h z=>z h
  have Pm:=P4.same sm;have G4m:=G4.same sm;have Bm:=B4.same sm;have B5:=B4.same s5;exists ⟨z9,H5,_,_,_,rfl,Tm,λr2 Hn sn Pn=>?_⟩;exists ⟨r,r2,l,H0,H5,H2,mv,pt,lk,rows,inv,M1,M2,V9,a1,a2,c9,Mr,D9,rfl,Pm.same sn,Pn,G4m.same sn,D,hR,hi,o2,z,I,λHo so=>?_⟩;have smo:=sn.trans so;have Po:=Pm.same smo;have Go:=G4m.same smo;have To:=Tm.same smo;have Bo:=Bm.same smo;clear Pm G4m Tm Bm Pn;exists ⟨b,r,H0,mv,pt,lk,rfl,Bo,B0.at,Po,D,λxs hx=>?_,λT9 Hs stp Bs us=>?_⟩
  ·obtain ⟨M,W,M0,M4,W1,f1,f2,_⟩:=F;rcases ax.mp hx with hx | hx
   ·exact rQ f1 M0 M4 W1 (by decide) xs hx
   ·exact rQ f2 M0 M4 W1 (by decide) xs hx
  have Ps:=Po.upto us Bo B0.at;exists ⟨b,r,1+T9 % 4,w,H0,mv,pt,lk,by simp,by lia,w1,w2,Bs,B0.at,Ps,D,λp pus Hp np GP lp wp Bp up=>?_⟩;have uop:=us.trans up;exists ⟨b,mv.length,4,rfl,Bp,by lia,by decide,by decide,λsr start Hr nsr Rs ls ds Br ur=>?_⟩;have uor:=uop.trans ur;have pb:p≠b:=λz=>Bs.at (by rw[<- z];exact np)
  exists ⟨r,z9,l,sr,p,H0,H5,H2,Hs,mv,pt,lk,rows,inv,pus,start,rfl,Po.upto uor Bo B0.at,To.upto uor Bo B5.at,Go.upto uor Bo lb B2.at,Rs,GP.upto ur Bp pb Bs.at,D,hR,hi,o2,ls,λxs hx=>(wp xs hx).1,by lia,vZ (a:=12) (p:=4) n8 (by decide) (by decide) (λx hx=>(A2 ⟨ar (ds x hx).1 (by decide),ar (ds x hx).2 (by decide)⟩ (EK _)).mono (by decide)) r0 r1 rr (by decide),JR z I hi hR o1 D ls ds w2 wp (by lia),λH' s'=>k _⟩
end
theorem ln1 {P:List Value->Prop} (h:∀x0,P [x0]):∀us:List Value,us.length=1->P us
 | [x0],_=>h x0
theorem ln2 {P:List Value->Prop} (h:∀x0 x1,P [x0,x1]):∀us:List Value,us.length=2->P us
 | [x0,x1],_=>h x0 x1
theorem ln3 {P:List Value->Prop} (h:∀x0 x1 x2,P [x0,x1,x2]):∀us:List Value,us.length=3->P us
 | [x0,x1,x2],_=>h x0 x1 x2
theorem ln4 {P:List Value->Prop} (h:∀x0 x1 x2 x3,P [x0,x1,x2,x3]):∀us:List Value,us.length=4->P us
 | [x0,x1,x2,x3],_=>h x0 x1 x2 x3
theorem ln5 {P:List Value->Prop} (h:∀x0 x1 x2 x3 x4,P [x0,x1,x2,x3,x4]):∀us:List Value,us.length=5->P us
 | [x0,x1,x2,x3,x4],_=>h x0 x1 x2 x3 x4
local macro_rules | `(tactic| walk_at "b") => `(tactic| (intro _ _ _ _ _ _; first | (refine ln1 ?_; intros; rfl) | (refine ln2 ?_; intros; rfl) | (refine ln3 ?_; intros; rfl) | (refine ln4 ?_; intros; rfl) | (refine ln5 ?_; intros; rfl)))
theorem all_mk {l:W.OpenLaw} {K:W.Frag} 
 
  (X:K.In h) (G:h.Ns mainGlobals mg) (hfa:mg "law"=some (.ref fa))
 (aC:W.nsIn K mainGlobals "System"=some (some (.ref C)))
  (h0:Dh K "_law_bag" rF f0 e0)
  (h1:Dh K "_law_take" oU f1 e1)
  (h2:Dh K "_law_sizes" jS f2 e2)
  (h3:Dh K "_law_line" o6 f3 e3)
  (h4:Dh K "_law_low" rD f4 e4)
  (h5:Dh K "_law_sum" rB f5 e5)
  (h6:Dh K "_law_plus" oY f6 e6)
  (h7:Dh K "_law_prod" oX f7 e7)
  (h8:Dh K "_law_by" uj f8 e8)
  (h9:Dh K "_law_mixed" mX f9 e9)
  (h10:Dh K "_law_two_lines" iZ f10 e10)
  (h11:Dh K "_law_number" lh f11 e11)
  (h12:Dh K "_law_row" rC f12 e12)
  (h13:Dh K "_law_move" o3 f13 e13)
  (h14:Dh K "_law_parts" mV f14 e14)
  (h15:Dh K "_law_system" k6 f15 e15)
  (h16:Dh K "want_list" oO f16 e16)
  (h17:Dh K "is_whole" rn f17 e17)
  (h18:Dh K "common_divisor" iY f18 e18)
  (h19:Dh K "is_number" oR f19 e19)
  (h20:Dh K "is_row" xp f20 e20)
  (h21:Dh K "copied_rows" kZ f21 e21)
  (a22:W.findIn K (.ref C) "__init__"=some (some (.ref f22))) (i22:W.isFn K (.ref f22)=true) (l22:K.lookup f22=some ⟨oc22,od22,.func (W.fnOf "__init__" "System.__init__" (jx dm) (fZ dm) (aH dm) .none kV22 dc22 pm22 an22 cd22 ct22),sl22⟩) (c22:W.codeIn K cd22 "System.__init__"=true) (k22:W.keepIn K (.ref f22)=true)
  (h23:Dh K "_law_copied" lD f23 e23)
  (h24:Dh K "_law_made" o5 f24 e24)
  (h25:Dh K "_law_basis" mZ f25 e25)
  (h26:Dh K "grid_turned" kY f26 e26)
  (h27:Dh K "tops_over" oQ f27 e27)
  (h28:Dh K "common_multiple" iq f28 e28)
  (h29:Dh K "common_bottom" jN f29 e29)
  (h30:Dh K "first_with" mS f30 e30)
  (h31:Dh K "cleared" uh f31 e31)
  (h32:Dh K "brought_up" mT f32 e32)
  (h33:Dh K "swept" As f33 e33)
  (h34:Dh K "lowest" xo f34 e34)
  (h35:Dh K "reduced" uc f35 e35)
  (h36:Dh K "unit_row" rk f36 e36)
  (h37:Dh K "unit_grid" oP f37 e37)
  (h38:Dh K "leading_place" jM f38 e38)
  (h39:Dh K "leading" ue f39 e39)
  (h40:Dh K "inverse" uf f40 e40)
  (h41:Dh K "row_dot" t9 f41 e41)
  (h42:Dh K "grid_on" ug f42 e42)
  (h43:Dh K "grid_times" mR f43 e43)
  (h44:Dh K "in_basis" rz f44 e44)
  (h45:Dh K "_law_told" oS f45 e45)
  (h46:Dh K "_law_quot" oV f46 e46)
  (h47:Dh K "_law_less" o7 f47 e47)
  (h48:Dh K "_law_minus" mY f48 e48)
  (h49:Dh K "_law_lean" o8 f49 e49)
  (h50:Dh K "_law_is_number" i8 f50 e50)
  (h51:Dh K "_law_is_row" lC f51 e51)
  (h52:Dh K "_law_is_grid" j7 f52 e52)
  (h53:Dh K "_law_is_system" i5 f53 e53)
  (h54:Dh K "_law_summed" k9 f54 e54)
  (h55:Dh K "_law_dot" rE f55 e55)
  (h56:Dh K "_law_on" ui f56 e56)
  (h57:Dh K "_law_other" mW f57 e57)
  (h58:Dh K "_law_parts_of" jO f58 e58)
  (h59:Dh K "_law_puts" oW f59 e59)
  (h60:Dh K "_law_steps" mU f60 e60)
  (a61:W.findIn K (.ref C) "seen"=some (some (.ref f61))) (i61:W.isFn K (.ref f61)=true) (l61:K.lookup f61=some ⟨oc61,od61,.func (W.fnOf "seen" "System.seen" (jx fA) (fZ fA) (aH fA) .none kV61 dc61 pm61 an61 cd61 ct61),sl61⟩) (c61:W.codeIn K cd61 "System.seen"=true) (k61:W.keepIn K (.ref f61)=true)
  (h62:Dh K "_law_next" oZ f62 e62)
  (a63:W.findIn K (.ref C) "moved"=some (some (.ref f63))) (i63:W.isFn K (.ref f63)=true) (l63:K.lookup f63=some ⟨oc63,od63,.func (W.fnOf "moved" "System.moved" (jx eQ) (fZ eQ) (aH eQ) .none kV63 dc63 pm63 an63 cd63 ct63),sl63⟩) (c63:W.codeIn K cd63 "System.moved"=true) (k63:W.keepIn K (.ref f63)=true)
  (h64:Dh K "_law_along" m4 f64 e64)
  (h65:Dh K "law" Ge f65 e65)
 (ca0:W.nsIn K mainGlobals "NOUGHT"=some (some (.ref m0))) (cl0:K.lookup m0=some ⟨.type "tuple",mo0,.seq #[.int 0 mt0_0,.int 1 mt0_1] mn0,ms0⟩)
 (ca1:W.nsIn K mainGlobals "ONE"=some (some (.ref m1))) (cl1:K.lookup m1=some ⟨.type "tuple",mo1,.seq #[.int 1 mt1_0,.int 1 mt1_1] mn1,ms1⟩)
 (ci0:W.nsIn K mainGlobals "MOST_STATES"=some (some (.int 8 it0)))
 (ci1:W.nsIn K mainGlobals "MOST_PUTS"=some (some (.int 4 it1)))
 (ci2:W.nsIn K mainGlobals "MOST_LOOKS"=some (some (.int 4 it2)))
  (pg:W.plainGet K C Str.empty=true) (hd:W.hasDictIn K C=true) (po:W.plainOver K C=true) (sa:W.findIn K (.ref C) "__setattr__"=some (some (.builtin "object.__setattr__"))) (mk:W.makesIn K C=true) (kc:W.keepIn K (.ref C)=true)
  (n_move:W.findIn K (.ref C) "move"=some none)
  (n_states:W.findIn K (.ref C) "states"=some none)
  (n_put:W.findIn K (.ref C) "put"=some none)
  (n_ins:W.findIn K (.ref C) "ins"=some none)
  (n_look:W.findIn K (.ref C) "look"=some none)
  (n_outs:W.findIn K (.ref C) "outs"=some none)
  (ia:W.findIn K (.ref C) "__class__"=some (some (.builtin "object.__class__"))) (ib:W.specialIn K (.builtin "object.__class__") "__get__"=some (some (.builtin "getset_descriptor.__get__"))) (ic:W.takesIn K (.builtin "object.__class__")=some true) (id:W.mroIn K C (.type "object")=some true)
 (xa_SumError:W.nsIn K mainGlobals "SumError"=some (some (.ref x_SumError)))
 (xa_NoFit:W.nsIn K mainGlobals "NoFit"=some (some (.ref x_NoFit)))
  (xe_NoFit:W.excIn K x_NoFit FR "ValueError.__new__"=true)
  (xm_NoFit_NoFit:W.exmOne K (.ref x_NoFit) (.ref x_NoFit)=some true)
  (ki_NoFit_SumError:W.kitOne K (.ref x_NoFit) (.ref x_SumError)=some true)
  (z_abs:W.nsIn K mainGlobals "abs"=some none)
  (z_len:W.nsIn K mainGlobals "len"=some none)
  (z_min:W.nsIn K mainGlobals "min"=some none)
  (z_int:W.nsIn K mainGlobals "int"=some none)
  (z_range:W.nsIn K mainGlobals "range"=some none)
  (z_isinstance:W.nsIn K mainGlobals "isinstance"=some none)
  (z_list:W.nsIn K mainGlobals "list"=some none)
  (z_bool:W.nsIn K mainGlobals "bool"=some none)
  (z_tuple:W.nsIn K mainGlobals "tuple"=some none)
  (z_all:W.nsIn K mainGlobals "all"=some none)
  (z_enumerate:W.nsIn K mainGlobals "enumerate"=some none)
  (z_zip:W.nsIn K mainGlobals "zip"=some none)
  (z_sum:W.nsIn K mainGlobals "sum"=some none)
  (z_max:W.nsIn K mainGlobals "max"=some none)
  : ∃fd:FuncData,(∀(s:Shared) (v:Value),BindsTo s fd ⟨[v],[]⟩ [("_law_script",v)])/\∀base:Heap,K.In base->base.Ns mainGlobals mg->cw l.prog w K mg base fJ 9 fa fd ["_law_script"] (wZ K):=by
 have e:=hfa.symm.trans (W.mg_of X G h65.a);cases e;obtain ⟨_,_,_,_,_,_,_,_,_,rfl,_,_⟩:=h65.F.ex;have F22:=AX (st:=dm) l22 c22 k22;have F61:=AX (st:=fA) l61 c61 k61;have F63:=AX (st:=eQ) l63 c63 k63
 have T:Txt K mg ⟨f0,_,f1,_,f2,_,f3,_,f4,_,f5,_,f6,_,f7,_,f8,_,f9,_,f10,_,f11,_,f12,_,f13,_,f14,_,f15,_,f16,_,f17,_,f18,_,f19,_,f20,_,f21,_,f22,_,f23,_,f24,_,f25,_,f26,_,f27,_,f28,_,f29,_,f30,_,f31,_,f32,_,f33,_,f34,_,f35,_,f36,_,f37,_,f38,_,f39,_,f40,_,f41,_,f42,_,f43,_,f44,_,f45,_,f46,_,f47,_,f48,_,f49,_,f50,_,f51,_,f52,_,f53,_,f54,_,f55,_,f56,_,f57,_,f58,_,f59,_,f60,_,f61,_,f62,_,f63,_,f64,_,fa,_,m0,m1,it0,it1,it2,C,x_SumError,x_NoFit⟩:={
  pz:=h0.D X G
  aK:=h1.D X G
  lN:=h2.D X G
  iH:=h3.D X G
  dJ:=h4.D X G
  gZ:=h5.D X G
  fX:=h6.D X G
  fW:=h7.D X G
  dX:=h8.D X G
  jv:=h9.D X G
  iG:=h10.D X G
  kh:=h11.D X G
  fe:=h12.D X G
  nN:=h13.D X G
  lO:=h14.D X G
  kf:=h15.D X G
  iE:=h16.D X G
  kJ:=h17.D X G
  eC:=h18.D X G
  nH:=h19.D X G
  uA:=h20.D X G
  fQ:=h21.D X G
  iL:=F22.binds (ps:=["self","move","put","look"]) λ_ _ _ _ _ _=>by refine ln4 ?_;intros;rfl
  kS:=F22
  eV:=h23.D X G
  nO:=h24.D X G
  lQ:=h25.D X G
  fP:=h26.D X G
  iF:=h27.D X G
  gU:=h28.D X G
  eT:=h29.D X G
  lG:=h30.D X G
  rO:=h31.D X G
  lH:=h32.D X G
  xJ:=h33.D X G
  pZ:=h34.D X G
  rL:=h35.D X G
  pk:=h36.D X G
  nF:=h37.D X G
  jg:=h38.D X G
  rM:=h39.D X G
  rN:=h40.D X G
  nG:=h41.D X G
  jh:=h42.D X G
  ju:=h43.D X G
  jG:=h44.D X G
  nI:=h45.D X G
  nJ:=h46.D X G
  nQ:=h47.D X G
  jw:=h48.D X G
  nR:=h49.D X G
  iJ:=h50.D X G
  kj:=h51.D X G
  fu:=h52.D X G
  iI:=h53.D X G
  eU:=h54.D X G
  kK:=h55.D X G
  kg:=h56.D X G
  lP:=h57.D X G
  ji:=h58.D X G
  nK:=h59.D X G
  lI:=h60.D X G
  pA:=⟨a61,i61,k61⟩
  qM:=F61.binds (ps:=["self","state"]) λ_ _ _ _ _ _=>by refine ln2 ?_;intros;rfl
  qV:=F61
  nM:=h62.D X G
  oq:=⟨a63,i63,k63⟩
  pN:=F63.binds (ps:=["self","state","puts"]) λ_ _ _ _ _ _=>by refine ln3 ?_;intros;rfl
  pQ:=F63
  lS:=h64.D X G
  Kz:=h65.F
  abs:=W.mg_none_of X G z_abs
  len:=W.mg_none_of X G z_len
  min:=W.mg_none_of X G z_min
  int:=W.mg_none_of X G z_int
  range:=W.mg_none_of X G z_range
  isinstance:=W.mg_none_of X G z_isinstance
  list:=W.mg_none_of X G z_list
  bool:=W.mg_none_of X G z_bool
  tuple:=W.mg_none_of X G z_tuple
  all:=W.mg_none_of X G z_all
  enumerate:=W.mg_none_of X G z_enumerate
  zip:=W.mg_none_of X G z_zip
  sum:=W.mg_none_of X G z_sum
  max:=W.mg_none_of X G z_max
  mg_NOUGHT:=W.mg_of X G ca0
  sq_NOUGHT:=λH=>.inr ⟨_,_,_,cl0,rfl,rfl,ig rfl,.cons ⟨_,rfl⟩ (.cons ⟨_,rfl⟩ (.nil))⟩
  mg_ONE:=W.mg_of X G ca1
  sq_ONE:=λH=>.inr ⟨_,_,_,cl1,rfl,rfl,ig rfl,.cons ⟨_,rfl⟩ (.cons ⟨_,rfl⟩ (.nil))⟩
  mg_MOST_STATES:=W.mg_of X G ci0
  mg_MOST_PUTS:=W.mg_of X G ci1
  mg_MOST_LOOKS:=W.mg_of X G ci2
  mg_System:=W.mg_of X G aC
  cl_System:=⟨pg,hd,po,sa⟩
  na_move:=n_move
  na_states:=n_states
  na_put:=n_put
  na_ins:=n_ins
  na_look:=n_look
  na_outs:=n_outs
  mk_System:=⟨mk,a22,i22,kc⟩
  mg_SumError:=W.mg_of X G xa_SumError
  mg_NoFit:=W.mg_of X G xa_NoFit
  ex_NoFit:=xe_NoFit
  xm_NoFit_NoFit:=xm_NoFit_NoFit
  ki_NoFit_SumError:=ki_NoFit_SumError
  ty_System:=⟨λe=>.ins e ⟨pg,hd,po,sa⟩ ia ib ic id,Hq⟩ }
 exact ⟨_,λs v=>.of_eq rfl,λbase _ _=>Ls T⟩
theorem walk {l:W.OpenLaw} {K:Params->W.Frag} (hn:l.most=some 63) (hdf:d.params.defaults=[])
  (hY:∀(w:World) (h:Heap),YP w h->(K w.params).In h)
  (F:∀(w:World) (mg:Str->Option Value) (fa:Addr) (h:Heap),(K w.params).In h->h.Ns mainGlobals mg->mg d.name=some (.ref fa) →
   ∃fd:FuncData,(∀(s:Shared) (u:Value),BindsTo s fd ⟨[u],[]⟩ [("_law_script",u)])/\∀base:Heap,(K w.params).In base->base.Ns mainGlobals mg->cw l.prog w (K w.params) mg base fJ 9 fa fd ["_law_script"] (wZ (K w.params))) :
  W.WalkO q loose XP YP l.row.toRowW d [] (λf vs=>PySem.call f vs) :=
 L2.IG (n:=63) (k:=9) (x:="_law_script") (CX:=λ_=>fJ) (sp:=λw=>wZ (K w.params)) hn (by decide) hdf ⟨rfl,by decide,by decide⟩ hY F (λ_ _ a ns hl _ hS=>⟨a,ns,rfl,hS,hl,λ_=>rfl⟩) λ_ _ _ _ _ z=>z
end Lw
namespace PySem.W.Fast
def tw119248561374111022:=()
def tw1739506685696933549:=()
def tw2558315241453170072:=()
def tw16154987790261040595:=()
def tw104602098368175614:=()
def tw8096279130196392080:=()
def tw13400151737136777410:=()
def tw11637186336261373508:=()
def tw16545432033001815356:=()
def tw9255752393668766045:=()
def tw17910427225590387341:=()
def tw13132805517648081060:=()
def tw10836387785824104027:=()
def tw8401706122477352322:=()
def tw1502923620922644115:=()
def tw16998115120557468084:=()
def tw10282118570435814950:=()
def tw2017486674327387191:=()
def tw4821472427458186453:=()
def tw13437522333719504559:=()
def tw15183218378638265804:=()
def tw14798556554752674504:=()
def tw12752605076977073350:=()
def tw9988870633402016239:=()
def tw3433915825308309480:=()
def tw2756325089276566602:=()
def tw16513087083344452835:=()
def tw6901171980644843632:=()
def tw3892853854431189736:=()
def tw16579009838767535566:=()
def tw11776475681876098115:=()
def tw4063770878618992415:=()
def tw5487290715531347316:=()
def tw11154242127017781678:=()
def tw10829894776067689533:=()
def tw17467457274913910968:=()
def tw15497895649843340325:=()
def tw2929987870578888630:=()
def tw8918067921372128592:=()
def tw2744297346272476305:=()
def tw16018495933475793854:=()
def tw854520535812069143:=()
def tw607693430827663242:=()
def tw12101375376261132302:=()
def tw5956575360214173278:=()
def tw2943656615214764988:=()
def tw14998935448624699250:=()
def tw15805264052339615169:=()
def tw8163615753828284737:=()
def tw4688628095458113651:=()
def tw17386855090353663111:=()
def tw18083470952244543602:=()
def tw6370209069253650158:=()
def tw8947277662514031416:=()
def tw10895941168193967097:=()
def tw3191904188575867331:=()
def tw6924490246614492302:=()
def tw18082812657051440914:=()
def tw11548517370649153867:=()
def tw7405969647151079307:=()
def tw2559084438355631440:=()
def tw12680509632791180450:=()
def tw697266590786205952:=()
def tw12591318691633624414:=()
def tw16060750740349931544:=()
def tw3782319085901008025:=()
def tw12131106085850485360:=()
def tw10597647157873671821:=()
def tw6585436626272788245:=()
def tw128074420627026292:=()
def tw4703970835715648779:=()
def tw2812976469550077579:=()
def tw1641595835806075107:=()
def tw4015515653044492475:=()
def tw9179972077985805261:=()
def tw6990841000616017245:=()
def tw5785911859143115808:=()
def tw8189877607186300026:=()
def tw953625823406229222:=()
def tw14629419734875954298:=()
def tw2791269221000939580:=()
def tw3612901266837772641:=()
def tw13808906878871754181:=()
def tw3723307231080350518:=()
def tw7037431157831094658:=()
def tw15054506844409948475:=()
def tw6931033215777621915:=()
def tw14760055282726666264:=()
def tw11910418150552338139:=()
def tw7777407184824519217:=()
def tw13579611169398065998:=()
def tw4173829307755393031:=()
def tw7798047605073025577:=()
def tw5979274068716258938:=()
def tw15915952327886415752:=()
def tw9780295155816044239:=()
def tw7658579913016980814:=()
def tw2809655938719912496:=()
def tw8575719379193779404:=()
def tw7539625429532587151:=()
def tw16632377833311623853:=()
def tw18050184561992010396:=()
def tw9604082270311973566:=()
def tw15513896325694279839:=()
def tw12793736603272545982:=()
def tw3291149937566237402:=()
def tw16921605012444543226:=()
def tw11223097554571935676:=()
def tw11061245880769544881:=()
def tw16803411398611084291:=()
def tw2236199240409135043:=()
def tw12550369908428619056:=()
def tw9830227180037172647:=()
def tw12124041608271229962:=()
def tw5655359219005117738:=()
def tw3342785837050112321:=()
def tw18023021672146592220:=()
def tw340036464444741384:=()
def tw11891764971551674596:=()
def tw13020281459460581576:=()
def tw14483990270342714571:=()
def tw4671029666391254196:=()
def tw2510846684039327709:=()
def tw17332011957002954320:=()
def tw13651754659347845187:=()
def tw14519880163274741:=()
def tw2529238005634981602:=()
def tw2457446103784699212:=()
def tw11508198507337309086:=()
def tw18307740246148459138:=()
def tw7133313681702880137:=()
def tw15645473030609068740:=()
def tw11027451141391892641:=()
def tw17638630682927138484:=()
def tw15761362659989383971:=()
def tw419185386826025320:=()
def tw16478848444397926237:=()
def tw13654026104247253933:=()
def tw15564189116946456297:=()
def tw5346664011042642821:=()
def tw979324781774762673:=()
def tw13359233114817345232:=()
def tw9081301930590914115:=()
def tw16396886350088902468:=()
def tw18398983937342329615:=()
def tw12381420447461442767:=()
def tw3950751525483312098:=()
def tw16081354838322730123:=()
def tw14041351641136666949:=()
def tw13018373717981800792:=()
def tw633733507921972904:=()
def tw13976722424436960879:=()
def tw16276226271766680608:=()
def tw2720611563137885458:=()
def tw6312012476140413622:=()
def tw4410358399773746162:=()
def tw5796666441151047868:=()
def tw10385988704670970761:=()
def tw17196154217654197268:=()
def tw3557172360086022650:=()
def tw66374221774922937:=()
def tw10388130421669999635:=()
def tw18277852986519014490:=()
def tw12333427555789271975:=()
def tw15353072703966663837:=()
def tw14342821571435158334:=()
def tw16852890735700981642:=()
def tw1557614860780348787:=()
def tw10056903118715925877:=()
def tw15240737629576897368:=()
def tw245487856900952002:=()
def tw7157808719154868767:=()
def tw6685689715291205846:=()
def tw12373683802774219018:=()
def tw486591721833673409:=()
def tw3727646599158089440:=()
def tw673985276019500897:=()
def tw14472612927716163730:=()
def tw12582511721843721925:=()
def tw4147553423727315963:=()
def tw16352503186723475600:=()
def tw1764594346022650629:=()
def tw1995270770531869169:=()
def tw5532901618187894139:=()
def tw13532756718979710002:=()
def tw10531107834049172464:=()
def tw14078331670217772818:=()
def tw14529586861930965203:=()
def tw10917183144769612544:=()
def tw1924612301468923167:=()
def tw6100214758251231402:=()
def tw7560797422619646883:=()
def tw12597415429013318955:=()
def tw10227226122248554306:=()
def tw9993662747080460187:=()
def tw6062074904362960995:=()
def tw17915020940642989338:=()
def tw11628942407964078856:=()
def tw12193253965238317448:=()
def tw18289993256383968442:=()
def tw48185021140609468:=()
def tw4828978804120305873:=()
def tw2393850533072662557:=()
def tw9778413839376008349:=()
def tw12062161047018798923:=()
def tw6282208086159525290:=()
def tw3267920379671071507:=()
def tw17444317487641203166:=()
def tw13075548487641495673:=()
def tw7410406030425517795:=()
def tw5630399546227111158:=()
def tw10349982767600880811:=()
def tw15082928634549635907:=()
def tw9247450854209533871:=()
def tw9541407075586541039:=()
def tw7239358725440816813:=()
def tw10867609217538780108:=()
def tw4530066876343815709:=()
def tw3570248414139932282:=()
def tw1107056021771775387:=()
def tw17503669602255538223:=()
def tw3970812611940355799:=()
def tw9943973629259489475:=()
def tw14689192325904163090:=()
def tw8415043753905227468:=()
def tw7007184570988401400:=()
def tw11516187155188773684:=()
def tw4974070744411032517:=()
def tw5565494619518273771:=()
def tw12820143447252447848:=()
def tw11716322882385809051:=()
def tw1942641602643094686:=()
def tw5006830301603460324:=()
def tw13486746189088471886:=()
def tw4157719583152846804:=()
def tw15241422822329013505:=()
def tw10334487571149554245:=()
def tw13438453109753090649:=()
def tw10116352008422742106:=()
def tw13688434322199014697:=()
def tw11910058906017296751:=()
def tw12615573120774781180:=()
def tw11248701798906424309:=()
def tw9055678408382556763:=()
def tw13626119792445134444:=()
def tw15127843178029274570:=()
def tw6272531556077189726:=()
def tw15559014577364593381:=()
def tw11927051541298303401:=()
def tw9478098899345522167:=()
def tw142131480515236728:=()
def tw6652824731884519489:=()
def tw439407924835864910:=()
def tw17386612479028436915:=()
def tw12780321876456794250:=()
def tw4461350366120067259:=()
def tw10890527408439984506:=()
def tw8218214111164437995:=()
def tw15021908944350738733:=()
def tw1910089255823612398:=()
def tw15626787766253418741:=()
def tw16825054244768509614:=()
def tw13145224985354873701:=()
def tw10853978969623361268:=()
def tw18405275499659651063:=()
def tw10055215790011135003:=()
def tw6641469288166757378:=()
def tw11956115248332953442:=()
def tw10487884206201224259:=()
def tw13316845283890858426:=()
def tw13737631984545190341:=()
def tw11151047454432818442:=()
def tw1217627890135640623:=()
def tw9345519371307280485:=()
def tw15616375351079578904:=()
def tw2203403592442765058:=()
def tw8776317116534107590:=()
def tw16911171221889669518:=()
def tw17147750299864838609:=()
def tw11097856060145673833:=()
def tw9991763482281358266:=()
def tw17030427847097886901:=()
def tw8790280470754243262:=()
def tw8648020262344385516:=()
def tw3027440139831652291:=()
def tw6772968584124589603:=()
def tw3407925297067404753:=()
def tw15625364288898031520:=()
def tw4977327237461366972:=()
def tw10173388322056894675:=()
def tw15312398367272083092:=()
def tw3068331295924881106:=()
def tw12895203191587310710:=()
def tw521472497096613871:=()
def tw2211817250900742611:=()
def tw10406517875369093526:=()
def tw8156391248503818656:=()
def tw6644092726412789295:=()
def tw9894124924222669130:=()
def tw8065811554047132286:=()
def tw4253053175733713205:=()
def tw8522860701127187138:=()
def tw4995317878207060790:=()
def tw696114259950644507:=()
def tw7533729839004880482:=()
def tw4359143208439192805:=()
def tw15257905813965965773:=()
def tw16745967544915526977:=()
def tw15864369952979973486:=()
def tw665328975052085035:=()
def tw16235234884404600576:=()
def tw17683423759678364120:=()
def tw3972461944505380730:=()
def tw13620719838428650613:=()
def tw6524735716041173806:=()
def tw4711580242179711166:=()
def tw3833073963774596987:=()
def tw5157967298256862069:=()
def tw4192131980847719134:=()
def tw13681757581541824643:=()
def tw10366374900592062450:=()
def tw9962661505049870170:=()
def tw14688085281727796955:=()
def tw9993797163136987061:=()
def tw1242623051378345643:=()
def tw17957558117569172732:=()
def tw10430278302553777481:=()
def tw10596479408854079947:=()
def tw5148914279917103184:=()
def tw8076371573883739314:=()
def tw16504555675095525423:=()
def tw11297774647101133267:=()
def tw4468595037271461347:=()
def tw7353115529565128938:=()
def tw15547320219804537774:=()
def tw11267838112517478059:=()
def tw3614078441518758854:=()
def tw10107343561057430978:=()
def tw12304819282672022216:=()
def tw18003405271005249456:=()
def tw17753361383015711971:=()
def tw6019846812366863934:=()
def tw5279717229427401946:=()
def tw9170648971553146519:=()
def tw4039313852379973435:=()
def tw11397967212507417355:=()
def tw15010128081397472150:=()
def tw12996195955153817854:=()
def tw704966836852236054:=()
def tw13249181494123804039:=()
def tw12987103734068316672:=()
def tw15613778687601743879:=()
def tw17906408804608233070:=()
def tw8604844489353549420:=()
def tw10635145327476146679:=()
def tw2073040503651631597:=()
def tw12565567810807803058:=()
def tw16752881755606811950:=()
def tw16378354040283512250:=()
def tw541121193526217503:=()
def tw16457100696667292360:=()
def tw12182290585797925644:=()
def tw639123952431554357:=()
def tw13032466482393974065:=()
def tw2211312708603052949:=()
def tw15757314014849823719:=()
def tw15021404034032254692:=()
def tw1323933947551985295:=()
def tw7617374629389282631:=()
def tw3463660854647986486:=()
def tw12622823223955134254:=()
def tw12577950919312110521:=()
def tw11893069640051779742:=()
def tw17203688268697310824:=()
def tw12031846751914052558:=()
def tw17344152056305626509:=()
def tw5287783885029970612:=()
def tw2516268704792530496:=()
def tw4135496032124246674:=()
def tw70132550333496006:=()
def tw6860569881008166605:=()
def tw2959035524981791750:=()
def tw15391876646172308300:=()
def tw8401280597383970196:=()
def tw4835318101705319603:=()
def tw272611834833229084:=()
def tw13281437442954248247:=()
def tw141049753745738947:=()
def tw1659250989343085164:=()
def tw7090826127243324157:=()
def tw3753985273294849027:=()
def tw15708432216172046771:=()
def tw11360673579224819042:=()
def tw17150437029073544475:=()
def tw8627167773192460291:=()
def tw6059720578810548485:=()
def tw10393363262322913164:=()
def tw5800580479827733749:=()
def tw17905655472675581524:=()
def tw2655940454763774005:=()
def tw18173316261535592639:=()
def tw1663669026826373910:=()
def tw4070315672075806130:=()
def tw8209643699010248911:=()
def tw338515659720482834:=()
def tw4725125251750152891:=()
def tw7869141904827125672:=()
def tw5999023393540692829:=()
def tw8037895880357832611:=()
def tw10215456793659881579:=()
def tw9540197136764824117:=()
def tw6624638649090407345:=()
def tw9484690924253926034:=()
def tw5803526350582745057:=()
def tw9880945332034394489:=()
def tw3816283158329948341:=()
def tw13356508854790047760:=()
def tw960906278492682183:=()
def tw8799147392354391235:=()
def tw710503005088931334:=()
def tw14841209151355052847:=()
def tw2655122523261481578:=()
def tw5584195879951810685:=()
def tw6762379787546980046:=()
def tw5581085295627386389:=()
def tw12597598167121867695:=()
def tw5052624544847741731:=()
def tw6077005564113205700:=()
def tw13437481228510656273:=()
def tw15186978420852126248:=()
def tw10218924560788078485:=()
def tw271806313873590768:=()
def tw13662191823457404500:=()
def tw14703209727183170082:=()
def tw14596935616486292754:=()
def tw10103147284439834032:=()
def tw3228600536610769104:=()
def tw18444528272502300207:=()
def tw2316968810799222420:=()
def tw5650301030354257988:=()
def tw4220530067325302414:=()
def tw12135553705329179544:=()
def tw12413748241378438683:=()
def tw16123329047360919717:=()
def tw2386299663048648560:=()
def tw3640589195087016338:=()
def tw3236792329268846108:=()
def tw16535253685118177661:=()
def tw12012113184147972245:=()
def tw7373925801060566725:=()
def tw8749269987012732871:=()
def tw7351073391549680471:=()
def tw13138162370414103746:=()
def tw4280631260979913239:=()
def tw6514976077884595308:=()
def tw13884427177029653862:=()
def tw3523077704561182697:=()
def tw10076445734328504268:=()
def tw11623487300178866278:=()
def tw443155301667718691:=()
theorem te119248561374111022:True:=trivial
end PySem.W.Fast
open PySem PySem.W PyProof.Rows
set_option maxRecDepth 100000 in
set_option maxHeartbeats 0 in
theorem PySem.Challenge.cw_helmsum_k71_in_basis_holds : PySem.Challenge.rw_helmsum_k71_in_basis.Holds := by
 w_on;o_law;k_head;(case hw=>w_witness2)
 k_fill
 refine Lw.walk (l:=PySem.Challenge.rw_helmsum_k71_in_basis) rfl rfl (λw h Y=>PySem.W.kIn_of Y) ?F
 case F =>
  intro w mg fa h KX G hmg;refine' Lw.all_mk KX G hmg ?aC ?_ ?_ ?_ ?_ ?_ ?_ ?_ ?_ ?_ ?_ ?_ ?_ ?_ ?_ ?_ ?_ ?_ ?_ ?_ ?_ ?_ ?_ ?a22 ?i22 ?l22 ?c22 ?k22 ?_ ?_ ?_ ?_ ?_ ?_ ?_ ?_ ?_ ?_ ?_ ?_ ?_ ?_ ?_ ?_ ?_ ?_ ?_ ?_ ?_ ?_ ?_ ?_ ?_ ?_ ?_ ?_ ?_ ?_ ?_ ?_ ?_ ?_ ?_ ?_ ?_ ?_ ?a61 ?i61 ?l61 ?c61 ?k61 ?_ ?a63 ?i63 ?l63 ?c63 ?k63 ?_ ?_ ?ca0 ?cl0 ?ca1 ?cl1 ?ci0 ?ci1 ?ci2 ?pg ?hd ?po ?sa ?mk ?kc ?n_move ?n_states ?n_put ?n_ins ?n_look ?n_outs ?ia ?ib ?ic ?id ?xa_SumError ?xa_NoFit ?xe_NoFit ?xm_NoFit_NoFit ?ki_NoFit_SumError ?z_abs ?z_len ?z_min ?z_int ?z_range ?z_isinstance ?z_list ?z_bool ?z_tuple ?z_all ?z_enumerate ?z_zip ?z_sum ?z_max
  all_goals try refine' Nh ?_ ?_ ?_ ?_
  all_goals try k_is
  (case xe_NoFit=>k_exc)
  (case xm_NoFit_NoFit=>kts_exm)
  (case ki_NoFit_SumError=>kit_is)
