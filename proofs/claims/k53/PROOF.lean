import PyProof.Rows.All
import Wide.All
import OpenK.AllK
import Wide.FinOn
import Lean
import PyProof.EqAt
import PyProof.EqKinds
import PyProof.TupleCall
import PyProof.NeKinds
import PySem.Challenge.RW_helmsum_k53_starts
set_option Elab.async false
set_option linter.all false
set_option maxRecDepth 100000
abbrev ND9:=@List.Nodup PySem.Str
abbrev aa:=@List.getD_eq_getElem?_getD
abbrev ag:=@List.getElem?_eq_getElem
abbrev ah:=@List.length_map
abbrev ai:=@Nat.le_trans
abbrev ao:=@List.length_append
abbrev au:=@List.mem_of_getElem?
abbrev av:=@Nat.pow_le_pow_right
abbrev aw:=@Nat.le_refl
abbrev ax:=@List.mem_append
abbrev az:=@List.mem_map
abbrev aA:=@Nat.mul_le_mul_right
abbrev aB:=@List.getElem?_eq_some_iff
abbrev aD:=@List.getElem?_map
abbrev aG:=@List.mem_cons
abbrev aI:=@List.take_of_length_le
abbrev aJ:=@Nat.mul_le_mul
abbrev aL:=@List.getElem_mem
abbrev aO:=@List.getElem?_eq_none
abbrev aQ:=@List.size_toArray
abbrev aR:=@PySem.boot_len
abbrev aS:=@Rat.intCast_mul
abbrev aU:=@Nat.mul_le_mul_left
abbrev aX:=@List.length_singleton
abbrev aY:=@Nat.pow_add
abbrev aZ:=@Nat.zero_le
abbrev bc:=@Nat.le_of_lt
abbrev bg:=@List.length_cons
abbrev bh:=@Rat.intCast_natCast
abbrev bo:=@Nat.lt_of_le_of_lt
abbrev br:=@List.not_mem_nil
abbrev bw:=@Bool.false_ne_true
abbrev bD:=@Nat.lt_of_lt_of_le
abbrev bN:=@PySem.F.plainAttrs_list
abbrev bO:=@List.length_zipWith
abbrev bP:=@List.getElem_of_mem
abbrev bR:=@List.length_take
abbrev bS:=@List.getElem?_zipWith
abbrev bT:=@List.getElem?_append_right
abbrev bU:=@Option.some.inj
abbrev bW:=@Nat.one_le_two_pow
abbrev bZ:=@List.mem_cons_of_mem
abbrev b6:=@List.mem_append_right
abbrev b7:=@Nat.mul_pos
abbrev b8:=@Nat.lt_or_ge
abbrev cb:=@List.mem_of_mem_take
abbrev cg:=@List.length_range
abbrev ck:=@List.append_assoc
abbrev cm:=@List.mem_singleton
abbrev cw:=@PySem.F.type_list_append
abbrev cx:=@PySem.F.slot_list_append
abbrev cE:=@List.map_append
abbrev cF:=@Int.fdiv_eq_ediv_of_nonneg
abbrev cH:=@Nat.mul_comm
abbrev cI:=@Int.eq_ofNat_of_zero_le
abbrev cK:=@Nat.mul_assoc
abbrev cM:=@List.mem_or_eq_of_mem_set
abbrev cN:=@List.getElem?_append_left
abbrev cP:=@Rat.intCast_neg
abbrev cQ:=@Nat.ne_of_lt
abbrev cT:=@Int.natAbs_natCast
abbrev cV:=@List.getElem?_range
abbrev cX:=@Nat.not_lt_zero
abbrev c9:=@List.nodup_append
abbrev de:=@List.mem_cons_self
abbrev di:=@Rat.intCast_inj
abbrev dj:=@PySem.W.kia_one
abbrev dk:=@List.nil_append
abbrev dm:=@Nat.succ_le_succ
abbrev dr:=@Nat.lt_irrefl
abbrev dt:=@Int.mul_assoc
abbrev dB:=@Nat.pow_lt_pow_right
abbrev dC:=@Nat.le_mul_of_pos_right
abbrev dD:=@Bool.and_eq_true
abbrev dJ:=@Rat.mul_comm
abbrev dM:=@Nat.lt_trichotomy
abbrev dN:=@Nat.le_mul_of_pos_left
abbrev dO:=@Int.natAbs_mul
abbrev dP:=@List.map_congr_left
abbrev dS:=@List.nodup_cons
abbrev dU:=@List.length_set
abbrev dY:=@List.drop_eq_getElem_cons
abbrev d5:=@Int.natAbs_dvd_natAbs
abbrev d7:=@List.getElem_map
abbrev d9:=@List.ext_getElem
abbrev ee:=@List.cons_append
abbrev eh:=@Int.gcd_dvd_left
abbrev eH:=@Nat.mul_add
abbrev eZ:=@Int.gcd_dvd_right
abbrev fu:=@Int.mul_comm
abbrev fI:=@List.map_cons
abbrev fJ:=@List.mem_range
abbrev fN:=@List.length_replicate
abbrev fZ:=@Rat.mul_zero
abbrev gi:=@Nat.pow_succ
abbrev gD:=@Int.mul_pos
abbrev gI:=@Nat.le_of_dvd
abbrev gZ:=@Nat.lt_succ_self
abbrev hJ:=@Nat.dvd_mul_left
abbrev ip:=@Nat.pow_pos
abbrev iw:=@Nat.eq_zero_or_pos
abbrev iB:=@List.map_map
abbrev iC:=@Int.emod_lt_of_pos
abbrev iD:=@Bool.false_eq_true
abbrev iT:=@List.range_succ
abbrev jC:=@List.ext_getElem?
abbrev jE:=@Int.natAbs_neg
abbrev j6:=@PySem.IsL.update
abbrev j7:=@Nat.succ_mul
abbrev j8:=@List.lookup_cons
abbrev j9:=@Int.gcd_comm
abbrev ke:=@PySem.F.plain_extend_loop
abbrev kg:=@PySem.mem_of_lookup
abbrev kh:=@Nat.pow_le_pow_left
abbrev kC:=@List.getElem?_take_of_lt
abbrev kM:=@List.mem_filter
abbrev kN:=@Int.emod_nonneg
abbrev kO:=@Bool.eq_iff_iff
abbrev kR:=@List.getElem_range
abbrev lW:=@Int.natCast_dvd_natCast
abbrev lX:=@Int.dvd_mul_of_dvd_left
abbrev mD:=@Nat.sub_self
abbrev mE:=@Int.zero_add
abbrev og:=@PySem.F.slot_zip_next
abbrev oh:=@List.all_eq_true
abbrev pX:=@List.mem_append_left
abbrev pY:=@List.map_id
abbrev pZ:=@List.getElem_zipWith
abbrev p9:=@Rat.natCast_mul
abbrev qe:=@List.append_nil
abbrev sG:=@Rat.add_zero
abbrev sH:=@Nat.add_comm
abbrev tU:=@Int.eq_of_mul_eq_mul_right
abbrev uD:=@Int.mul_neg_of_pos_of_neg
abbrev v9:=@Nat.pow_mul
abbrev wa:=@Nat.one_mul
abbrev wb:=@Nat.lt_succ_of_lt
abbrev wd:=@Nat.le_succ
abbrev wg:=@Nat.dvd_trans
abbrev wo:=@List.eq_of_mem_replicate
abbrev yE:=@Rat.intCast_eq_zero_iff
abbrev yF:=@List.mem_flatten
abbrev zd:=@PySem.W.cellsFrom_some
abbrev ze:=@Nat.dvd_refl
abbrev Bf:=@Rat.intCast_sub
abbrev Bg:=@Rat.intCast_add
abbrev Bh:=@List.length_zip
abbrev Bj:=@Bool.beq_eq_decide_eq
abbrev Di:=@Nat.add_mul
abbrev Dj:=@Nat.add_le_add_right
abbrev Dk:=@List.replicate_succ'
abbrev Dl:=@List.nodup_nil
abbrev Dm:=@List.forIn_nil
abbrev EL:=@PySem.W.plainGet_of
abbrev EM:=@List.flatten_append
abbrev EN:=@List.filterMap_cons
abbrev Gu:=@Int.natAbs_eq
abbrev Gv:=@PySem.W.callWith_K
abbrev Gx:=@List.append_of_mem
abbrev Jy:=@Nat.ne_of_gt
abbrev Jz:=@Nat.mul_zero
abbrev JA:=@List.flatten_cons
abbrev JB:=@Int.dvd_refl
abbrev KG:=@Option.getD_some
abbrev KH:=@Nat.min_le_right
abbrev MJ:=@Nat.mul_one
abbrev MK:=@Int.dvd_gcd
abbrev MP:=@Rat.mul_eq_zero
abbrev MQ:=@Nat.min_eq_left
abbrev MR:=@Nat.le_antisymm
abbrev MS:=@List.of_mem_zip
abbrev MT:=@List.map_const'
abbrev MV:=@List.forIn_cons
abbrev MW:=@Int.gcd_pos_of_ne_zero_right
abbrev O9:=@List.length_eraseIdx_of_lt
abbrev QL:=@PySem.F.entry_extend_loop
abbrev QM:=@List.getElem?_zip_eq_some
abbrev QN:=@Int.natAbs_ediv_of_nonneg
abbrev QR:=@PySem.F.type_list_extend
abbrev QT:=@PySem.F.slot_list_extend
abbrev QU:=@Option.isSome_iff_exists
abbrev QV:=@List.mem_of_mem_eraseIdx
abbrev Sx:=@PySem.F.args_zip_next_1
abbrev Sy:=@List.getElem?_replicate
abbrev SA:=@List.filter_cons_of_pos
abbrev SD:=@List.filter_cons_of_neg
abbrev LR9:=List (List Rat)
abbrev FG9:=PySem.W.Frag
namespace L2
open PySem PySem.Spec PyProof.Rows
abbrev Key:=Sum Int Str
def ON:Key->Value->Bool
 | .inl k,v=>Value.isInt k v
 | .inr x,v=>Value.isStrOf x v
def S4 (w:World):Key->Int
 | .inl k=>hashInt k
 | .inr x=>hashStr w x
theorem eV:∀{k:Key} {v:Value},ON k v=true->(∃i t,k=Sum.inl i/\v=Value.int i t)\/(∃x t,k=Sum.inr x/\v=Value.str x t)
 | .inl i,v,h=>by
  obtain ⟨t,e⟩:=Value.isInt_shape (k:=i) (v:=v) h;exact .inl ⟨i,t,rfl,e⟩
 | .inr x,v,h=>by
  obtain ⟨t,e⟩:=Value.isStrOf_shape (x:=x) (v:=v) h;exact .inr ⟨x,t,rfl,e⟩
theorem Qo (a b:Int):decide ((Sum.inl a:Key)=Sum.inl b)=(a == b):=by
 by_cases e:a=b
 ·subst e;simp
 ·have h:¬(Sum.inl a:Key)=Sum.inl b:=λq=>e (Sum.inl.inj q)
  rw[decide_eq_false h];exact (beq_eq_false_iff_ne.mpr e).symm
theorem Ql (a b:Str):decide ((Sum.inr a:Key)=Sum.inr b)=decide (a=b):=by
 by_cases e:a=b
 ·subst e;simp
 ·have h:¬(Sum.inr a:Key)=Sum.inr b:=λq=>e (Sum.inr.inj q)
  rw[decide_eq_false h,decide_eq_false e]
theorem Qn (a:Int) (b:Str):decide ((Sum.inl a:Key)=Sum.inr b)=false:=decide_eq_false (λq=>nomatch q)
theorem Qm (a:Str) (b:Int):decide ((Sum.inr a:Key)=Sum.inl b)=false:=decide_eq_false (λq=>nomatch q)
def IP (prog:Program) (w:World):PySem.KeyKind prog w Key where
 is:=ON
 hash:=S4 w
 inj:=λv a b ha hb=>by
  rcases eV ha with ⟨i,t,rfl,rfl⟩ | ⟨x,t,rfl,rfl⟩
  ·rcases eV hb with ⟨j,u,rfl,e⟩ | ⟨y,u,rfl,e⟩
   ·injection e with e1 _;rw[e1]
   ·exact nomatch e
  ·rcases eV hb with ⟨j,u,rfl,e⟩ | ⟨y,u,rfl,e⟩
   ·exact nomatch e
   ·injection e with e1 _;rw[e1]
 byValue:=λk v h=>by
  rcases eV h with ⟨i,t,rfl,rfl⟩ | ⟨x,t,rfl,rfl⟩ <;> rfl
 pyHash:=λhv h=>by
  rcases eV hv with ⟨i,t,rfl,rfl⟩ | ⟨x,t,rfl,rfl⟩
  ·exact wpAny_pyHash_int h
  ·exact wpAny_pyHash_str h
 eqBool:=λhu hv h=>by
  rcases eV hu with ⟨i,t,rfl,rfl⟩ | ⟨x,t,rfl,rfl⟩
  ·rcases eV hv with ⟨j,u,rfl,rfl⟩ | ⟨y,u,rfl,rfl⟩
   ·rw[Qo] at h;exact wpAny_eqBool_int h
   ·rw[Qn] at h;exact SeqAt.EqAt.int_str i t y u _ _ _ _ h
  ·rcases eV hv with ⟨j,u,rfl,rfl⟩ | ⟨y,u,rfl,rfl⟩
   ·rw[Qm] at h;exact SeqAt.EqAt.str_int x t j u _ _ _ _ h
   ·rw[Ql] at h;exact wpAny_eqBool_str h
 «strs»:=λk x t v h=>by
  rcases eV h with ⟨i,u,rfl,e⟩ | ⟨y,u,rfl,e⟩
  ·exact nomatch e
  ·injection e with e1 _
   subst e1;cases v <;> rfl
inductive V where
  | non | bl (b : Bool) | int (i : Int) | str (x : Str) | byt (b : Array UInt8) | flt (b : UInt64) | ref (a : Addr) | ty (n : String)
  deriving DecidableEq

def RelV:V->Value->Prop
 | .non,u=>u=Value.none
 | .bl b,u=>u=Value.bool b
 | .int i,u=>∃t,u=Value.int i t
 | .str x,u=>∃t,u=Value.str x t
 | .byt b,u=>∃t,u=Value.bytes b t
 | .flt b,u=>∃t,u=Value.float b t
 | .ref a,u=>u=Value.ref a
 | .ty n,u=>u=Value.type n
abbrev cZ:List V->List Value->Prop:=Paired RelV
theorem cZ.length {xs:List V} {us:List Value} (r:cZ xs us):xs.length=us.length:=Paired.length r
theorem cZ.get:∀{xs:List V} {us:List Value} {i:Nat} {x:V},cZ xs us->xs[i]?=some x->∃u,us[i]?=some u/\RelV x u
 | _,_,_,_,.nil,e=>by simp at e
 | _,_,0,_,.cons r _,e=>by simp at e;subst e;exact ⟨_,rfl,r⟩
 | _,_,i+1,x,.cons _ t,e=>by
  obtain ⟨u,h1,h2⟩:=cZ.get (i:=i) (x:=x) t (by simpa using e);exact ⟨u,by simpa using h1,h2⟩
theorem cZ.set {x:V} {u:Value} (r:RelV x u):∀{xs:List V} {us:List Value} (i:Nat),cZ xs us->cZ (xs.set i x) (us.set i u)
 | _,_,_,.nil=>.nil
 | _,_,0,.cons _ t=>.cons r t
 | _,_,i+1,.cons q t=>.cons q (cZ.set r i t)
theorem cZ.append:∀{xs ys:List V} {us ws:List Value},cZ xs us->cZ ys ws->cZ (xs++ys) (us++ws)
 | _,_,_,_,.nil,s=>s
 | _,_,_,_,.cons r t,s=>.cons r (cZ.append t s)
theorem cZ.take:∀{xs:List V} {us:List Value} (n:Nat),cZ xs us->cZ (xs.take n) (us.take n)
 | _,_,0,_=>.nil
 | _,_,_+1,.nil=>.nil
 | _,_,n+1,.cons r t=>.cons r (cZ.take n t)
theorem cZ.drop:∀{xs:List V} {us:List Value} (n:Nat),cZ xs us->cZ (xs.drop n) (us.drop n)
 | _,_,0,r=>r
 | _,_,_+1,.nil=>.nil
 | _,_,n+1,.cons _ t=>cZ.drop n t
def BJ:Option V->Option Value->Prop
 | some v,some u=>RelV v u
 | none,none=>True
 | _,_=>False
def KV {κ:Type}:List (κ×V)->List (κ×Value)->Prop:=Paired λ(p:κ×V) (q:κ×Value)=>p.1=q.1/\RelV p.2 q.2
def kV:Key->V
 | .inl i=>.int i
 | .inr x=>.str x
inductive HO where
 | lst (xs:List V)
 | tup (xs:List V)
 | dK (kvs:List (Key×V)) | dT (kvs:List (List Key×V))
 | set (S:Int->Bool) (n:Nat)
 | ins (C dx:Addr) (fs:List (Str×V))
 | own (x:Addr)
 | xd (fs:List (Str×V))
 | met (f x:Addr)
 | rng (lo hi:Int)
 | frz (o:Obj) (u:HO)
 | tbl (ps:Array Value)
 | ext (φ:Heap->Prop)
abbrev Hp:=Addr->Option HO
def upd (H:Hp) (a:Addr) (o:HO):Hp:=λb=>if b=a then some o else H b
theorem aE {H:Hp} {a:Addr} {o:HO}:upd H a o a=some o:=by unfold upd;rw[if_pos rfl]
theorem bf {H:Hp} {a b:Addr} {o:HO} (h:b≠a):upd H a o b=H b:=by unfold upd;rw[if_neg h]
theorem fe {H:Hp} {a b:Addr} {o:HO} (h:H a=some o) (h':H b=none):a≠b:=by
 intro e;subst e;rw[h] at h';cases h'
section
variable (P:Program) (w:World)
def iQ (H:Hp) (h:Heap) (a:Addr):HO->Prop
 | .lst xs=>xs.length<=sizeLine/\∃(its:List Value) (n:Nat),cZ xs its/\h.get? a=some { cls:=.type "list",data:=.seq its.toArray n }
 | .tup xs=>xs.length<=sizeLine/\∃its:List Value,cZ xs its/\IsTup h a its.toArray
 | .dK kvs=>kvs.length<=sizeLine/\(a == sysModules)=false/\∃vs,KV kvs vs/\h.DictOf (IP P w) a vs
 | .dT kvs=>kvs.length<=sizeLine/\(a == sysModules)=false/\∃xs:List (List Key×Addr×Value),
   Paired (λ(p:List Key×V) (q:List Key×Addr×Value)=>p.1=q.1/\H q.2.1=some (.tup (p.1.map kV))/\RelV p.2 q.2.2) kvs xs /\
   ∃o es ep,h.get? a=some o/\o.ExactDict/\o.data=.dict es ep/\es.toList=xs.map (entryOfKey (tupleKind (IP P w)))/\(xs.map (·.1)).Nodup
 | .set S n=>h.SetOf (intKind P w) a S n
 | .ins C dx fs=>H dx=some (.own a)/\fs.length<=1000/\dx≠a/\h.get? a=some (PySem.W.instObj C dx) /\
   ∃mA,h.Ns1 dx mA/\(∀f,BJ (fs.lookup f) (mA f))/\PySem.Within mA (fs.map (·.1))
 | .own _=>∃o,h.get? a=some o
 | .xd fs=>∃mA,h.Ns1 a mA/\∀f,BJ (fs.lookup f) (mA f)
 | .rng lo hi=>∃t u v,h.get? a=some { cls:=.type "range",data:=.fields #[.int lo t,.int hi u,.int 1 v] }
 | .frz o u=>h.get? a=some o/\iQ H h a u
 | .tbl ps=>h.get? a=some { cls:=.none,data:=.fields ps }
 | .met f x=>h.get? a=some (PySem.W.methodObj (.ref f) (.ref x))
 | .ext φ=>φ h/\(∃o,h.get? a=some o)/\∀h1 h2:Heap,φ h1->(∀o,h1.get? a=some o->h2.get? a=some o)->φ h2
def zb (H:Hp) (h:Heap):Prop:=∀a o,H a=some o->iQ P w H h a o
end
section
variable {P:Program} {w:World} {H H':Hp} {h h':Heap} {a:Addr} {o:HO}
theorem iQ.lt (x:iQ P w H h a o):a < h.objs.size:=by
 cases o with
 | lst xs=>obtain ⟨_,_,_,_,e⟩:=x;exact Heap.lt_size e
 | tup xs=>obtain ⟨_,_,_,p⟩:=x;exact p.lt
 | dK kvs=>obtain ⟨_,_,_,_,o,_,_,e,_⟩:=x;exact Heap.lt_size e
 | dT kvs=>obtain ⟨_,_,_,_,o,_,_,e,_⟩:=x;exact Heap.lt_size e
 | set S n=>obtain ⟨o,_,_,_,e,_⟩:=x;exact Heap.lt_size e
 | ins C dx fs=>obtain ⟨_,_,_,e,_⟩:=x;exact Heap.lt_size e
 | own y=>obtain ⟨_,e⟩:=x;exact Heap.lt_size e
 | xd fs=>obtain ⟨_,⟨_,_,_,e,_⟩,_⟩:=x;exact Heap.lt_size e
 | rng lo hi=>obtain ⟨_,_,_,e⟩:=x;exact Heap.lt_size e
 | frz ob u=>obtain ⟨e,_⟩:=x;exact Heap.lt_size e
 | tbl ps=>exact Heap.lt_size (show h.get? a=some _ from x)
 | met f y=>exact Heap.lt_size (show h.get? a=some _ from x)
 | ext φ=>obtain ⟨_,⟨_,e⟩,_⟩:=x;exact Heap.lt_size e
theorem Paired.mapP {α β:Type} {F G:α->β->Prop}:∀{l₁:List α} {l₂:List β},Paired F l₁ l₂->(∀a b,F a b->G a b)->Paired G l₁ l₂
 | _,_,.nil,_=>.nil
 | _,_,.cons r t,f=>.cons (f _ _ r) (Paired.mapP t f)
theorem Paired.imp' {α β:Type} {F G:α->β->Prop} (f:∀a b,F a b->G a b) {l₁:List α} {l₂:List β} (r:Paired F l₁ l₂):Paired G l₁ l₂:=Paired.mapP r f
theorem iQ.stay (x:iQ P w H h a o) (k:∀b u,(b=a\/H b=some (.own a))->h.get? b=some u->h'.get? b=some u)
  (ho:∀b,H b=some (.own a)->H' b=some (.own a)) (ht:∀b xs,H b=some (.tup xs)->H' b=some (.tup xs)):iQ P w H' h' a o:=by
 induction o with
 | lst xs=>obtain ⟨z,its,n,r,e⟩:=x;exact ⟨z,its,n,r,k _ _ (.inl rfl) e⟩
 | tup xs=>obtain ⟨z,its,r,ob,e,c⟩:=x;exact ⟨z,its,r,ob,k _ _ (.inl rfl) e,c⟩
 | dK kvs=>obtain ⟨z,y,vs,r,ob,es,ep,e,c⟩:=x;exact ⟨z,y,vs,r,ob,es,ep,k _ _ (.inl rfl) e,c⟩
 | dT kvs =>
  obtain ⟨z,y,xs,r,ob,es,ep,e,c⟩:=x;exact ⟨z,y,xs,Paired.mapP r λp q z=>⟨z.1,ht _ _ z.2.1,z.2.2⟩,ob,es,ep,k _ _ (.inl rfl) e,c⟩
 | set S n=>obtain ⟨ob,es,ep,t,e,c⟩:=x;exact ⟨ob,es,ep,t,k _ _ (.inl rfl) e,c⟩
 | ins C dx fs =>
  obtain ⟨d,z,ne,e,mA,⟨od,es,ep,e2,c⟩,r⟩:=x;exact ⟨ho _ d,z,ne,k _ _ (.inl rfl) e,mA,⟨od,es,ep,k _ _ (.inr d) e2,c⟩,r⟩
 | own y=>obtain ⟨ob,e⟩:=x;exact ⟨ob,k _ _ (.inl rfl) e⟩
 | xd fs=>obtain ⟨mA,⟨od,es,ep,e,c⟩,r⟩:=x;exact ⟨mA,⟨od,es,ep,k _ _ (.inl rfl) e,c⟩,r⟩
 | rng lo hi=>obtain ⟨t,u,v,e⟩:=x;exact ⟨t,u,v,k _ _ (.inl rfl) e⟩
 | frz ob u ih=>obtain ⟨e,q⟩:=x;exact ⟨k _ _ (.inl rfl) e,ih q⟩
 | tbl ps =>
  have e:h.get? a=some { cls:=.none,data:=.fields ps }:=x;show h'.get? a=some { cls:=.none,data:=.fields ps }
  exact k a _ (.inl rfl) e
 | met f y =>
  have e:h.get? a=some (PySem.W.methodObj (.ref f) (.ref y)):=x;show h'.get? a=some (PySem.W.methodObj (.ref f) (.ref y))
  exact k a _ (.inl rfl) e
 | ext φ=>obtain ⟨p,⟨o,e⟩,st⟩:=x;exact ⟨st _ _ p λo q=>k _ _ (.inl rfl) q,⟨o,k _ _ (.inl rfl) e⟩,st⟩
theorem zb.lt (x:zb P w H h) (e:H a=some o):a < h.objs.size:=(x a o e).lt
theorem zb.fresh (x:zb P w H h) (e:h.objs.size<=a):H a=none:=by
 cases q:H a with
 | none=>rfl
 | some u=>exact absurd (bD (x.lt q) e) (dr _)
theorem zb.kept (x:zb P w H h) (k:∀b u,h.get? b=some u->h'.get? b=some u):zb P w H h':=λa o e =>
 (x a o e).stay (λb u _ q=>k b u q) (λ_ q=>q) λ_ _ q=>q
theorem zb.laid (x:zb P w H h) (k:∀b u,h.get? b=some u->h'.get? b=some u) (hp:h.objs.size<=a) (new:iQ P w (upd H a o) h' a o):zb P w (upd H a o) h':=λb u e=>by
 have hn:=x.fresh hp;by_cases hb:b=a
 ·subst hb;rw[aE] at e;cases e;exact new
 ·rw[bf hb] at e;exact (x b u e).stay (λc v _ q=>k c v q) (λc q=>by rw[bf (fe q hn)];exact q) λc xs q=>by rw[bf (fe q hn)];exact q
end
def Rd (H:Hp) (a:Addr) (u:HO):Prop:=H a=some u\/∃o,H a=some (.frz o u)
theorem Rd.ok {P:Program} {w:World} {H:Hp} {h:Heap} {a:Addr} {u:HO} (r:Rd H a u) (x:zb P w H h):iQ P w H h a u:=by
 rcases r with r | ⟨o,r⟩
 ·exact x a u r
 ·obtain ⟨_,q⟩:=x a _ r;exact q
def SM:Option HO->Prop
 | some (.lst _)=>True
 | some (.dK _)=>True
 | some (.dT _)=>True
 | some (.set _ _)=>True
 | some (.ins _ _ _)=>True
 | some (.ext _)=>True
 | _=>False
section
variable {P:Program} {w:World} {H:Hp} {h h':Heap} {x e:Addr} {o':HO}
theorem zb.write (ok:zb P w H h) (mu:SM (H x)) (he:e=x\/H e=some (.own x)) (k:∀b u,b≠e->h.get? b=some u->h'.get? b=some u) (heo:∃u,h'.get? e=some u)
  (new:iQ P w (upd H x o') h' x o'):zb P w (upd H x o') h':=λb u q=>by
 have nown:∀c y,H c=some (.own y)->c≠x:=λc y r z=>by subst z;rw[r] at mu;exact mu
 have ntup:∀c xs,H c=some (.tup xs)->c≠x:=λc xs r z=>by subst z;rw[r] at mu;exact mu
 by_cases hb:b=x
 ·subst hb;rw[aE] at q;cases q;exact new
 ·rw[bf hb] at q;by_cases hbe:b=e
  ·have q':H b=some (.own x):=by
    rcases he with z | z
    ·exact absurd (hbe.trans z) hb
    ·rw[hbe];exact z
   rw[q] at q';cases q';obtain ⟨v,hv⟩:=heo;exact ⟨v,by rw[hbe];exact hv⟩
  ·refine (ok b u q).stay (λc v hc r=>k c v ?_ r) (λc r=>by rw[bf (nown c b r)];exact r) λc xs r=>by rw[bf (ntup c xs r)];exact r
   rcases hc with rfl | hc
   ·exact hbe
   ·rintro rfl;rcases he with z | z
    ·exact nown c b hc z
    ·rw[hc] at z;cases z;exact hb rfl
end
structure Un (fs ex:List Addr) (H H':Hp) (h h':Heap):Prop where
 keep:∀b o,h.get? b=some o->H b=none->b∉fs->b∉ex->h'.get? b=some o
 slot:∀b o,h.get? b=some o->H b=none->b∈fs->b∉ex->∃sl,h'.get? b=some { o with slots:=sl }
 free:∀b o,h.get? b=some o->H b=none->b∉ex->H' b=none
 there:∀b o,h.get? b=some o->b∉ex->∃o',h'.get? b=some o'
 tups:∀b xs,H b=some (.tup xs)->H' b=some (.tup xs)
 frzs:∀b o u,H b=some (.frz o u)->H' b=some (.frz o u)
 tbls:∀b ps,H b=some (.tbl ps)->∃more,H' b=some (.tbl (ps++more))
section
variable {fs fs' ex ex':List Addr} {H H1 H2:Hp} {h h1 h2 h':Heap} {a x e:Addr} {o:HO}
theorem Un.any (u:Un fs ex H H1 h h1) {b:Addr} {ob:Obj} (q:h.get? b=some ob) (n:H b=none) (hx:b∉ex):∃sl,h1.get? b=some { ob with slots:=sl }:=by
 by_cases hb:b∈fs
 ·exact u.slot b ob q n hb hx
 ·exact ⟨ob.slots,u.keep b ob q n hb hx⟩
theorem Un.kept (k:∀b u,h.get? b=some u->h'.get? b=some u):Un fs ex H H h h' :=
 ⟨λb ob q _ _ _=>k b ob q,λb ob q _ _ _=>⟨ob.slots,k b ob q⟩,λ_ _ _ n _=>n,λb ob q _=>⟨ob,k b ob q⟩,λ_ _ q=>q,λ_ _ _ q=>q,λ_ ps q=>⟨#[],by rw[q];simp⟩⟩
theorem Un.refl:Un fs ex H H h h:=Un.kept λ_ _ q=>q
theorem Un.laid (k:∀b u,h.get? b=some u->h'.get? b=some u) (hp:h.objs.size<=a) (hn:H a=none):Un fs ex H (upd H a o) h h' where
 keep:=λb u q _ _ _=>k b u q
 slot:=λb u q _ _ _=>⟨u.slots,k b u q⟩
 free:=λb u q n _=>by rw[bf (cQ (bD (Heap.lt_size q) hp))];exact n
 there:=λb u q _=>⟨u,k b u q⟩
 tups:=λb xs q=>by rw[bf (fe q hn)];exact q
 frzs:=λb u xs q=>by rw[bf (fe q hn)];exact q
 tbls:=λb ps q=>⟨#[],by rw[bf (fe q hn),q];simp⟩
theorem Un.write (mu:SM (H x)) (he:e=x\/H e=some (.own x)) (k:∀b u,b≠e->h.get? b=some u->h'.get? b=some u) (heo:∃u,h'.get? e=some u):Un fs ex H (upd H x o) h h':=by
 have hx:∀b,H b=none->b≠x:=λb n z=>by subst z;rw[n] at mu;exact mu
 have hb:∀b,H b=none->b≠e:=λb n z=>by
  subst z;rcases he with r | r
  ·exact hx b n r
  ·rw[n] at r;cases r
 have hm:∀b u,H b=some u->¬SM (some u)->b≠x:=λb u q nm z=>by subst z;rw[q] at mu;exact nm mu
 refine ⟨λb u q n _ _=>k b u (hb b n) q,λb u q n _ _=>⟨u.slots,k b u (hb b n) q⟩,λb u q n _=>by rw[bf (hx b n)];exact n,λb u q _=>?_,
  λb xs q=>by rw[bf (hm b _ q λz=>z)];exact q,λb u xs q=>by rw[bf (hm b _ q λz=>z)];exact q,λb ps q=>⟨#[],by rw[bf (hm b _ q λz=>z),q];simp⟩⟩
 by_cases hbe:b=e
 ·subst hbe;exact heo
 ·exact ⟨u,k b u hbe q⟩
end
def SE (h:Heap) (H:Hp):List Addr:=(List.range h.objs.size).filter λa=>(H a).isSome
def Eh (h:Heap) (H:Hp):Heap:=PySem.W.hideAll h (SE h H)
theorem Ke (h:Heap) (H:Hp):(Eh h H).objs.size=h.objs.size:=PySem.W.hideAll_size _ _
theorem L7 {h:Heap} {H:Hp} {b:Addr} {o:Obj} (e:h.get? b=some o) (n:H b=none):(Eh h H).get? b=some o :=
 PySem.W.hideAll_get _ e λhm=>by
  have q:(H b).isSome=true:=(kM.mp hm).2;rw[n] at q;simp at q
theorem N3 {h:Heap} {H:Hp} {b:Addr} {o:Obj} (e:(Eh h H).get? b=some o):h.get? b=some o/\H b=none:=by
 have e':h.get? b=some o:=PySem.W.of_hideAll (SE h H) e;refine ⟨e',?_⟩;cases q:H b with
 | none=>rfl
 | some x =>
  have hm:b∈SE h H:=kM.mpr ⟨fJ.mpr (Heap.lt_size e'),by simp [q]⟩;have z:(Eh h H).get? b=none:=PySem.W.hideAll_none (SE h H) hm;rw[z] at e;cases e
structure Mod (K:FG9) (mg:Str->Option Value) (base:Heap):Prop where
 kin:K.In base
 glob:base.Ns mainGlobals mg
 blt:∃mb,base.Ns builtinsNs mb/\∀x:Str,x≠"__name__"->mb x=bootBuiltins x
 nolimit:base.NoLimit
 seer:base.NoSeer
structure Cx where
 prog:Program
 w:World
 K:FG9
 mg:Str->Option Value
 base:Heap
 A:Around
 N:List Str
 s₀:Shared
 H₀:Hp
 env:Env
 outer:List Env
 stack:List Env
 ex:List Addr
 fn:Str->Bool
 calm:Bool
 pn:List (Addr×Obj)
 xe:Value->Shared->Prop
def KA (l:List Env):List Addr:=l.filterMap (·.frame)
abbrev Cx.fs (X:Cx):List Addr:=KA X.outer
def Tb (sc:Scope) (x:Str):Prop:=sc.names.lookup x=some .local\/sc.names.lookup x=some .cell\/sc.names.lookup x=some .free
def Loc (sc:Scope) (x:Str):Prop:=sc.names.lookup x=some .local\/sc.names.lookup x=some .cell
def Look (env:Env) (h:Heap) (m:Str->Option Value) (x:Str) (u:Value):Prop :=
 (env.kindOf x=some .local/\m x=some u)\/((env.kindOf x=some .cell\/env.kindOf x=some .free)/\∃c,env.cells.lookup x=some c/\h.IsCell c (some u))
structure Cx.Ok (X:Cx):Prop where
 mod:Mod X.K X.mg X.base
 kind:X.env.scope.kind=.function
 glob:X.env.globals=mainGlobals
 blt:X.env.builtins=builtinsNs
 above:X.s₀.heap.objs.size<=X.env.locals
 inj:∀x y c,X.env.cells.lookup x=some c->X.env.cells.lookup y=some c->x=y
 has:∀x,(X.env.kindOf x=some .cell\/X.env.kindOf x=some .free)->∃c,X.env.cells.lookup x=some c
 cab:∀x c,X.fn x=true->X.env.cells.lookup x=some c->X.s₀.heap.objs.size<=c
 hd:X.calm=true->X.A.handled=none
 frames:X.A.frames=some X.stack
 stk:X.stack=X.outer\/(X.stack=X.env :: X.outer/\X.env.frame=some X.env.locals)
 exf:∀b∈X.ex,b≠X.env.locals/\∀x c,X.env.cells.lookup x=some c->c≠b
 bs:∀b o,X.base.get? b=some o->X.s₀.heap.get? b=some o/\X.H₀ b=none
 bsz:X.base.objs.size<=X.s₀.heap.objs.size
 noex:∀b o,X.base.get? b=some o->b∉X.ex
 exfs:∀b∈X.ex,b∉X.fs
 funs:X.s₀.heap.FunFrames X.base X.outer
 frf:∀b∈X.fs,X.H₀ b=none
structure Inv (X:Cx) (pins:List (Addr×Obj)) (σ:List (Option V)) (H:Hp) (s:Shared):Prop where
 ok:X.Ok
 os:s.os=X.s₀.os
 bare:AllBare s.gens
 base:Un X.fs X.ex X.H₀ H X.s₀.heap s.heap
 loc:∃m,s.heap.Ns X.env.locals m/\∀(i:Nat) (x:Str) (v:V),X.N[i]?=some x->σ[i]?=some (some v)->Tb X.env.scope x->∃u,RelV v u/\Look X.env s.heap m x u
 cell:∀x c,X.env.cells.lookup x=some c->∃v,s.heap.IsCell c v
 free:H X.env.locals=none
 freeC:∀x c,X.env.cells.lookup x=some c->H c=none
 pin:∀p∈X.pn++pins,s.heap.get? p.1=some p.2/\H p.1=none/\p.1≠X.env.locals/\p.1∉X.fs/\∀v,p.2.data≠.cell v
 hok:zb X.prog X.w H s.heap
 len:σ.length=X.N.length
section
variable {X:Cx} {pins:List (Addr×Obj)} {σ:List (Option V)} {H H':Hp} {s:Shared} {h':Heap}
theorem Cx.Ok.nofr (ok:X.Ok) {b:Addr} {o:Obj} (e:X.base.get? b=some o):b∉X.fs:=λhb=>by
 have:=(ok.funs.mem hb).1;rw[e] at this;cases this
theorem Inv.bs (I:Inv X pins σ H s):∀b o,X.base.get? b=some o->s.heap.get? b=some o/\H b=none:=λb o e =>
 ⟨I.base.keep b o (I.ok.bs b o e).1 (I.ok.bs b o e).2 (I.ok.nofr e) (I.ok.noex b o e),I.base.free b o (I.ok.bs b o e).1 (I.ok.bs b o e).2 (I.ok.noex b o e)⟩
theorem Inv.bk (I:Inv X pins σ H s):∀b o,X.base.get? b=some o->s.heap.get? b=some o:=λb o e=>(I.bs b o e).1
theorem Inv.mod (I:Inv X pins σ H s):Mod X.K X.mg X.base:=I.ok.mod
theorem Inv.kIn (I:Inv X pins σ H s):X.K.In s.heap:=I.ok.mod.kin.keeps I.bk
theorem Inv.nolimit (I:Inv X pins σ H s):s.heap.NoLimit:=I.ok.mod.nolimit.keeps I.bk
theorem Inv.lt (I:Inv X pins σ H s):X.env.locals < s.heap.objs.size:=let ⟨_,hn,_⟩:=I.loc;hn.lt
theorem Inv.sz (I:Inv X pins σ H s):X.s₀.heap.objs.size<=s.heap.objs.size:=ai I.ok.above (bc I.lt)
theorem Inv.nofs (I:Inv X pins σ H s) {a:Addr} (h:s.heap.objs.size<=a):a∉X.fs:=λhb=>by
 obtain ⟨_,o,ho,_⟩:=I.ok.funs.mem hb;exact absurd (bD (Heap.lt_size ho) (ai I.sz h)) (dr _)
theorem Inv.cne (I:Inv X pins σ H s):∀x c,X.env.cells.lookup x=some c->c≠X.env.locals:=λx c e z=>by
 obtain ⟨v,o,ho,hd⟩:=I.cell x c e;obtain ⟨m,⟨o',es,ep,ho',hd',_⟩,_⟩:=I.loc;rw[z,ho'] at ho;cases ho;rw[hd'] at hd;cases hd
theorem Inv.funs (I:Inv X pins σ H s):s.heap.FunFrames X.base X.outer:=by
 have all:∀(l:List Env),(∀b∈KA l,b∈X.fs)->X.s₀.heap.FunFrames X.base l->s.heap.FunFrames X.base l:=by
  intro l
  induction l with
  | nil=>intro _ _;trivial
  | cons env r ih =>
   intro hs hl;obtain ⟨hk,⟨L,o,hf,hn,ho,hd⟩,hr⟩:=hl;have hL:L∈X.fs:=hs L (by unfold KA;rw[EN,hf];exact de);obtain ⟨sl,e⟩:=I.base.slot L o ho (I.ok.frf L hL) hL λz=>I.ok.exfs L z hL
   exact ⟨hk,⟨L,_,hf,hn,e,hd⟩,ih (λb hb=>hs b (by unfold KA;rw[EN,hf];exact bZ _ hb)) hr⟩
 exact all X.outer (λ_ hb=>hb) I.ok.funs
theorem Inv.stack (I:Inv X pins σ H s):s.heap.FunFrames X.base X.stack:=by
 rcases I.ok.stk with e | ⟨e,hf⟩
 ·rw[e];exact I.funs
 ·rw[e];obtain ⟨m,hn,_⟩:=I.loc;refine .cons (by rw[I.ok.kind];decide) hf hn ?_ I.funs;exact Heap.get?_none_of_le (ai I.ok.bsz I.ok.above)
theorem Inv.stkSub (I:Inv X pins σ H s):∀b∈KA X.stack,b∈X.env.locals :: X.fs:=λb hb=>by
 rcases I.ok.stk with e | ⟨e,hf⟩
 ·rw[e] at hb;exact bZ _ hb
 ·rw[e] at hb;unfold KA at hb;rw[EN,hf] at hb;exact hb
theorem Inv.stkFree (I:Inv X pins σ H s):∀b∈KA X.stack,H b=none:=λb hb=>by
 rcases aG.mp (I.stkSub b hb) with e | hb
 ·rw[e];exact I.free
 ·obtain ⟨_,o,ho,_⟩:=I.ok.funs.mem hb;exact I.base.free b o ho (I.ok.frf b hb) λz=>I.ok.exfs b z hb
theorem Inv.step {g':Array GenState} {t':Nat} {d':Drawn} {ch:List Addr} (I:Inv X pins σ H s)
  (hch:∀b∈ch,(b∈X.ex\/X.s₀.heap.objs.size<=b)/\b≠X.env.locals/\(∀x c,X.env.cells.lookup x=some c->c≠b)/\∀p∈X.pn++pins,p.1≠b)
  (keep:∀b o,b≠X.env.locals->b∉X.fs->b∉ch->s.heap.get? b=some o->H b=none->h'.get? b=some o)
  (slot:∀b o,b≠X.env.locals->b∈X.fs->b∉ch->s.heap.get? b=some o->H b=none->∃sl,h'.get? b=some { o with slots:=sl }) (free:∀b o,b∉ch->s.heap.get? b=some o->H b=none->H' b=none)
  (there:∀b o,b∉ch->s.heap.get? b=some o->∃o',h'.get? b=some o')
  (tups:∀b xs,H b=some (.tup xs)->H' b=some (.tup xs)) (frzs:∀b o u,H b=some (.frz o u)->H' b=some (.frz o u)) (tbls:∀b ps,H b=some (.tbl ps)->∃more,H' b=some (.tbl (ps++more)))
  (ns:∀m,s.heap.Ns X.env.locals m->h'.Ns X.env.locals m) (hok:zb X.prog X.w H' h') (hg:AllBare g') :
  Inv X pins σ H' { s with heap:=h',gens:=g',drawn:=d',toks:=t' }:=by
 have neL:∀b o,X.s₀.heap.get? b=some o->b≠X.env.locals:=λb o e=>cQ (bD (Heap.lt_size e) I.ok.above)
 have neC:∀b o,X.s₀.heap.get? b=some o->b∉X.ex->b∉ch:=λb o e hx hb=>by
  rcases (hch b hb).1 with z | z
  ·exact hx z
  ·exact absurd (bD (Heap.lt_size e) z) (dr _)
 have cellK:∀x c,X.env.cells.lookup x=some c->∀v,s.heap.IsCell c v->h'.IsCell c v:=λx c e v ⟨o,ho,hd⟩=>by
  have nch:c∉ch:=λz=>(hch c z).2.2.1 x c e rfl
  by_cases hc:c∈X.fs
  ·obtain ⟨sl,q⟩:=slot c o (I.cne x c e) hc nch ho (I.freeC x c e);exact ⟨_,q,hd⟩
  ·exact ⟨o,keep c o (I.cne x c e) hc nch ho (I.freeC x c e),hd⟩
 refine ⟨I.ok,I.os,hg,⟨λb o e n hb hx=>?_,λb o e n hb hx=>?_,λb o e n hx=>?_,λb o e hx=>?_,λb xs e=>tups b xs (I.base.tups b xs e),λb o xs e=>frzs b o xs (I.base.frzs b o xs e),λb ps e=>?_⟩,?_,λx c e=>?_,?_,λx c e=>?_,λp hp=>?_,hok,I.len⟩
 ·exact keep b o (neL b o e) hb (neC b o e hx) (I.base.keep b o e n hb hx) (I.base.free b o e n hx)
 ·obtain ⟨sl,e1⟩:=I.base.slot b o e n hb hx;obtain ⟨sl',e2⟩:=slot b _ (neL b o e) hb (neC b o e hx) e1 (I.base.free b o e n hx);exact ⟨sl',e2⟩
 ·obtain ⟨o',e1⟩:=I.base.there b o e hx;exact free b o' (neC b o e hx) e1 (I.base.free b o e n hx)
 ·obtain ⟨o',e1⟩:=I.base.there b o e hx;exact there b o' (neC b o e hx) e1
 ·obtain ⟨m1,e1⟩:=I.base.tbls b ps e;obtain ⟨m2,e2⟩:=tbls b _ e1;exact ⟨m1++m2,by rw[e2,Array.append_assoc]⟩
 ·obtain ⟨m,hn,hl⟩:=I.loc;refine ⟨m,ns m hn,λi x v e1 e2 e3=>?_⟩;obtain ⟨u,r,l⟩:=hl i x v e1 e2 e3;refine ⟨u,r,?_⟩;rcases l with l | ⟨k,c,e,z⟩
  ·exact .inl l
  ·exact .inr ⟨k,c,e,cellK x c e _ z⟩
 ·obtain ⟨v,z⟩:=I.cell x c e;exact ⟨v,cellK x c e v z⟩
 ·obtain ⟨m,⟨o,_,_,ho,_⟩,_⟩:=I.loc;exact free _ o (λz=>(hch _ z).2.1 rfl) ho I.free
 ·obtain ⟨v,o,ho,hd⟩:=I.cell x c e;exact free c o (λz=>(hch c z).2.2.1 x c e rfl) ho (I.freeC x c e)
 ·obtain ⟨e,n,ne,nf,d⟩:=I.pin p hp;have nch:p.1∉ch:=λz=>(hch p.1 z).2.2.2 p hp rfl
  exact ⟨keep p.1 p.2 ne nf nch e n,free p.1 p.2 nch e n,ne,nf,d⟩
theorem Inv.un {t':Nat} (I:Inv X pins σ H s) (u:Un X.fs [] H H' s.heap h') (hok:zb X.prog X.w H' h'):Inv X pins σ H' { s with heap:=h',toks:=t' }:=by
 obtain ⟨m,⟨o,es,ep,ho,r⟩,_⟩:=id I.loc;obtain ⟨sl,hL⟩:=u.any ho I.free (by simp)
 exact I.step (g':=s.gens) (d':=s.drawn) (ch:=[]) (λ_ z=>nomatch z) (λb o _ hb _ e n=>u.keep b o e n hb (by simp)) (λb o _ hb _ e n=>u.slot b o e n hb (by simp)) (λb o _ e n=>u.free b o e n (by simp)) (λb o _ e=>u.there b o e (by simp)) u.tups u.frzs u.tbls (λm' hm=>by
  obtain ⟨o',es',ep',ho',r'⟩:=hm;rw[ho] at ho';cases ho';exact ⟨_,es',ep',hL,r'⟩) hok I.bare
theorem Inv.call {g':Array GenState} {t':Nat} {d':Drawn} {ch:List Addr} (I:Inv X pins σ H s) (u:Un (KA X.stack) ch H H' s.heap h') (hok:zb X.prog X.w H' h') (hg:AllBare g')
  (hch:∀b∈ch,(b∈X.ex\/X.s₀.heap.objs.size<=b)/\b≠X.env.locals/\(∀x c,X.env.cells.lookup x=some c->c≠b)/\∀p∈X.pn++pins,p.1≠b) :
  Inv X pins σ H' { s with heap:=h',gens:=g',drawn:=d',toks:=t' }:=by
 obtain ⟨m,⟨o,es,ep,ho,r⟩,_⟩:=id I.loc;obtain ⟨sl,hL⟩:=u.any ho I.free λz=>(hch _ z).2.1 rfl
 exact I.step (ch:=ch) hch (λb o hL hb hc e n=>u.keep b o e n (λz=>(aG.mp (I.stkSub b z)).elim hL hb) hc) (λb o _ _ hc e n=>u.any e n hc) (λb o hc e n=>u.free b o e n hc) (λb o hc e=>u.there b o e hc) u.tups u.frzs u.tbls (λm' hm=>by
  obtain ⟨o',es',ep',ho',r'⟩:=hm;rw[ho] at ho';cases ho';exact ⟨_,es',ep',hL,r'⟩) hok hg
theorem Inv.turned {t':Nat} {it:Addr} (I:Inv X pins σ H s) (k:∀b o,b≠it->s.heap.get? b=some o->h'.get? b=some o) (hn:H it=none) (hL:it≠X.env.locals)
  (h1:it∈X.ex\/X.s₀.heap.objs.size<=it) (h2:∀x c,X.env.cells.lookup x=some c->c≠it) (h3:∀p∈X.pn++pins,p.1≠it):Inv X pins σ H { s with heap:=h',toks:=t' }:=by
 have nit:∀b u,H b=some u->b≠it:=λb u e z=>by rw[z,hn] at e;cases e
 refine I.step (g':=s.gens) (d':=s.drawn) (ch:=[it]) (λb hb=>?_) (λb o _ _ hc e _=>k b o (λz=>hc (by simp [z])) e) (λb o _ _ hc e _=>⟨o.slots,k b o (λz=>hc (by simp [z])) e⟩) (λ_ _ _ _ n=>n)
  (λb o hc e=>⟨o,k b o (λz=>hc (by simp [z])) e⟩) (λ_ _ e=>e) (λ_ _ _ e=>e) (λb ps e=>⟨#[],by rw[e];simp⟩) (λm hm=>?_) (λb u e=>?_) I.bare
 ·have e:b=it:=by simpa using hb
  subst e;exact ⟨h1,hL,h2,h3⟩
 ·obtain ⟨o,es,ep,ho,r⟩:=hm;exact ⟨o,es,ep,k _ o (Ne.symm hL) ho,r⟩
 ·refine (I.hok b u e).stay (λc v hc q=>k c v ?_ q) (λ_ q=>q) λ_ _ q=>q
  rcases hc with z | z
  ·rw[z];exact nit b u e
  ·exact nit c _ z
theorem Inv.tok (I:Inv X pins σ H s) (t:Nat):Inv X pins σ H { s with toks:=t }:=I.un (h':=s.heap) (t':=t) Un.refl I.hok
theorem Inv.kept {t':Nat} (I:Inv X pins σ H s) (k:∀b u,s.heap.get? b=some u->h'.get? b=some u):Inv X pins σ H { s with heap:=h',toks:=t' }:=I.un (Un.kept k) (I.hok.kept k)
theorem Inv.laid {a:Addr} {o:HO} {t':Nat} (I:Inv X pins σ H s) (k:∀b u,s.heap.get? b=some u->h'.get? b=some u) (hp:s.heap.objs.size<=a) (new:iQ X.prog X.w (upd H a o) h' a o) :
  Inv X pins σ (upd H a o) { s with heap:=h',toks:=t' }:=I.un (Un.laid k hp (I.hok.fresh hp)) (I.hok.laid k hp new)
theorem Inv.write {x e:Addr} {o:HO} {t':Nat} (I:Inv X pins σ H s) (mu:SM (H x)) (he:e=x\/H e=some (.own x)) (k:∀b u,b≠e->s.heap.get? b=some u->h'.get? b=some u) (heo:∃u,h'.get? e=some u)
  (new:iQ X.prog X.w (upd H x o) h' x o):Inv X pins σ (upd H x o) { s with heap:=h',toks:=t' }:=I.un (Un.write mu he k heo) (I.hok.write mu he k heo new)
theorem Inv.pins_of {pins':List (Addr×Obj)} (I:Inv X pins σ H s) (h:∀p∈pins',s.heap.get? p.1=some p.2/\H p.1=none/\p.1≠X.env.locals/\p.1∉X.fs/\∀v,p.2.data≠.cell v):Inv X pins' σ H s :=
 ⟨I.ok,I.os,I.bare,I.base,I.loc,I.cell,I.free,I.freeC,λp hp=>(ax.mp hp).elim (λz=>I.pin p (pX _ z)) (h p),I.hok,I.len⟩
theorem Fz {N:List Str} (hN:N.Nodup) {i j:Nat} {x:Str} (a:N[i]?=some x) (b:N[j]?=some x):i=j:=by
 obtain ⟨h1,e1⟩:=aB.mp a;obtain ⟨h2,e2⟩:=aB.mp b;exact (List.getElem_inj hN).mp (e1.trans e2.symm)
theorem BV {M:Model} {A:Around} {E:Value->Shared->Prop} {i:Nat} {x:Str} {v:V} {u:Value} {Q:Unit->Shared->Prop} (I:Inv X pins σ H s) (hN:X.N.Nodup) (hi:X.N[i]?=some x) (hx:Loc X.env.scope x) (r:RelV v u)
  (h:∀s',Inv X pins (σ.set i (some v)) H s'->(∃a,Heap.SameBut a s.heap s'.heap/\(a=X.env.locals\/X.env.cells.lookup x=some a))->Q () s') (hf:X.fn x=true\/X.env.scope.names.lookup x=some .local:=by first | exact .inl rfl | exact .inr rfl | assumption):wpAny M A (storeName X.env x u) Q E s:=by
 obtain ⟨m,hn,hl⟩:=id I.loc;have hcls:(X.env.scope.kind == .class || (X.env.scope.kind == .module && X.env.locals != X.env.globals))=false:=by rw[I.ok.kind];rfl
 have hiσ:i < σ.length:=by rw[I.len];exact (aB.mp hi).1
 have cne:=I.cne
 have tracked:∀{a:Addr} {h':Heap},(∃o,s.heap.get? a=some o/\H a=none)->Heap.SameBut a s.heap h'->zb X.prog X.w H h':=λ{a h'} ha hs b ob e=>by
  obtain ⟨_,_,hfree⟩:=ha;refine (I.hok b ob e).stay (λc w' hc q=>(hs.2 c ?_).trans q) (λ_ q=>q) λ_ _ q=>q
  rintro rfl;rcases hc with rfl | hc
  ·rw[hfree] at e;cases e
  ·rw[hfree] at hc;cases hc
 rcases hx with hk | hk
 ·refine wpAny_storeName_local hk hn (λh' hn' hs=>?_) hcls;obtain ⟨oL,_,_,hoL,_⟩:=id hn;refine h _ ⟨I.ok,I.os,I.bare,⟨λb o e n hb hx=>?_,λb o e n hb hx=>?_,I.base.free,λb o e hx=>?_,I.base.tups,I.base.frzs,I.base.tbls⟩,⟨_,hn',λj y v' e1 e2 e3=>?_⟩,λy c e=>?_,I.free,I.freeC,λp hp=>?_,tracked ⟨oL,hoL,I.free⟩ hs,by simpa using I.len⟩ ⟨_,hs,.inl rfl⟩
  ·exact (hs.2 b (cQ (bD (Heap.lt_size e) I.ok.above))).trans (I.base.keep b o e n hb hx)
  ·obtain ⟨sl,e1⟩:=I.base.slot b o e n hb hx;exact ⟨sl,(hs.2 b (cQ (bD (Heap.lt_size e) I.ok.above))).trans e1⟩
  ·obtain ⟨o',e1⟩:=I.base.there b o e hx;exact ⟨o',(hs.2 b (cQ (bD (Heap.lt_size e) I.ok.above))).trans e1⟩
  ·by_cases hj:j=i
   ·subst hj;rw[hi] at e1;cases e1;rw[List.getElem?_set_self hiσ] at e2;cases e2;exact ⟨u,r,.inl ⟨hk,by simp⟩⟩
   ·rw[List.getElem?_set_ne (Ne.symm hj)] at e2;obtain ⟨u',r',q⟩:=hl j y v' e1 e2 e3;refine ⟨u',r',?_⟩;rcases q with ⟨k,e⟩ | ⟨k,c,e,z⟩
    ·refine .inl ⟨k,?_⟩;have:y≠x:=λe=>hj (Fz hN e1 (e ▸ hi))
     simp [this,e]
    ·exact .inr ⟨k,c,e,z.sameBut hs (cne y c e)⟩
  ·obtain ⟨w',z⟩:=I.cell y c e;exact ⟨w',z.sameBut hs (cne y c e)⟩
  ·obtain ⟨e,n,ne,nf,d⟩:=I.pin p hp;exact ⟨(hs.2 p.1 ne).trans e,n,ne,nf,d⟩
 ·have hfn:X.fn x=true:=by
   rcases hf with z | z
   ·exact z
   ·rw[z] at hk;cases hk
  obtain ⟨c,hc⟩:=I.ok.has x (.inl hk);obtain ⟨w',z⟩:=I.cell x c hc;refine wpAny_storeName_cell I.ok.kind hk hc z (λh' hc' hs=>?_);obtain ⟨oc,hoc,hocd⟩:=id z;refine h { s with heap:=h' } ⟨I.ok,I.os,I.bare,⟨λb o e n hb hx=>?_,λb o e n hb hx=>?_,I.base.free,λb o e hx=>?_,I.base.tups,I.base.frzs,I.base.tbls⟩,⟨m,hn.sameBut hs (Ne.symm (cne x c hc)),λj y v' e1 e2 e3=>?_⟩,λy c' e=>?_,I.free,I.freeC,λp hp=>?_,tracked ⟨oc,hoc,I.freeC x c hc⟩ hs,by simpa using I.len⟩ ⟨c,hs,.inr hc⟩
  ·exact (hs.2 b (cQ (bD (Heap.lt_size e) (I.ok.cab x c hfn hc)))).trans (I.base.keep b o e n hb hx)
  ·obtain ⟨sl,e1⟩:=I.base.slot b o e n hb hx;exact ⟨sl,(hs.2 b (cQ (bD (Heap.lt_size e) (I.ok.cab x c hfn hc)))).trans e1⟩
  ·obtain ⟨o',e1⟩:=I.base.there b o e hx;exact ⟨o',(hs.2 b (cQ (bD (Heap.lt_size e) (I.ok.cab x c hfn hc)))).trans e1⟩
  ·by_cases hj:j=i
   ·subst hj;rw[hi] at e1;cases e1;rw[List.getElem?_set_self hiσ] at e2;cases e2;exact ⟨u,r,.inr ⟨.inl hk,c,hc,hc'⟩⟩
   ·rw[List.getElem?_set_ne (Ne.symm hj)] at e2;obtain ⟨u',r',q⟩:=hl j y v' e1 e2 e3;refine ⟨u',r',?_⟩;rcases q with q | ⟨k,c',e,z'⟩
    ·exact .inl q
    ·refine .inr ⟨k,c',e,z'.sameBut hs ?_⟩;rintro rfl;exact hj (Fz hN e1 (I.ok.inj _ _ _ e hc ▸ hi))
  ·by_cases hcc:c'=c
   ·subst hcc;exact ⟨_,hc'⟩
   ·obtain ⟨w2,z2⟩:=I.cell y c' e;exact ⟨w2,z2.sameBut hs hcc⟩
  ·obtain ⟨e,n,ne,nf,d⟩:=I.pin p hp;refine ⟨(hs.2 p.1 ?_).trans e,n,ne,nf,d⟩;intro q;rw[q,hoc] at e;have q':oc=p.2:=bU e;exact d w' (by rw[<- q'];exact hocd)
theorem uF {M:Model} {A:Around} {E:Value->Shared->Prop} {i:Nat} {x:Str} {v:V} {u:Value} {Q:Unit->Shared->Prop} (I:Inv X pins σ H s) (hN:X.N.Nodup) (hi:X.N[i]?=some x) (hx:Loc X.env.scope x) (r:RelV v u)
  (h:∀s',Inv X pins (σ.set i (some v)) H s'->Q () s') (hf:X.fn x=true\/X.env.scope.names.lookup x=some .local:=by first | exact .inl rfl | exact .inr rfl | assumption):wpAny M A (storeName X.env x u) Q E s :=
 BV I hN hi hx r (λs' I' _=>h s' I') hf
theorem Inv.call' {s':Shared} {ch:List Addr} (I:Inv X pins σ H s) (ho:s'.os=s.os) (u:Un (KA X.stack) ch H H' s.heap s'.heap) (hok:zb X.prog X.w H' s'.heap) (hg:AllBare s'.gens)
  (hch:∀b∈ch,(b∈X.ex\/X.s₀.heap.objs.size<=b)/\b≠X.env.locals/\(∀x c,X.env.cells.lookup x=some c->c≠b)/\∀p∈X.pn++pins,p.1≠b):Inv X pins σ H' s':=by
 obtain ⟨h',g',d',t',o'⟩:=s';have e:o'=s.os:=ho;subst e;exact I.call (g':=g') (t':=t') (d':=d') u hok hg hch
end
abbrev XK:=Value->Option Addr->Hp->Prop
abbrev St:=List (Option V)
abbrev VK:=V->Hp->Prop
abbrev TE:=St->Hp->VK->Prop
abbrev TT:=St->Hp->(Bool->Hp->Prop)->Prop
abbrev TA:=St->Hp->(List V->Hp->Prop)->Prop
structure Ends where
 nx:St->Hp->Prop
 rt:VK
 bk:St->Hp->Prop:=λ_ _=>False
 ct:St->Hp->Prop:=λ_ _=>False
abbrev TS:=Ends->St->Hp->Prop
def EP (X:Cx) (pins:List (Addr×Obj)) (σ:St) (Q:VK) (u:Value) (s':Shared):Prop:=∃v H',Inv X pins σ H' s'/\RelV v u/\Q v H'
def TP (X:Cx) (pins:List (Addr×Obj)) (σ:St) (Q:Bool->Hp->Prop) (b:Bool) (s':Shared):Prop:=∃H',Inv X pins σ H' s'/\Q b H'
def AP (X:Cx) (pins:List (Addr×Obj)) (σ:St) (Q:List V->Hp->Prop) (us:List Value) (s':Shared):Prop:=∃vs H',Inv X pins σ H' s'/\cZ vs us/\Q vs H'
def SP (X:Cx) (pins:List (Addr×Obj)) (D:Ends) (f:Flow) (s':Shared):Prop :=
 match f with
 | .next=>∃σ' H',Inv X pins σ' H' s'/\D.nx σ' H'
 | .brk=>∃σ' H',Inv X pins σ' H' s'/\D.bk σ' H'
 | .cont=>∃σ' H',Inv X pins σ' H' s'/\D.ct σ' H'
 | .ret u=>∃v σ' H',Inv X pins σ' H' s'/\RelV v u/\D.rt v H'
def PE (X:Cx) (e:Expr) (t:TE):Prop :=
 ∀(pins:List (Addr×Obj)) (s:Shared) (σ:St) (H:Hp) (Q:VK),Inv X pins σ H s->t σ H Q->wpAny (model X.prog X.w) X.A (eval e X.env) (EP X pins σ Q) X.xe s
def PT (X:Cx) (e:Expr) (t:TT):Prop :=
 ∀(pins:List (Addr×Obj)) (s:Shared) (σ:St) (H:Hp) (Q:Bool->Hp->Prop),Inv X pins σ H s->t σ H Q->wpAny (model X.prog X.w) X.A (isTrue e X.env (eval e X.env)) (TP X pins σ Q) X.xe s
def PW (X:Cx) (e:Expr) (t:TT):Prop :=
 ∀(whole:Sem Value) (pins:List (Addr×Obj)) (s:Shared) (σ:St) (H:Hp) (Q:Bool->Hp->Prop),Inv X pins σ H s->t σ H Q->wpAny (model X.prog X.w) X.A (isTrue e X.env whole) (TP X pins σ Q) X.xe s
theorem PW.pt {X:Cx} {e:Expr} {t:TT} (h:PW X e t):PT X e t:=h _
def PA (X:Cx) (es:List Expr) (t:TA):Prop :=
 ∀(pos:Pos) (pins:List (Addr×Obj)) (s:Shared) (σ:St) (H:Hp) (Q:List V->Hp->Prop),Inv X pins σ H s->t σ H Q->wpAny (model X.prog X.w) X.A (spliced (backTo pos (starEach es X.env))) (AP X pins σ Q) X.xe s
def PS (X:Cx) (st:Stmt) (t:TS):Prop :=
 ∀(pins:List (Addr×Obj)) (s:Shared) (σ:St) (H:Hp) (D:Ends),Inv X pins σ H s->t D σ H->wpAny (model X.prog X.w) X.A (exec st X.env) (SP X pins D) X.xe s
def Ik (X:Cx) (st:List Stmt) (t:TS):Prop :=
 ∀(pins:List (Addr×Obj)) (s:Shared) (σ:St) (H:Hp) (D:Ends),Inv X pins σ H s->t D σ H->wpAny (model X.prog X.w) X.A (execs st X.env) (SP X pins D) X.xe s
theorem fO {α:Type} {t:Sem α} {Q Q':α->Shared->Prop} {M:Model} {A:Around} {E:Value->Shared->Prop} {s:Shared} (h:wpAny M A t Q E s) (hQ:∀a s,Q a s->Q' a s):wpAny M A t Q' E s:=wpAny_mono h hQ λ_ _ x=>x
section
variable {X:Cx}
def Pg (i:Nat):TE:=λσ H Q=>∃v,σ[i]?=some (some v)/\Q v H
def tC (v:V):TE:=λ_ H Q=>Q v H
theorem Qa {i:Nat} {x:Str} {pos:Pos} (hN:X.N[i]?=some x) (hv:Tb X.env.scope x) (hd:(x == ("__debug__":Str))=false:=by decide) (hcd:(x == ("__classdict__":Str))=false:=by decide):PE X (.Name x pos) (Pg i):=by
 intro pins s σ H Q I h;obtain ⟨v,e,h⟩:=h;obtain ⟨m,hn,hl⟩:=I.loc;obtain ⟨u,r,l⟩:=hl i x v hN e hv;have fin:EP X pins σ Q u s:=⟨v,H,I,r,h⟩;rcases l with ⟨hk,hm⟩ | ⟨hk,c,hc,hcell⟩
 ·exact wpAny_Name (wpAny_loadName_local I.ok.kind hk hn hm fin) hd
 ·rcases hk with hk | hk
  ·exact wpAny_Name (wpAny_loadName_cell I.ok.kind hk hc hcell fin) hd
  ·exact wpAny_Name (wpAny_loadName_free I.ok.kind hk hc hcell fin hcd) hd
theorem ak {i j pos}:PE X (.Constant (.int i) j pos) (tC (.int i)):=λ_ _ _ H _ I h=>wpAny_Constant_int ⟨.int i,H,I.tok _,⟨_,rfl⟩,h⟩
theorem md {b j pos}:PE X (.Constant (.bool b) j pos) (tC (.bl b)):=λ_ _ _ H _ I h=>Constant_bool ⟨.bl b,H,I,rfl,h⟩
theorem oM {j pos}:PE X (.Constant .none j pos) (tC .non):=λ_ _ _ H _ I h=>Constant_none ⟨.non,H,I,rfl,h⟩
theorem qV {x j pos}:PE X (.Constant (.str x) j pos) (tC (.str x)):=λ_ _ _ H _ I h=>Calls.Constant_str ⟨.str x,H,I.tok _,⟨_,rfl⟩,h⟩
def Gl (X:Cx) (x:Str):Prop:=X.env.kindOf x=some .globalImplicit
theorem Ee {E:Value->Shared->Prop} {pins:List (Addr×Obj)} {s:Shared} {σ:St} {H:Hp} {x:Str} {u:Value} {pos:Pos} {Q:Value->Shared->Prop} (I:Inv X pins σ H s) (hg:Gl X x) (hm:X.mg x=some u) (h:Q u s)
  (hd:(x == ("__debug__":Str))=false:=by decide):wpAny (model X.prog X.w) X.A (eval (.Name x pos) X.env) Q E s :=
 Calls.Name_function_global I.ok.kind hg (Calls.loadGlobal_global (by rw[I.ok.glob];exact I.mod.glob.keeps I.bk) hm h) hd
theorem lQ {E:Value->Shared->Prop} {pins:List (Addr×Obj)} {s:Shared} {σ:St} {H:Hp} {x:Str} {u:Value} {pos:Pos} {Q:Value->Shared->Prop} (I:Inv X pins σ H s) (hg:Gl X x) (hm:X.mg x=none) (hv:bootBuiltins x=some u) (h:Q u s)
  (hn:x≠"__name__":=by decide) (hd:(x == ("__debug__":Str))=false:=by decide):wpAny (model X.prog X.w) X.A (eval (.Name x pos) X.env) Q E s:=by
 obtain ⟨mb,h1,h2⟩:=I.mod.blt;exact Calls.Name_function_global I.ok.kind hg (Calls.loadGlobal_builtin (by rw[I.ok.glob];exact I.mod.glob.keeps I.bk) hm (by rw[I.ok.blt];exact h1.keeps I.bk) ((h2 x hn).trans hv) h) hd
theorem kF {x:Str} {v:V} {u:Value} {pos:Pos} (hg:Gl X x) (hm:X.mg x=some u) (r:RelV v u) (hd:(x == ("__debug__":Str))=false:=by decide):PE X (.Name x pos) (tC v) :=
 λ_ _ _ H _ I h=>Ee I hg hm ⟨v,H,I,r,h⟩ hd
theorem IJ {x:Str} {v:V} {u:Value} {pos:Pos} (hg:Gl X x) (hm:X.mg x=none) (hv:bootBuiltins x=some u) (r:RelV v u) (hn:x≠"__name__":=by decide) (hd:(x == ("__debug__":Str))=false:=by decide):PE X (.Name x pos) (tC v) :=
 λ_ _ _ H _ I h=>lQ I hg hm hv ⟨v,H,I,r,h⟩ hn hd
variable {a b:Expr} {ta tb:TE} {pos:Pos}
def tB (t:TE):TT:=λσ H Q=>t σ H λx H1=>∃c,x=.bl c/\Q c H1
theorem ia {e:Expr} {t:TE} (h:PE X e t) (he:∀whole,isTrue e X.env whole=(do let v <- whole;standAt e.pos;holding [v] (truthy v)):=by intro _;rfl):PT X e (tB t):=by
 intro pins s σ H Q I hw;refine isTrue_plain (fO (h pins s σ H _ I hw) λv s1 ⟨x,H1,I1,r1,q1⟩=>?_) (he _);obtain ⟨d,rfl,q⟩:=q1;cases r1;exact wpAny_truthy_bool ⟨H1,I1,q⟩
variable {tA tB':TT} {rest:List Expr}
def Q8 (t u:TT):TT:=λσ H Q=>t σ H λc H1=>if c=true then u σ H1 Q else Q false H1
def tOr (t u:TT):TT:=λσ H Q=>t σ H λc H1=>if c=true then Q true H1 else u σ H1 Q
def Q4 (t:TT):TT:=λσ H Q=>t σ H λc H1=>Q (!c) H1
theorem jV (ha:PT X a tA):PW X (.BoolOp .And [a] pos) tA:=by
 intro wh pins s σ H Q I h;refine isTrue_and (fO (ha pins s σ H Q I h) λc s1 e=>?_);cases c with
 | true=>exact isTrue_and_nil e
 | false=>exact e
theorem jb (ha:PT X a tA):PW X (.BoolOp .Or [a] pos) tA:=by
 intro wh pins s σ H Q I h;refine isTrue_or (fO (ha pins s σ H Q I h) λc s1 e=>?_);cases c with
 | false=>exact isTrue_or_nil e
 | true=>exact e
theorem jc (ha:PT X a tA) (hb:PW X (.BoolOp .And (b :: rest) pos) tB'):PW X (.BoolOp .And (a :: b :: rest) pos) (Q8 tA tB'):=by
 intro wh pins s σ H Q I h;refine isTrue_and (fO (ha pins s σ H _ I h) λc s1 ⟨H1,I1,q1⟩=>?_);cases c with
 | true=>exact hb wh pins s1 σ H1 Q I1 q1
 | false=>exact ⟨H1,I1,q1⟩
theorem ky (ha:PT X a tA) (hb:PW X (.BoolOp .Or (b :: rest) pos) tB'):PW X (.BoolOp .Or (a :: b :: rest) pos) (tOr tA tB'):=by
 intro wh pins s σ H Q I h;refine isTrue_or (fO (ha pins s σ H _ I h) λc s1 ⟨H1,I1,q1⟩=>?_);cases c with
 | true=>exact ⟨H1,I1,q1⟩
 | false=>exact hb wh pins s1 σ H1 Q I1 q1
theorem jd (ha:PT X a tA):PT X (.UnaryOp .Not a pos) (Q4 tA):=by
 intro pins s σ H Q I h;exact isTrue_not (ha pins s σ H (λc H1=>Q (!c) H1) I h)
def OC (ta tb:TE):TE:=λσ H Q=>ta σ H λx H1=>∃c,x=.bl c/\if c=true then tb σ H1 Q else Q (.bl false) H1
def Ox (ta:TE):TE:=λσ H Q=>ta σ H λx H1=>∃c,x=.bl c/\Q (.bl (!c)) H1
theorem Hs {op} {t:TE} (h:PE X a t):PE X (.BoolOp op [a] pos) t:=λpins s σ H Q I hw=>BoolOp_one (h pins s σ H Q I hw)
theorem Hu (ha:PE X a ta) (hb:PE X (.BoolOp .And (b :: rest) pos) tb):PE X (.BoolOp .And (a :: b :: rest) pos) (OC ta tb):=by
 intro pins s σ H Q I h;refine BoolOp_and (fO (ha pins s σ H _ I h) λv s1 ⟨x,H1,I1,r1,q1⟩=>?_);obtain ⟨c,rfl,q1⟩:=q1;cases r1;refine wpAny_truthy_bool ?_;cases c with
 | true=>exact hb pins s1 σ H1 Q I1 q1
 | false=>exact ⟨.bl false,H1,I1,rfl,q1⟩
theorem Qb (ha:PE X a ta):PE X (.UnaryOp .Not a pos) (Ox ta):=by
 intro pins s σ H Q I h;refine UnaryOp_ (fO (ha pins s σ H _ I h) λv s1 ⟨x,H1,I1,r1,q1⟩=>?_);obtain ⟨c,rfl,q1⟩:=q1;cases r1;exact not_of (wpAny_truthy_bool ⟨.bl (!c),H1,I1,rfl,q1⟩)
def tIf (t:TT) (ta tb:TE):TE:=λσ H Q=>t σ H λc H1=>if c=true then ta σ H1 Q else tb σ H1 Q
theorem Lv {c:Expr} (hc:PT X c tA) (ha:PE X a ta) (hb:PE X b tb):PE X (.IfExp c a b pos) (tIf tA ta tb):=by
 intro pins s σ H Q I h;refine wpAny_IfExp (fO (hc pins s σ H _ I h) λd s1 ⟨H1,I1,q1⟩=>?_);cases d with
 | true=>exact ha pins s1 σ H1 Q I1 q1
 | false=>exact hb pins s1 σ H1 Q I1 q1
end
def bE (K:FG9) (H:Hp) (a:Addr) (xs:List V):Prop :=
 Rd H a (.lst xs) \/
  ∃(o:Obj) (its:Array Value) (n:Nat),K.lookup a=some o/\o.cls=.type "list"/\o.dict=none/\o.data=.seq its n/\its.size<=sizeLine/\cZ xs its.toList
def nY (K:FG9) (H:Hp) (a:Addr) (xs:List V):Prop :=
 Rd H a (.tup xs) \/
  ∃(o:Obj) (its:Array Value) (n:Nat),K.lookup a=some o/\o.cls=.type "tuple"/\o.data=.seq its n/\its.size<=sizeLine/\cZ xs its.toList
def Ta:Value->Option V
 | .none=>some .non
 | .bool b=>some (.bl b)
 | .int i _=>some (.int i)
 | .str x _=>some (.str x)
 | .bytes b _=>some (.byt b)
 | .float b _=>some (.flt b)
 | .ref a=>some (.ref a)
 | .type n=>some (.ty n)
 | _=>none
theorem RelV.abs {x:V} {u:Value} (r:RelV x u):Ta u=some x:=by
 cases x with
 | non=>cases r;rfl
 | bl _=>cases r;rfl
 | int _=>obtain ⟨t,rfl⟩:=r;rfl
 | str _=>obtain ⟨t,rfl⟩:=r;rfl
 | byt _=>obtain ⟨t,rfl⟩:=r;rfl
 | flt _=>obtain ⟨t,rfl⟩:=r;rfl
 | ref _=>cases r;rfl
 | ty _=>cases r;rfl
theorem RelV.inj {x y:V} {u:Value} (r:RelV x u) (q:RelV y u):x=y:=bU (r.abs.symm.trans q.abs)
theorem cZ.inj:∀{xs ys:List V} {us:List Value},cZ xs us->cZ ys us->xs=ys
 | _,_,_,.nil,.nil=>rfl
 | _,_,_,.cons r t,.cons r' t'=>by rw[r.inj r',cZ.inj t t']
section
variable {X:Cx} {pins:List (Addr×Obj)} {σ:St} {H:Hp} {s:Shared} {a:Addr} {xs ys:List V}
theorem bE.of {K:FG9} (h:H a=some (.lst xs)):bE K H a xs:=.inl (.inl h)
theorem nY.of {K:FG9} (h:H a=some (.tup xs)):nY K H a xs:=.inl (.inl h)
theorem Inv.list (I:Inv X pins σ H s) (h:bE X.K H a xs):∃its:List Value,cZ xs its/\PlainL s.heap a its.toArray/\xs.length<=sizeLine:=by
 rcases h with h | ⟨o,its,n,hk,hc,hd,hs,hz,r⟩
 ·obtain ⟨z,its,n,r,e⟩:=h.ok I.hok;exact ⟨its,r,⟨_,n,e,rfl,rfl,rfl⟩,z⟩
 ·refine ⟨its.toList,r,⟨o,n,I.kIn a o hk,hc,hd,by simpa using hs⟩,?_⟩;have e:=r.length;simp only[Array.length_toList] at e
  lia
theorem Inv.tuple (I:Inv X pins σ H s) (h:nY X.K H a xs):∃its:List Value,cZ xs its/\IsTup s.heap a its.toArray/\xs.length<=sizeLine:=by
 rcases h with h | ⟨o,its,n,hk,hc,hs,hz,r⟩
 ·obtain ⟨z,its,r,p⟩:=h.ok I.hok;exact ⟨its,r,p,z⟩
 ·refine ⟨its.toList,r,⟨o,I.kIn a o hk,hc,n,by simpa using hs⟩,?_⟩;have e:=r.length;simp only[Array.length_toList] at e
  lia
theorem Inv.list_inj (I:Inv X pins σ H s) (h:bE X.K H a xs) (h':bE X.K H a ys):xs=ys:=by
 obtain ⟨its,r,⟨o,n,e,_,_,d⟩,_⟩:=I.list h;obtain ⟨its',r',⟨o',n',e',_,_,d'⟩,_⟩:=I.list h';rw[e] at e';cases e';rw[d] at d';injection d' with d1 _
 have:its=its':=by simpa using congrArg Array.toList d1
 subst this;exact r.inj r'
theorem Inv.tuple_inj (I:Inv X pins σ H s) (h:nY X.K H a xs) (h':nY X.K H a ys):xs=ys:=by
 obtain ⟨its,r,⟨o,e,_,n,d⟩,_⟩:=I.tuple h;obtain ⟨its',r',⟨o',e',_,n',d'⟩,_⟩:=I.tuple h';rw[e] at e';cases e';rw[d] at d';injection d' with d1 _
 have:its=its':=by simpa using congrArg Array.toList d1
 subst this;exact r.inj r'
end
abbrev Cx.wish (X:Cx) (E:Value->Shared->Prop):Cx:={ X with xe:=E }
abbrev Cx.nox (X:Cx):Cx:=X.wish λ_ _=>False
theorem Cx.Ok.wish {X:Cx} (ok:X.Ok) (E:Value->Shared->Prop):(X.wish E).Ok :=
 ⟨ok.mod,ok.kind,ok.glob,ok.blt,ok.above,ok.inj,ok.has,ok.cab,ok.hd,ok.frames,ok.stk,ok.exf,ok.bs,ok.bsz,ok.noex,ok.exfs,ok.funs,ok.frf⟩
theorem Cx.Ok.unwish {X:Cx} {E:Value->Shared->Prop} (ok:(X.wish E).Ok):X.Ok :=
 ⟨ok.mod,ok.kind,ok.glob,ok.blt,ok.above,ok.inj,ok.has,ok.cab,ok.hd,ok.frames,ok.stk,ok.exf,ok.bs,ok.bsz,ok.noex,ok.exfs,ok.funs,ok.frf⟩
section
variable {X:Cx} {pins:List (Addr×Obj)} {σ:St} {H:Hp} {s:Shared} {E:Value->Shared->Prop}
theorem Inv.wish (I:Inv X pins σ H s) (E:Value->Shared->Prop):Inv (X.wish E) pins σ H s:=⟨I.ok.wish E,I.os,I.bare,I.base,I.loc,I.cell,I.free,I.freeC,I.pin,I.hok,I.len⟩
theorem Inv.unwish (I:Inv (X.wish E) pins σ H s):Inv X pins σ H s:=⟨I.ok.unwish,I.os,I.bare,I.base,I.loc,I.cell,I.free,I.freeC,I.pin,I.hok,I.len⟩
theorem SP.unwish {D:Ends} {f:Flow} {s':Shared} (h:SP (X.wish E) pins D f s'):SP X pins D f s':=by
 cases f with
 | next=>obtain ⟨σ',H',I,q⟩:=h;exact ⟨σ',H',I.unwish,q⟩
 | brk=>obtain ⟨σ',H',I,q⟩:=h;exact ⟨σ',H',I.unwish,q⟩
 | cont=>obtain ⟨σ',H',I,q⟩:=h;exact ⟨σ',H',I.unwish,q⟩
 | ret u=>obtain ⟨v,σ',H',I,r,q⟩:=h;exact ⟨v,σ',H',I.unwish,r,q⟩
theorem Ik.nox {st:List Stmt} {t:TS} (h:Ik X.nox st t):Ik X st t:=λpins s σ H D I hw =>
 wpAny_mono (h pins s σ H D (I.wish _) hw) (λ_ _ q=>q.unwish) λ_ _ z=>False.elim z
end
section
variable {X:Cx} {st:Stmt} {rest:List Stmt} {t u:TS} {e:Expr} {te:TE} {pos:Pos}
def Oy:TS:=λD σ H=>D.nx σ H
def Q0 (t u:TS):TS:=λD σ H=>t { D with nx:=u D } σ H
theorem bQ:Ik X [] Oy:=λ_ _ σ H _ I h=>wpAny_execs_nil ⟨σ,H,I,h⟩
theorem ar (h1:PS X st t) (h2:Ik X rest u):Ik X (st :: rest) (Q0 t u):=by
 intro pins s σ H D I h;refine wpAny_execs_cons (fO (h1 pins s σ H { D with nx:=u D } I h) λf s1 q=>?_);cases f with
 | next =>
  obtain ⟨σ',H',I',q⟩:=q;exact h2 pins s1 σ' H' D I' q
 | ret v=>exact q
 | brk=>exact q
 | cont=>exact q
theorem ay (h1:PS X st t):Ik X [st] t:=by
 intro pins s σ H D I h;refine wpAny_execs_cons (fO (h1 pins s σ H D I h) λf s1 q=>?_);cases f with
 | next=>exact wpAny_execs_nil q
 | ret v=>exact q
 | brk=>exact q
 | cont=>exact q
theorem Inv.quiet {pins:List (Addr×Obj)} {σ:St} {H:Hp} {s:Shared} (I:Inv X pins σ H s):interactive X.env=false:=by simp [interactive,I.ok.kind]
def OA (te:TE):TS:=λD σ H=>te σ H λ_ H1=>D.nx σ H1
theorem eO (he:PE X e te) (hs:swapsWith e none pos.line X.env=pure false:=by rfl):PS X (.Expr e pos) (OA te):=by
 intro pins s σ H D I h;exact wpAny_Expr_any (fO (he pins s σ H _ I h) λv s1 ⟨x,H1,I1,r1,q1⟩=>⟨σ,H1,I1,q1⟩) I.quiet hs
def Q1 (te:TE):TS:=λD σ H=>te σ H D.rt
theorem aN (he:PE X e te):PS X (.Return (some e) pos) (Q1 te):=by
 intro pins s σ H D I h;exact wpAny_Return_some (fO (he pins s σ H _ I h) λv s1 ⟨x,H1,I1,r1,q1⟩=>⟨x,σ,H1,I1,r1,q1⟩)
def Q6 (c:TT) (t u:TS):TS:=λD σ H=>c σ H λb H1=>if b=true then t D σ H1 else u D σ H1
theorem cY {c:Expr} {a b:List Stmt} {tc:TT} (hc:PT X c tc) (ha:Ik X a t) (hb:Ik X b u):PS X (.If c a b pos) (Q6 tc t u):=by
 intro pins s σ H D I h;refine wpAny_If (fO (hc pins s σ H _ I h) λd s1 ⟨H1,I1,q1⟩=>?_);cases d with
 | true=>exact ha pins s1 σ H1 D I1 q1
 | false=>exact hb pins s1 σ H1 D I1 q1
end
abbrev TG:=V->St->Hp->(St->Hp->Prop)->Prop
abbrev ML:=List V->St->Hp->(St->Hp->Prop)->Prop
def PG (X:Cx) (target:Expr) (t:TG):Prop :=
 ∀(pins:List (Addr×Obj)) (s:Shared) (σ:St) (H:Hp) (v:V) (u:Value) (Q:St->Hp->Prop),Inv X pins σ H s->RelV v u->t v σ H Q →
  wpAny (model X.prog X.w) X.A (assign target X.env u) (λ_ s'=>∃σ' H',Inv X pins σ' H' s'/\Q σ' H') X.xe s
def Sl (X:Cx) (ts:List Expr) (t:ML):Prop :=
 ∀(pins:List (Addr×Obj)) (s:Shared) (σ:St) (H:Hp) (vs:List V) (us:List Value) (Q:St->Hp->Prop),Inv X pins σ H s->cZ vs us->t vs σ H Q →
  wpAny (model X.prog X.w) X.A (assignInOrder ((assignEach ts X.env).map (·.2)) us) (λ_ s'=>∃σ' H',Inv X pins σ' H' s'/\Q σ' H') X.xe s
abbrev Ih:=V->V->V->Hp->(Hp->Prop)->Prop
def QF (X:Cx) (t:Ih):Prop :=
 ∀(pins:List (Addr×Obj)) (s:Shared) (σ:St) (H:Hp) (o i v:V) (ov iv u:Value) (Q:Hp->Prop),Inv X pins σ H s->RelV o ov->RelV i iv->RelV v u->t o i v H Q →
  wpAny (model X.prog X.w) X.A (setItem ov iv u) (λ_ s'=>∃H',Inv X pins σ H' s'/\Q H') X.xe s
abbrev Sj:=V->V->Hp->VK->Prop
def PIp (X:Cx) (op:Operator) (t:Sj):Prop :=
 ∀(pins:List (Addr×Obj)) (s:Shared) (σ:St) (H:Hp) (x y:V) (v u:Value) (Q:VK),Inv X pins σ H s->RelV x v->RelV y u->t x y H Q →
  wpAny (model X.prog X.w) X.A (inplaceOp op v u) (EP X pins σ Q) X.xe s
section
variable {X:Cx} {pos:Pos}
def IZ (i:Nat):TG:=λv σ H Q=>Q (σ.set i (some v)) H
theorem aK {i:Nat} {x:Str} (hN:X.N.Nodup) (hi:X.N[i]?=some x:=by exact rfl) (hx:Loc X.env.scope x:=by exact Or.inl rfl) (hf:X.fn x=true\/X.env.scope.names.lookup x=some .local:=by first | exact .inl rfl | exact .inr rfl | assumption):PG X (.Name x pos) (IZ i):=by
 intro pins s σ H v u Q I r h;exact wpAny_assign_Name (uF I hN hi hx r (λs' I'=>⟨_,H,I',h⟩) hf)
def Sd:ML:=λvs σ H Q=>vs=[]/\Q σ H
def OT (t:TG) (u:ML):ML:=λvs σ H Q=>∃v r,vs=v :: r/\t v σ H λσ' H'=>u r σ' H' Q
theorem eQ:Sl X [] Sd:=by
 intro pins s σ H vs us Q I r h;obtain ⟨e,h⟩:=h;subst e;cases r;exact assignInOrder_nil ⟨σ,H,I,h⟩
theorem bX {e:Expr} {es:List Expr} {t:TG} {u:ML} (h1:PG X e t) (h2:Sl X es u)
  (hs:(assignEach (e :: es) X.env).map (·.2)=assign e X.env :: (assignEach es X.env).map (·.2):=by rfl):Sl X (e :: es) (OT t u):=by
 intro pins s σ H vs us Q I r h;obtain ⟨v,vr,e1,h⟩:=h;subst e1;cases r with
 | cons r rr =>
  rw[hs];refine assignInOrder_cons (fO (h1 pins s σ H _ _ _ I r h) λ_ s1 ⟨σ1,H1,I1,q1⟩=>?_);exact h2 pins s1 σ1 H1 _ _ Q I1 rr q1
def Qu (K:FG9) (n:Nat) (t:ML):TG:=λv σ H Q=>∃a xs,v=.ref a/\nY K H a xs/\xs.length=n/\t xs σ H Q
theorem mS {es:List Expr} {k:Nat} {t:ML} {n:Nat} (hc:X.calm=true) (h:Sl X es t)
  (hn:(assignEach es X.env).length=n:=by rfl) (hst:(assignEach es X.env).findIdx? (·.1)=none:=by rfl):PG X (.Tuple es k pos) (Qu X.K n t):=by
 intro pins s σ H v u Q I r hw;obtain ⟨a,xs,e1,hq,hl,hw⟩:=hw;subst e1;cases r;obtain ⟨its,rv,ht,hz⟩:=I.tuple hq;refine assign_Tuple_tuple (I.ok.hd hc) ht (by simp [hn,<- hl,rv.length]) hst λh' hx=>?_
 have I1:Inv X pins σ H { s with heap:=h' }:=I.kept (t':=s.toks) λb o e=>hx b o (cQ (Heap.lt_size e)) e
 exact h pins _ σ H xs _ Q I1 (by simpa using rv) hw
def Sb (to ti:TE) (t:Ih):TG:=λv σ H Q=>to σ H λo H1=>ti σ H1 λi H2=>t o i v H2 λH3=>Q σ H3
theorem gK {o i : Expr} {to ti : TE} {t : Ih} (ho : PE X o to) (hi : PE X i ti) (hs : QF X t)
    (ha : ∀ v, assign (.Subscript o i pos) X.env v = (do
      let ov <- holding [v] (eval o X.env)
      let iv <- holding [v, ov] (eval i X.env)
      standAt pos
      holding [v, ov, iv] (setItem ov iv v)
      release [v, ov, iv] []) := by intro _; rfl) : PG X (.Subscript o i pos) (Sb to ti t) := by
  intro pins s σ H v u Q I r h;rw [ha];refine wpAny_bind (wpAny_holding (fO (ho pins s σ H _ I h) λov s1 ⟨x, H1, I1, r1, q1⟩ => ?_));refine wpAny_bind (wpAny_holding (fO (hi pins s1 σ H1 _ I1 q1) λiv s2 ⟨y, H2, I2, r2, q2⟩ => ?_));refine wpAny_bind (wpAny_standAt (wpAny_bind (wpAny_holding (fO (hs pins s2 σ H2 x y v ov iv u _ I2 r1 r2 r q2) λ_ s3 ⟨H3, I3, q3⟩ => ?_))));exact wpAny_release ⟨σ, H3, I3, q3⟩
def M7 (te:TE) (g:TG):TS:=λD σ H=>te σ H λx H1=>g x σ H1 D.nx
theorem eI {tg e:Expr} {te:TE} {g:TG} (he:PE X e te) (hg:PG X tg g) (hs:swapsWithSole [tg] e pos.line X.env=pure false:=by rfl) (hw:swappedStores [tg] e X.env=pure none:=by rfl)
  (h1:(assignEach [tg] X.env).map (·.2)=[assign tg X.env]:=by rfl):PS X (.Assign [tg] e pos) (M7 te g):=by
 intro pins s σ H D I h;refine wpAny_Assign_stores (fO (he pins s σ H _ I h) λv s1 ⟨x,H1,I1,r1,q1⟩=>?_) hs hw;rw[h1];exact fO (hg pins s1 σ H1 x v _ I1 r1 q1) λ_ s2 q=>q
theorem a9 {i:Nat} {x:Str} {e:Expr} {te:TE} {pos':Pos} (hN:X.N.Nodup) (hi:X.N[i]?=some x) (hx:Loc X.env.scope x) (he:PE X e te) (hs:swapsWith e (some (.Name x pos')) pos.line X.env=pure false:=by rfl) (hf:X.fn x=true\/X.env.scope.names.lookup x=some .local:=by first | exact .inl rfl | exact .inr rfl | assumption) :
  PS X (.Assign [.Name x pos'] e pos) (M7 te (IZ i)):=by
 intro pins s σ H D I h;refine wpAny_Assign_Name (fO (he pins s σ H _ I h) λv s1 ⟨y,H1,I1,r1,q1⟩=>?_) hs;exact uF I1 hN hi hx r1 (λs2 I2=>⟨_,H1,I2,q1⟩) hf
def Q2 (i j:Nat) (ta:TA):TS:=λD σ H=>ta σ H λvs H1=>∃v w,vs=[v,w]/\D.nx ((σ.set i (some v)).set j (some w)) H1
theorem Lq {i j:Nat} {x y:Str} {a b:Expr} {ta:TA} {px py pt:Pos} {kt k2 pt2} (hc:X.calm=true) (hN:X.N.Nodup) (hi:X.N[i]?=some x) (hj:X.N[j]?=some y) (hij:i≠j)
  (hx:X.env.scope.names.lookup x=some .local) (hy:X.env.scope.names.lookup y=some .local) (ha:PA X [a,b] ta)
  (hw:swappedStores [.Tuple [.Name x px,.Name y py] kt pt] (.Tuple [a,b] k2 pt2) X.env=pure (some [x,y]))
  (hs:swapsWithSole [.Tuple [.Name x px,.Name y py] kt pt] (.Tuple [a,b] k2 pt2) pos.line X.env=pure false:=by rfl) :
  PS X (.Assign [.Tuple [.Name x px,.Name y py] kt pt] (.Tuple [a,b] k2 pt2) pos) (Q2 i j ta):=by
 intro pins s σ H D I h;rw[exec_Assign_arm];refine wpAny_bind (wpAny_standAt ?_);rw[hs];refine wpAny_bind (wpAny_pure ?_);rw[if_neg (by decide)];refine wpAny_bind (Tuple_ (fO (ha _ pins s σ H _ I h) λus s1 ⟨vs,H1,I1,r1,q1⟩=>?_));obtain ⟨v,w,e1,q1⟩:=q1;subst e1
 obtain ⟨u1,u2,rfl,rv,rw'⟩:∃u1 u2,us=[u1,u2]/\RelV v u1/\RelV w u2:=by
  cases r1 with
  | cons p q =>
   cases q with
   | cons p' q' =>
    cases q';exact ⟨_,_,rfl,p,p'⟩
 refine wpAny_newObj_type ?_ (by show 2<=sizeLine;decide);have I2:Inv X pins σ H1 { s1 with heap:=s1.heap.push { cls:=.type "tuple",data:=.seq [u1,u2].toArray } }:=I1.kept (t':=s1.toks) λb o e=>Heap.get?_push_of_some _ e
 rw[hw];refine wpAny_bind (wpAny_pure ?_);show wpAny (model X.prog X.w) X.A (do rule "assign.swapped-stores";let items <- unpackItems (.ref s1.heap.objs.size) 2 none;assignInOrder [λv=>bindName X.env y v,λv=>bindName X.env x v] items.reverse;pure Flow.next) _ _ _
 refine wpAny_bind (wpAny_rule (wpAny_bind (unpackItems_tuple (items:=#[u1,u2]) (I.ok.hd hc) (IsTup.new s1.heap _) λh' hx'=>?_)));have I3:=I2.kept (h':=h') (t':=s1.toks) λb o e=>hx' b o (cQ (Heap.lt_size e)) e
 show wpAny _ _ (assignInOrder [λv=>bindName X.env y v,λv=>bindName X.env x v] [u2,u1] >>= λ_=>pure Flow.next) _ _ _
 refine wpAny_bind (assignInOrder_cons (wpAny_bindName (uF I3 hN hj (.inl hy) rw' (λs2 I4=>?_) (.inr hy))));refine assignInOrder_cons (wpAny_bindName (uF I4 hN hi (.inl hx) rv (λs3 I5=>assignInOrder_nil (wpAny_pure ?_)) (.inr hx)));rw[List.set_comm _ _ (Ne.symm hij)] at I5;exact ⟨_,H1,I5,q1⟩
def OB (to ti te:TE) (tget:V->V->Hp->VK->Prop) (tip:Sj) (tset:Ih):TS:=λD σ H=>to σ H λo H1=>ti σ H1 λi H2=>tget o i H2 λx H3=>te σ H3 λy H4=>tip x y H4 λz H5=>tset o i z H5 λH6=>D.nx σ H6
def Sm (X:Cx) (t:V->V->Hp->VK->Prop):Prop :=
 ∀(pins:List (Addr×Obj)) (s:Shared) (σ:St) (H:Hp) (o i:V) (ov iv:Value) (Q:VK),Inv X pins σ H s->RelV o ov->RelV i iv->t o i H Q →
  wpAny (model X.prog X.w) X.A (getItem ov iv) (EP X pins σ Q) X.xe s
theorem NS {o i e:Expr} {to ti te:TE} {tget:V->V->Hp->VK->Prop} {tip:Sj} {tset:Ih} {op:Operator} {tpos:Pos} (ho:PE X o to) (hi:PE X i ti) (hg:Sm X tget) (he:PE X e te) (hp:PIp X op tip) (hs:QF X tset)
  (ha:∀ov iv new,augStore i ov iv new=(do holding [new,ov,iv] (setItem ov iv new);release [new,ov,iv] [];pure .next):=by intros;rfl):PS X (.AugAssign (.Subscript o i tpos) op e pos) (OB to ti te tget tip tset):=by
 intro pins s σ H D I h;refine wpAny_AugAssign_SubscriptAny (fO (ho pins s σ H _ I h) λov s1 ⟨x1,H1,I1,r1,q1⟩=>?_) ha;refine fO (hi pins s1 σ H1 _ I1 q1) λiv s2 ⟨x2,H2,I2,r2,q2⟩=>?_
 refine fO (hg pins s2 σ H2 x1 x2 ov iv _ I2 r1 r2 q2) λold s3 ⟨x3,H3,I3,r3,q3⟩=>?_
 refine fO (he pins s3 σ H3 _ I3 q3) λv s4 ⟨x4,H4,I4,r4,q4⟩=>?_
 refine fO (hp pins s4 σ H4 x3 x4 old v _ I4 r3 r4 q4) λnew s5 ⟨x5,H5,I5,r5,q5⟩=>?_
 exact fO (hs pins s5 σ H5 x1 x2 x5 ov iv new _ I5 r1 r2 r5 q5) λ_ s6 ⟨H6,I6,q6⟩=>⟨σ,H6,I6,q6⟩
def ipI (f:Int->Int->Int):Sj:=λx y H Q=>∃i j,x=.int i/\y=.int j/\Q (.int (f i j)) H
theorem Qp:PIp X .Add (ipI λi j=>i+j):=by
 intro pins s σ H x y v u Q I r1 r2 h;obtain ⟨i,j,e1,e2,q⟩:=h;subst e1;subst e2;obtain ⟨t,rfl⟩:=r1;obtain ⟨t',rfl⟩:=r2;exact iadd_int ⟨.int _,H,I.tok _,⟨_,rfl⟩,q⟩
end
section
variable {X:Cx} {pos:Pos}
def KU (c:TT) (tb:TS):TS:=λD σ H=>∃W:Nat->St->Hp->Prop,(∃m,W m σ H)/\∀m σ H,W m σ H →
 c σ H λb H1=>if b=true then ∃N:St->Hp->Prop,(∀σ' H',N σ' H'->∃m',m' < m/\W m' σ' H')/\tb { D with nx:=N,ct:=N,bk:=D.nx } σ H1 else D.nx σ H1
theorem z5 {c:Expr} {body:List Stmt} {tc:TT} {tb:TS} (hp:PassesOwn (model X.prog X.w) X.A X.env X.xe) (hc:PT X c tc) (hb:Ik X body tb):PS X (.While c body [] pos) (KU tc tb):=by
 intro pins s σ H D I h;obtain ⟨W,⟨m0,w0⟩,turn⟩:=h;refine wpAny_While (codeAny_whileLoop (λn s'=>∃σ' H',Inv X pins σ' H' s'/\W n σ' H') ?_ m0 ⟨σ,H,I,w0⟩);rintro n s1 ⟨σ1,H1,I1,w1⟩;refine wpAny_passesOwn hp (fO (hc pins s1 σ1 H1 _ I1 (turn n σ1 H1 w1)) λb s2 ⟨H2,I2,q2⟩=>?_);cases b with
 | true =>
  obtain ⟨N,hN,q2⟩:=q2;rw[if_pos rfl];refine wpAny_passesOwn hp (fO (hb pins s2 σ1 H2 _ I2 q2) λf s3 q3=>?_);cases f with
  | next =>
   obtain ⟨σ3,H3,I3,n3⟩:=q3;obtain ⟨m',hm,w3⟩:=hN σ3 H3 n3;exact ⟨m',hm,σ3,H3,I3,w3⟩
  | cont =>
   obtain ⟨σ3,H3,I3,n3⟩:=q3;obtain ⟨m',hm,w3⟩:=hN σ3 H3 n3;exact ⟨m',hm,σ3,H3,I3,w3⟩
  | brk=>exact q3
  | ret v=>exact q3
 | false =>
  rw[if_neg bw];exact wpAny_execs_nil ⟨σ1,H2,I2,q2⟩
end
structure It where
 go:Nat->Hp->Prop
 yld:Nat->Hp->V->Hp->Prop
 stop:Nat->Hp->Prop
def jT (X:Cx) (pins:List (Addr×Obj)) (H:Hp) (b:Addr):Prop :=
 H b=none/\b≠X.env.locals/\b∉X.fs/\(b∈X.ex\/X.s₀.heap.objs.size<=b)/\(∀x c,X.env.cells.lookup x=some c->c≠b)/\∀p∈X.pn++pins,p.1≠b
theorem Inv.fpOk {X:Cx} {pins:List (Addr×Obj)} {σ:St} {H H':Hp} {s:Shared} {b:Addr} (I:Inv X pins σ H s) (hb:s.heap.objs.size<=b) (hn:H' b=none):jT X pins H' b:=by
 refine ⟨hn,Jy (bD I.lt hb),I.nofs hb,.inr (ai I.sz hb),λx c e z=>?_,λp hp z=>?_⟩
 ·obtain ⟨v,q⟩:=I.cell x c e;exact absurd (bD q.lt (by rw[z];exact hb)) (dr _)
 ·exact absurd (bD (Heap.lt_size (I.pin p hp).1) (by rw[z];exact hb)) (dr _)
structure Turn (P:Program) (w:World) (K:FG9) (tg:Expr) (J:It) (fp:List Addr) (it:Addr) (tn:Nat->Heap->Prop):Prop where
 mem:it∈fp
 obj:∀i h,tn i h->∀b∈fp,∃o,h.get? b=some o/\∀v,o.data≠.cell v
 keep:∀i h h',tn i h->(∀b∈fp,∀o,h.get? b=some o->h'.get? b=some o)->tn i h'
 item:∀(X:Cx),X.prog=P->X.w=w->X.K=K->X.calm=true->∀(i:Nat) (pins:List (Addr×Obj)) (s:Shared) (σ:St) (H:Hp) (E:Value->Shared->Prop),Inv X pins σ H s->(∀b∈fp,jT X pins H b)->tn i s.heap->J.go i H →
  wpAny (model P w) X.A (pyNext (.ref it)) (λr s1=>∃u,r=some u /\
   wpAny (model P w) X.A (letOwnedTupleGo tg (.ref it) u) (λ_ s2=>∃x H',Inv X pins σ H' s2/\RelV x u/\J.yld i H x H'/\tn (i+1) s2.heap/\∀b∈fp,H' b=none) E s1) E s
 done:∀(X:Cx),X.prog=P->X.w=w->X.K=K->X.calm=true->∀(i:Nat) (pins:List (Addr×Obj)) (s:Shared) (σ:St) (H:Hp) (E:Value->Shared->Prop),Inv X pins σ H s->(∀b∈fp,jT X pins H b)->tn i s.heap->J.stop i H →
  wpAny (model P w) X.A (pyNext (.ref it)) (λr s1=>r=none/\Inv X pins σ H s1) E s
 self:∀(A:Around) (i:Nat) (s:Shared) (Q:Value->Shared->Prop) (E:Value->Shared->Prop),tn i s.heap->Q (.ref it) s->wpAny (model P w) A (pyIter (.ref it)) Q E s
abbrev TI:=St->Hp->(It->Hp->Prop)->Prop
def PIE (X:Cx) (pins:List (Addr×Obj)) (σ:St) (tg:Expr) (R:It->Hp->Prop) (itv:Value) (s2:Shared):Prop :=
 ∃(it:Addr) (fp:List Addr) (tn:Nat->Heap->Prop) (J:It) (H':Hp),itv=.ref it/\Inv X pins σ H' s2/\Turn X.prog X.w X.K tg J fp it tn/\tn 0 s2.heap/\(∀b∈fp,jT X pins H' b)/\R J H'
def PI (X:Cx) (tg iter:Expr) (wi:TI):Prop :=
 ∀(pins:List (Addr×Obj)) (s:Shared) (σ:St) (H:Hp) (R:It->Hp->Prop),Inv X pins σ H s->wi σ H R →
  wpAny (model X.prog X.w) X.A (eval iter X.env) (λv s1=>wpAny (model X.prog X.w) X.A (pyIter v) (PIE X pins σ tg R) X.xe s1) X.xe s
theorem L8 {M:Model} {A:Around} {E:Value->Shared->Prop} {s:Shared} {tg:Expr} {it:Addr} {u:Value} {o:Obj} {n:String} {vs:Array Value} {Q:Unit->Shared->Prop} (ho:s.heap.get? it=some o) (hc:o.cls=.type n) (hd:o.data=.fields vs)
  (hn:["enumerate","zip","dict_itemiterator","dict_reverseitemiterator","odict_iterator","itertools.zip_longest","itertools.pairwise"].contains n=false) (hQ:Q () s):wpAny M A (letOwnedTupleGo tg (.ref it) u) Q E s:=by
 unfold letOwnedTupleGo
 cases tg <;> first
  | exact wpAny_pure hQ
  | (cases u <;> first | exact wpAny_pure hQ | (refine wpAny_bind (wpAny_load ho ?_);rw[hc,hd];show wpAny M A (if (["enumerate","zip","dict_itemiterator","dict_reverseitemiterator","odict_iterator","itertools.zip_longest","itertools.pairwise"].contains n && vs[0]? == some (rawInt _))=true then _ else _) Q E s;rw[if_neg (by intro h;rw[hn,Bool.false_and] at h;cases h)];exact wpAny_pure hQ))
def O6 (K:FG9) (a:Addr):It :=
 ⟨λi H=>∃xs x,bE K H a xs/\xs[i]?=some x,λi H x H'=>H'=H/\∀xs,bE K H a xs->xs[i]?=some x,λi H=>∃xs,bE K H a xs/\xs.length<=i⟩
def QP (K:FG9) (a:Addr):It :=
 ⟨λi H=>∃xs x,nY K H a xs/\xs[i]?=some x,λi H x H'=>H'=H/\∀xs,nY K H a xs->xs[i]?=some x,λi H=>∃xs,nY K H a xs/\xs.length<=i⟩
def F5 (lo:Int) (n:Nat):It:=⟨λi _=>i < n,λi H x H'=>H'=H/\x=.int (lo+i),λi _=>n<=i⟩
theorem JC {P:Program} {w:World} {K:FG9} {tg:Expr} (a it:Addr):Turn P w K tg (O6 K a) [it] it (λi h=>h.IsListIter it a i) where
 mem:=by simp
 obj:=λi h st b hb=>by
  have e:b=it:=by simpa using hb
  subst e;obtain ⟨o,e,c,d⟩:=st;exact ⟨o,e,λv z=>by rw[d] at z;cases z⟩
 keep:=λi h h' st k=>st.at λo e=>k it (by simp) o e
 item:=by
  intro X hP hw hK hc i pins s σ H E I hf st hg;subst hP hw hK;obtain ⟨xs,x,hq,hx⟩:=hg;obtain ⟨its,rv,p,hz⟩:=I.list hq;obtain ⟨u,hu,ru⟩:=rv.get hx;obtain ⟨f0,f1,f2,f3,f4,f5⟩:=hf it (by simp);refine wpAny_pyNext_list_item st p.isList (x:=u) (by simpa using hu) λh' st' sb=>?_
  have I1:Inv X pins σ H { s with heap:=h' }:=I.turned (t':=s.toks) (λb o hb e=>(sb.2 b hb).trans e) f0 f1 f3 f4 f5;obtain ⟨o,e,c,d⟩:=id st';exact ⟨u,rfl,L8 (s:={ s with heap:=h' }) e c d (by decide) ⟨x,H,I1,ru,⟨rfl,λys hy=>by rw[I.list_inj hy hq];exact hx⟩,st',λb hb=>(hf b hb).1⟩⟩
 done:=by
  intro X hP hw hK hc i pins s σ H E I hf st hg;subst hP hw hK;obtain ⟨xs,hq,hx⟩:=hg;obtain ⟨its,rv,p,hz⟩:=I.list hq;obtain ⟨f0,f1,f2,f3,f4,f5⟩:=hf it (by simp);have hl:=rv.length;exact wpAny_pyNext_list_end (I.ok.hd hc) st p.isList (by simp;lia) λh' eb=>⟨rfl,I.turned (t':=s.toks) (λb o hb e=>eb b o hb e) f0 f1 f3 f4 f5⟩
 self:=λ_ _ _ _ _ st h=>wpAny_pyIter_listiter st h
theorem GH {P:Program} {w:World} {K:FG9} {tg:Expr} (a it:Addr):Turn P w K tg (QP K a) [it] it (λi h=>h.IsTupleIter it a i) where
 mem:=by simp
 obj:=λi h st b hb=>by
  have e:b=it:=by simpa using hb
  subst e;obtain ⟨o,e,c,d⟩:=st;exact ⟨o,e,λv z=>by rw[d] at z;cases z⟩
 keep:=λi h h' st k=>st.at λo e=>k it (by simp) o e
 item:=by
  intro X hP hw hK hc i pins s σ H E I hf st hg;subst hP hw hK;obtain ⟨xs,x,hq,hx⟩:=hg;obtain ⟨its,rv,p,hz⟩:=I.tuple hq;obtain ⟨u,hu,ru⟩:=rv.get hx;obtain ⟨f0,f1,f2,f3,f4,f5⟩:=hf it (by simp);refine wpAny_pyNext_tuple_item st (show s.heap.IsTuple a its.toArray from p) (x:=u) (by simpa using hu) λh' st' sb=>?_
  have I1:Inv X pins σ H { s with heap:=h' }:=I.turned (t':=s.toks) (λb o hb e=>(sb.2 b hb).trans e) f0 f1 f3 f4 f5;obtain ⟨o,e,c,d⟩:=id st';exact ⟨u,rfl,L8 (s:={ s with heap:=h' }) e c d (by decide) ⟨x,H,I1,ru,⟨rfl,λys hy=>by rw[I.tuple_inj hy hq];exact hx⟩,st',λb hb=>(hf b hb).1⟩⟩
 done:=by
  intro X hP hw hK hc i pins s σ H E I hf st hg;subst hP hw hK;obtain ⟨xs,hq,hx⟩:=hg;obtain ⟨its,rv,p,hz⟩:=I.tuple hq;obtain ⟨f0,f1,f2,f3,f4,f5⟩:=hf it (by simp);have hl:=rv.length;exact wpAny_pyNext_tuple_end (I.ok.hd hc) st (show s.heap.IsTuple a its.toArray from p) (by simp;lia) λh' eb=>⟨rfl,I.turned (t':=s.toks) (λb o hb e=>eb b o hb e) f0 f1 f3 f4 f5⟩
 self:=λ_ _ _ _ _ st h=>wpAny_pyIter_tupleiter st h
theorem GI {P:Program} {w:World} {K:FG9} {tg:Expr} (it:Addr) (lo:Int) (n:Nat):Turn P w K tg (F5 lo n) [it] it (λi h=>IsRangeIter h it (lo+(i:Nat)*1) ((n:Int) - (i:Nat)) 1) where
 mem:=by simp
 obj:=λi h st b hb=>by
  have e:b=it:=by simpa using hb
  subst e
  exact ⟨_,st,λv z=>by
   have z':Data.fields _=Data.cell v:=z;cases z'⟩
 keep:=λi h h' st k=>k it (by simp) _ st
 item:=by
  intro X hP hw hK hc i pins s σ H E I hf st hg;subst hP hw hK;obtain ⟨f0,f1,f2,f3,f4,f5⟩:=hf it (by simp);have W:=Walks.range (prog:=X.prog) (w:=X.w) (I.ok.hd hc) it lo 1 n;refine W.item i s _ _ hg st λv h' tk hv st' kk=>?_
  obtain ⟨t,rfl⟩:=hv;have I1:Inv X pins σ H { s with heap:=h',toks:=tk }:=I.turned (λb o hb e=>kk b o (by simpa using hb) e) f0 f1 f3 f4 f5;refine ⟨_,rfl,L8 (s:={ s with heap:=h',toks:=tk }) (n:="range_iterator") st' rfl rfl (by decide) ⟨.int (lo+i),H,I1,⟨t,?_⟩,⟨rfl,rfl⟩,st',λb hb=>(hf b hb).1⟩⟩;rw[Int.mul_one]
 done:=by
  intro X hP hw hK hc i pins s σ H E I hf st hg;subst hP hw hK;obtain ⟨f0,f1,f2,f3,f4,f5⟩:=hf it (by simp);exact wpAny_pyNext_range_end (I.ok.hd hc) st (by have:n<=i:=hg;lia) λh' eb=>⟨rfl,I.turned (t':=s.toks) (λb o hb e=>eb b o hb e) f0 f1 f3 f4 f5⟩
 self:=λ_ _ _ _ _ st h=>wpAny_pyIter_rangeiter st h
section
variable {X:Cx} {tg:Expr}
def L6 (K:FG9) (tl:TE):TI:=λσ H R=>tl σ H λx H1=>∃a,x=.ref a/\(∃xs,bE K H1 a xs)/\R (O6 K a) H1
def R9 (K:FG9) (tl:TE):TI:=λσ H R=>tl σ H λx H1=>∃a,x=.ref a/\(∃xs,nY K H1 a xs)/\R (QP K a) H1
theorem cu {l:Expr} {tl:TE} (hl:PE X l tl):PI X tg l (L6 X.K tl):=by
 intro pins s σ H R I h;refine fO (hl pins s σ H _ I h) λv s1 ⟨x,H1,I1,r1,q1⟩=>?_
 obtain ⟨a,e,⟨xs,hq⟩,q⟩:=q1;subst e;cases r1;obtain ⟨its,rv,p,hz⟩:=I1.list hq;refine wpAny_pyIter_list p.isList ?_;refine ⟨s1.heap.objs.size,[s1.heap.objs.size],_,_,H1,rfl,I1.kept (t':=s1.toks) λb o e=>Heap.get?_push_of_some _ e,JC a _,⟨_,Heap.get?_push_size _ rfl,rfl,rfl⟩,λb hb=>?_,q⟩;have e:b=s1.heap.objs.size:=by simpa using hb
 subst e;exact I1.fpOk (aw _) (I1.hok.fresh (aw _))
theorem P9 {l:Expr} {tl:TE} (hl:PE X l tl):PI X tg l (R9 X.K tl):=by
 intro pins s σ H R I h;refine fO (hl pins s σ H _ I h) λv s1 ⟨x,H1,I1,r1,q1⟩=>?_
 obtain ⟨a,e,⟨xs,hq⟩,q⟩:=q1;subst e;cases r1;obtain ⟨its,rv,p,hz⟩:=I1.tuple hq;refine wpAny_pyIter_tuple (show s1.heap.IsTuple a its.toArray from p) ?_;refine ⟨s1.heap.objs.size,[s1.heap.objs.size],_,_,H1,rfl,I1.kept (t':=s1.toks) λb o e=>Heap.get?_push_of_some _ e,GH a _,⟨_,Heap.get?_push_size _ rfl,rfl,rfl⟩,λb hb=>?_,q⟩;have e:b=s1.heap.objs.size:=by simpa using hb
 subst e;exact I1.fpOk (aw _) (I1.hok.fresh (aw _))
theorem Fn {pins:List (Addr×Obj)} {σ:St} {H:Hp} {s:Shared} {R:It->Hp->Prop} {E:Value->Shared->Prop} {lo hi:Int} {t u v:Tok} {tk:Nat} (I:Inv X pins σ H s) (h1:-(2^62)<=lo) (h2:lo < 2^62) (h3:-(2^62)<=hi) (h4:hi < 2^62)
  (q:R (F5 lo (hi - lo).toNat) H):wpAny (model X.prog X.w) X.A (pyIter (.ref s.heap.objs.size)) (PIE X pins σ tg R) E { s with heap:=s.heap.push { cls:=.type "range",data:=.fields #[.int lo t,.int hi u,.int 1 v] },toks:=tk }:=by
 refine wpAny_pyIter_range (IsRange.new ..) (small_one h1 h2 h3 h4) ?_;have I1:Inv X pins σ H { s with heap:=s.heap.push { cls:=.type "range",data:=.fields #[.int lo t,.int hi u,.int 1 v] },toks:=tk }:=I.kept λb o e=>Heap.get?_push_of_some _ e
 refine ⟨(s.heap.push { cls:=.type "range",data:=.fields #[.int lo t,.int hi u,.int 1 v] }).objs.size,[(s.heap.push { cls:=.type "range",data:=.fields #[.int lo t,.int hi u,.int 1 v] }).objs.size],_,_,H,rfl,
  I1.kept (t':=tk) λb o e=>Heap.get?_push_of_some _ e,GI _ lo (hi - lo).toNat,?_,λb hb=>?_,q⟩
 ·have e1:lo+((0:Nat):Int)*1=lo:=by simp
  have e2:(((hi - lo).toNat:Nat):Int) - ((0:Nat):Int)=Builtin.Range.rangeSize lo hi 1:=by rw[rangeSize_one];split <;> lia
  show IsRangeIter _ _ (lo+((0:Nat):Int)*1) ((((hi - lo).toNat:Nat):Int) - ((0:Nat):Int)) 1
  rw[e1,e2];exact Heap.get?_push_size _ rfl
 ·have e:b=(s.heap.push { cls:=.type "range",data:=.fields #[.int lo t,.int hi u,.int 1 v] }).objs.size:=by simpa using hb
  subst e;exact I1.fpOk (aw _) (I1.hok.fresh (aw _))
def OQ (ta:TA):TI:=λσ H R=>ta σ H λvs H1=>∃j:Int,vs=[.int j]/\-(2^62)<=j/\j < 2^62/\R (F5 0 j.toNat) H1
def OP (ta:TA):TI:=λσ H R=>ta σ H λvs H1=>∃i j:Int,vs=[.int i,.int j]/\(-(2^62)<=i/\i < 2^62/\-(2^62)<=j/\j < 2^62)/\R (F5 i (j - i).toNat) H1
theorem cy {a:Expr} {ta:TA} {p pos:Pos} (hg:Gl X "range") (hm:X.mg "range"=none) (ha:PA X [a] ta) (hs:starEach [a] X.env=[(false,eval a X.env)]:=by rfl):PI X tg (.Call (.Name "range" p) [a] [] pos) (OQ ta):=by
 intro pins s σ H R I h;refine Call_ (lQ I hg hm boot_range (PyProof.Rows.callWith_type1 (fO (ha pos pins s σ H _ I h) λus s1 ⟨vs,H1,I1,r1,q1⟩=>?_) hs rfl));obtain ⟨j,e,q1,q2,q⟩:=q1;subst e;cases r1 with
 | cons r rr =>
  cases rr;obtain ⟨t,rfl⟩:=r;exact call_range_1 (Fn I1 (by lia) (by lia) q1 q2 (by simpa using q))
theorem JS {a b:Expr} {ta:TA} {p pos:Pos} (hg:Gl X "range") (hm:X.mg "range"=none) (ha:PA X [a,b] ta) (hs:starEach [a,b] X.env=[(false,eval a X.env),(false,eval b X.env)]:=by rfl) (hs2:starEach [b] X.env=[(false,eval b X.env)]:=by rfl) :
  PI X tg (.Call (.Name "range" p) [a,b] [] pos) (OP ta):=by
 intro pins s σ H R I h;refine Call_ (lQ I hg hm boot_range (PyProof.Rows.callWith_type1 (fO (ha pos pins s σ H _ I h) λus s1 ⟨vs,H1,I1,r1,q1⟩=>?_) (by rw[hs,hs2]) (by rw[hs2];rfl)));obtain ⟨i,j,e,⟨q1,q2,q3,q4⟩,q⟩:=q1;subst e;cases r1 with
 | cons r rr =>
  cases rr with
  | cons r' rr =>
   cases rr;obtain ⟨t,rfl⟩:=r;obtain ⟨t',rfl⟩:=r';exact call_range_2 (Fn I1 q1 q2 q3 q4 q)
def Q7 (wi:TI) (g:TG) (tb:TS):TS:=λD σ H=>wi σ H λJ H1=>∃W:Nat->Nat->St->Hp->Prop,(∃m,W 0 m σ H1)/\∀i m σ H,W i m σ H →
 (J.stop i H/\D.nx σ H)\/(J.go i H/\∃N:St->Hp->Prop,(∀σ' H',N σ' H'->∃m',m' < m/\W (i+1) m' σ' H')/\∀x H',J.yld i H x H'->g x σ H' λσ2 H2=>tb { D with nx:=N,ct:=N,bk:=D.nx } σ2 H2)
def z8 (fp:List Addr) (h:Heap):List (Addr×Obj):=fp.filterMap λb=>(h.get? b).map λo=>(b,o)
theorem o8 {fp:List Addr} {h:Heap} {b:Addr} {o:Obj} (hb:b∈fp) (e:h.get? b=some o):(b,o)∈z8 fp h:=List.mem_filterMap.mpr ⟨b,hb,by rw[e];rfl⟩
theorem JZ {fp:List Addr} {h:Heap} {p:Addr×Obj} (hp:p∈z8 fp h):p.1∈fp/\h.get? p.1=some p.2:=by
 obtain ⟨b,hb,e⟩:=List.mem_filterMap.mp hp;cases q:h.get? b with
 | none=>rw[q] at e;cases e
 | some o =>
  rw[q] at e;have e':(b,o)=p:=bU e;subst e';exact ⟨hb,q⟩
theorem Inv.pinned {pins:List (Addr×Obj)} {σ:St} {H:Hp} {s:Shared} {fp:List Addr} (I:Inv X pins σ H s) (hf:∀b∈fp,jT X pins H b) (ho:∀b∈fp,∃o,s.heap.get? b=some o/\∀v,o.data≠.cell v):Inv X (pins++z8 fp s.heap) σ H s :=
 I.pins_of λp hp=>(ax.mp hp).elim (λz=>I.pin p (b6 _ z)) λz=>by
  obtain ⟨hb,e⟩:=JZ z;obtain ⟨f0,f1,f2,_⟩:=hf p.1 hb;obtain ⟨o,e',d⟩:=ho p.1 hb;rw[e] at e';cases e';exact ⟨e,f0,f1,f2,d⟩
theorem Inv.unpinned {pins pl:List (Addr×Obj)} {σ:St} {H:Hp} {s:Shared} (I:Inv X (pins++pl) σ H s):Inv X pins σ H s:=I.pins_of λp hp=>I.pin p (b6 _ (pX _ hp))
theorem df {iter:Expr} {body:List Stmt} {wi:TI} {g:TG} {tb:TS} {pos:Pos} (hp:PassesOwn (model X.prog X.w) X.A X.env X.xe) (hc:X.calm=true) (hi:PI X tg iter wi) (hg:PG X tg g) (hb:Ik X body tb)
  (hs:∀x,foldedSetIterable iter X.env x=pure x:=by intro _;rfl):PS X (.For tg iter body [] pos) (Q7 wi g tb):=by
 intro pins s σ H D I h;refine wpAny_For (fO (hi pins s σ H _ I h) λv s1 h1=>fO h1 λitv s2 h2=>?_) hs;obtain ⟨it,fp,tn,J,H2,e,I2,T,st2,f2,W,⟨m0,w0⟩,turn⟩:=h2;subst e;have stat:∀{H':Hp},(∀b∈fp,H' b=none)->∀b∈fp,jT X pins H' b:=λhn b hb=>⟨hn b hb,(f2 b hb).2⟩
 refine codeAny_forLoop_any (λn s'=>∃i σ' H',Inv X pins σ' H' s'/\tn i s'.heap/\(∀b∈fp,H' b=none)/\W i n σ' H') ?_ m0 ⟨0,σ,H2,I2,st2,λb hb=>(f2 b hb).1,w0⟩;rintro n s3 ⟨i,σ3,H3,I3,st3,fr3,w3⟩;rcases turn i n σ3 H3 w3 with ⟨stop,qn⟩ | ⟨go,N,hN,step⟩
 ·refine wpAny_passesOwn hp (fO (T.done X rfl rfl rfl hc i pins s3 σ3 H3 X.xe I3 (stat fr3) st3 stop) λr s4 ⟨hr,I4⟩=>?_);subst hr;exact wpAny_execs_nil ⟨σ3,H3,I4,qn⟩
 ·refine wpAny_passesOwn hp (fO (T.item X rfl rfl rfl hc i pins s3 σ3 H3 X.xe I3 (stat fr3) st3 go) λr s4 ⟨u,hr,h4⟩=>?_);subst hr;refine wpAny_passesOwn hp (fO h4 λ_ s5 ⟨x,H5,I5,r5,y5,st5,fr5⟩=>?_);have I5':=I5.pinned (stat fr5) (T.obj _ _ st5);refine wpAny_passesOwn hp (fO (hg _ s5 σ3 H5 x u _ I5' r5 (step x H5 y5)) λ_ s6 ⟨σ6,H6,I6,q6⟩=>?_);refine wpAny_passesOwn hp (fO (hb _ s6 σ6 H6 _ I6 q6) λf s7 q7=>?_)
  have again:∀{σ7:St} {H7:Hp},Inv X (pins++z8 fp s5.heap) σ7 H7 s7->N σ7 H7->∃m,m < n/\∃i σ' H',Inv X pins σ' H' s7/\tn i s7.heap/\(∀b∈fp,H' b=none)/\W i m σ' H':=λ{σ7 H7} I7 n7=>by
   obtain ⟨m',hm,w7⟩:=hN σ7 H7 n7;refine ⟨m',hm,i+1,σ7,H7,I7.unpinned,T.keep _ _ _ st5 λb hb o e=>(I7.pin (b,o) (b6 _ (b6 _ (o8 hb e)))).1,λb hb=>?_,w7⟩;obtain ⟨o,e,d⟩:=T.obj _ _ st5 b hb;exact (I7.pin (b,o) (b6 _ (b6 _ (o8 hb e)))).2.1
  cases f with
  | next=>obtain ⟨σ7,H7,I7,n7⟩:=q7;exact again I7 n7
  | cont=>obtain ⟨σ7,H7,I7,n7⟩:=q7;exact again I7 n7
  | brk=>obtain ⟨σ7,H7,I7,q7⟩:=q7;exact ⟨σ7,H7,I7.unpinned,q7⟩
  | ret v=>obtain ⟨x7,σ7,H7,I7,r7,q7⟩:=q7;exact ⟨x7,σ7,H7,I7.unpinned,r7,q7⟩
end
theorem eX {K:FG9} {a:Addr} {xs:List V} {g:TG} {tb:TS} {D:Ends} {σ:St} {H:Hp} (Pv:Nat->St->Hp->Prop) (h0:Pv 0 σ H) (hl:∀i σ H,i<=xs.length->Pv i σ H->bE K H a xs)
  (hs:∀i x σ H,xs[i]?=some x->Pv i σ H->g x σ H λσ2 H2=>tb { D with nx:=Pv (i+1),ct:=Pv (i+1),bk:=D.nx } σ2 H2) (hd:∀σ H,Pv xs.length σ H->D.nx σ H) :
  ∃W:Nat->Nat->St->Hp->Prop,(∃m,W 0 m σ H)/\∀i m σ H,W i m σ H →
   ((O6 K a).stop i H/\D.nx σ H)\/((O6 K a).go i H/\∃N:St->Hp->Prop,(∀σ' H',N σ' H'->∃m',m' < m/\W (i+1) m' σ' H')/\∀x H',(O6 K a).yld i H x H'->g x σ H' λσ2 H2=>tb { D with nx:=N,ct:=N,bk:=D.nx } σ2 H2):=by
 refine ⟨λi m σ H=>m=xs.length - i/\i<=xs.length/\Pv i σ H,⟨xs.length,by simp,aZ _,h0⟩,?_⟩;rintro i m σ H ⟨rfl,hi,p⟩;have q:=hl i σ H hi p;by_cases hlt:i < xs.length
 ·refine .inr ⟨⟨xs,xs[i],q,by simp [hlt]⟩,Pv (i+1),λσ' H' p'=>⟨xs.length - (i+1),by lia,rfl,hlt,p'⟩,λx H' y=>?_⟩;obtain ⟨e,y⟩:=y;subst e;exact hs i x σ _ (y xs q) p
 ·have e:i=xs.length:=by lia
  subst e;exact .inl ⟨⟨xs,q,aw _⟩,hd σ H p⟩
theorem N9 {K:FG9} {a:Addr} {xs:List V} {g:TG} {tb:TS} {D:Ends} {σ:St} {H:Hp} (Pv:Nat->St->Hp->Prop) (h0:Pv 0 σ H) (hl:∀i σ H,i<=xs.length->Pv i σ H->nY K H a xs)
  (hs:∀i x σ H,xs[i]?=some x->Pv i σ H->g x σ H λσ2 H2=>tb { D with nx:=Pv (i+1),ct:=Pv (i+1),bk:=D.nx } σ2 H2) (hd:∀σ H,Pv xs.length σ H->D.nx σ H) :
  ∃W:Nat->Nat->St->Hp->Prop,(∃m,W 0 m σ H)/\∀i m σ H,W i m σ H →
   ((QP K a).stop i H/\D.nx σ H)\/((QP K a).go i H/\∃N:St->Hp->Prop,(∀σ' H',N σ' H'->∃m',m' < m/\W (i+1) m' σ' H')/\∀x H',(QP K a).yld i H x H'->g x σ H' λσ2 H2=>tb { D with nx:=N,ct:=N,bk:=D.nx } σ2 H2):=by
 refine ⟨λi m σ H=>m=xs.length - i/\i<=xs.length/\Pv i σ H,⟨xs.length,by simp,aZ _,h0⟩,?_⟩;rintro i m σ H ⟨rfl,hi,p⟩;have q:=hl i σ H hi p;by_cases hlt:i < xs.length
 ·refine .inr ⟨⟨xs,xs[i],q,by simp [hlt]⟩,Pv (i+1),λσ' H' p'=>⟨xs.length - (i+1),by lia,rfl,hlt,p'⟩,λx H' y=>?_⟩;obtain ⟨e,y⟩:=y;subst e;exact hs i x σ _ (y xs q) p
 ·have e:i=xs.length:=by lia
  subst e;exact .inl ⟨⟨xs,q,aw _⟩,hd σ H p⟩
theorem CF {lo:Int} {n:Nat} {g:TG} {tb:TS} {D:Ends} {σ:St} {H:Hp} (Pv:Nat->St->Hp->Prop) (h0:Pv 0 σ H)
  (hs:∀i σ H,i < n->Pv i σ H->g (.int (lo+i)) σ H λσ2 H2=>tb { D with nx:=Pv (i+1),ct:=Pv (i+1),bk:=D.nx } σ2 H2) (hd:∀σ H,Pv n σ H->D.nx σ H) :
  ∃W:Nat->Nat->St->Hp->Prop,(∃m,W 0 m σ H)/\∀i m σ H,W i m σ H →
   ((F5 lo n).stop i H/\D.nx σ H)\/((F5 lo n).go i H/\∃N:St->Hp->Prop,(∀σ' H',N σ' H'->∃m',m' < m/\W (i+1) m' σ' H')/\∀x H',(F5 lo n).yld i H x H'->g x σ H' λσ2 H2=>tb { D with nx:=N,ct:=N,bk:=D.nx } σ2 H2):=by
 refine ⟨λi m σ H=>m=n - i/\i<=n/\Pv i σ H,⟨n,by simp,aZ _,h0⟩,?_⟩;rintro i m σ H ⟨rfl,hi,p⟩;by_cases hlt:i < n
 ·refine .inr ⟨hlt,Pv (i+1),λσ' H' p'=>⟨n - (i+1),by lia,rfl,hlt,p'⟩,λx H' y=>?_⟩;obtain ⟨e,y⟩:=y;subst e y;exact hs i σ _ hlt p
 ·have e:i=n:=by lia
  subst e;exact .inl ⟨aw _,hd σ H p⟩
abbrev R2:=V->V->Hp->VK->Prop
def yA (X:Cx) (f:Value->Value->Sem Value) (r:R2):Prop :=
 ∀(pins:List (Addr×Obj)) (s:Shared) (σ:St) (H:Hp) (x y:V) (v u:Value) (Q:VK),Inv X pins σ H s->RelV x v->RelV y u->r x y H Q →
  wpAny (model X.prog X.w) X.A (f v u) (EP X pins σ Q) X.xe s
def Tc (X:Cx) (f:Value->Sem Value) (r:V->Hp->VK->Prop):Prop :=
 ∀(pins:List (Addr×Obj)) (s:Shared) (σ:St) (H:Hp) (x:V) (v:Value) (Q:VK),Inv X pins σ H s->RelV x v->r x H Q →
  wpAny (model X.prog X.w) X.A (f v) (EP X pins σ Q) X.xe s
def pV (X:Cx) (f:Value) (r:List V->Hp->VK->Prop):Prop :=
 ∀(pins:List (Addr×Obj)) (s:Shared) (σ:St) (H:Hp) (xs:List V) (us:List Value) (Q:VK),Inv X pins σ H s->cZ xs us->r xs H Q →
  wpAny (model X.prog X.w) X.A (call f us) (EP X pins σ Q) X.xe s
def Q3 (r:R2) (ta tb:TE):TE:=λσ H Q=>ta σ H λx H1=>tb σ H1 λy H2=>r x y H2 Q
def SG (r:V->Hp->VK->Prop) (ta:TE):TE:=λσ H Q=>ta σ H λx H1=>r x H1 Q
def rI (C:Int->Int->Prop) (g:Int->Int->V):R2:=λx y H Q=>∃i j,x=.int i/\y=.int j/\C i j/\Q (g i j) H
def NQ (g:Int->Int->V):R2:=λx y H Q=>∃i j,x=.int i/\y=.int j/\Q (g i j) H
def rU (g:Int->V):V->Hp->VK->Prop:=λx H Q=>∃i,x=.int i/\Q (g i) H
section
variable {X:Cx} {a b c:Expr} {ta tb tc:TE} {pos:Pos}
theorem QE (ha:PE X a ta) (hb:PE X b tb) {pins:List (Addr×Obj)} {s:Shared} {σ:St} {H:Hp} {R:V->V->Hp->Prop} (I:Inv X pins σ H s)
  (h:ta σ H λx H1=>tb σ H1 λy H2=>R x y H2) {Q:Value->Shared->Prop} {f:Value->Value->Sem Value}
  (hf:∀v u s2 x y H2,Inv X pins σ H2 s2->RelV x v->RelV y u->R x y H2->wpAny (model X.prog X.w) X.A (f v u) Q X.xe s2) :
  wpAny (model X.prog X.w) X.A (eval a X.env) (λv s₁=>wpAny (model X.prog X.w) X.A (eval b X.env) (λu s₂=>wpAny (model X.prog X.w) X.A (f v u) Q X.xe s₂) X.xe s₁) X.xe s:=by
 refine fO (ha pins s σ H _ I h) λv s1 ⟨x,H1,I1,r1,q1⟩=>?_
 refine fO (hb pins s1 σ H1 _ I1 q1) λu s2 ⟨y,H2,I2,r2,q2⟩=>?_
 exact hf v u s2 x y H2 I2 r1 r2 q2
theorem bM {op:Operator} {r:R2} (ho:yA X (binaryOp op) r) (ha:PE X a ta) (hb:PE X b tb):PE X (.BinOp a op b pos) (Q3 r ta tb):=by
 intro pins s σ H Q I h;exact wpAny_BinOp (QE ha hb I h λv u s2 x y H2 I2 rx ry q=>ho pins s2 σ H2 x y v u Q I2 rx ry q)
theorem uR {op:UnaryOp} {r:V->Hp->VK->Prop} (ho:Tc X (unaryOp op) r) (ha:PE X a ta):PE X (.UnaryOp op a pos) (SG r ta):=by
 intro pins s σ H Q I h;exact UnaryOp_ (fO (ha pins s σ H _ I h) λv s1 ⟨x,H1,I1,r1,q1⟩=>ho pins s1 σ H1 x v Q I1 r1 q1)
theorem S3 {f:Value->Value->Sem Value} {C:Int->Int->Prop} {g:Int->Int->Int}
  (rule:∀(i j:Int) (t u:Tok) (s:Shared) (Q:Value->Shared->Prop) (E:Value->Shared->Prop),C i j->Q (.int (g i j) s.toks) { s with toks:=s.toks+1 }->wpAny (model X.prog X.w) X.A (f (.int i t) (.int j u)) Q E s) :
  yA X f (rI C λi j=>.int (g i j)):=by
 intro pins s σ H x y v u Q I rx ry h;obtain ⟨i,j,rfl,rfl,hc,q⟩:=h;obtain ⟨t,rfl⟩:=rx;obtain ⟨t',rfl⟩:=ry;exact rule i j t t' s _ _ hc ⟨.int (g i j),H,I.tok _,⟨_,rfl⟩,q⟩
theorem RT {f:Value->Value->Sem Value} {g:Int->Int->Int}
  (rule:∀(i j:Int) (t u:Tok) (s:Shared) (Q:Value->Shared->Prop) (E:Value->Shared->Prop),Q (.int (g i j) s.toks) { s with toks:=s.toks+1 }->wpAny (model X.prog X.w) X.A (f (.int i t) (.int j u)) Q E s) :
  yA X f (NQ λi j=>.int (g i j)):=by
 intro pins s σ H x y v u Q I rx ry h;obtain ⟨i,j,rfl,rfl,q⟩:=h;obtain ⟨t,rfl⟩:=rx;obtain ⟨t',rfl⟩:=ry;exact rule i j t t' s _ _ ⟨.int (g i j),H,I.tok _,⟨_,rfl⟩,q⟩
theorem NZ {f:Value->Value->Sem Value} {g:Int->Int->Bool}
  (rule:∀(i j:Int) (t u:Tok) (s:Shared) (Q:Value->Shared->Prop) (E:Value->Shared->Prop),Q (.bool (g i j)) s->wpAny (model X.prog X.w) X.A (f (.int i t) (.int j u)) Q E s) :
  yA X f (NQ λi j=>.bl (g i j)):=by
 intro pins s σ H x y v u Q I rx ry h;obtain ⟨i,j,rfl,rfl,q⟩:=h;obtain ⟨t,rfl⟩:=rx;obtain ⟨t',rfl⟩:=ry;exact rule i j t t' s _ _ ⟨.bl (g i j),H,I,rfl,q⟩
def QK (i j:Int):Prop:=(-(2^64) < i/\i < 2^64)\/(-(2^64) < j/\j < 2^64)
theorem QK.ok {i j:Int} (h:QK i j):IntMulOk i j:=by
 rcases h with ⟨h1,h2⟩ | ⟨h1,h2⟩
 ·exact .of_left (intBits_le_64 h1 h2)
 ·exact .of_right (intBits_le_64 h1 h2)
theorem fW:yA X (binaryOp .Add) (NQ λi j=>.int (i+j)):=RT λ_ _ _ _ _ _ _ q=>add_int q
theorem lB:yA X (binaryOp .Sub) (NQ λi j=>.int (i - j)):=RT λ_ _ _ _ _ _ _ q=>sub_int q
theorem mT:yA X (binaryOp .Mod) (rI (λ_ j=>0 < j) λi j=>.int (i % j)):=S3 λi j _ _ _ _ _ hc q=>by
 have h1:(0:Int) < j:=hc;exact mod_int' (by lia) (by rw[Int.fmod_eq_emod_of_nonneg i (by lia)];exact q)
theorem NW:yA X (binaryOp .Mod) (rI (λ_ j=>j≠0) λi j=>.int (i.fmod j)):=S3 λ_ _ _ _ _ _ _ hc q=>mod_int' hc q
theorem unI {f:Value->Sem Value} {g:Int->Int}
  (rule:∀(i:Int) (t:Tok) (s:Shared) (Q:Value->Shared->Prop) (E:Value->Shared->Prop),Q (.int (g i) s.toks) { s with toks:=s.toks+1 }->wpAny (model X.prog X.w) X.A (f (.int i t)) Q E s) :
  Tc X f (rU λi=>.int (g i)):=by
 intro pins s σ H x v Q I rx h;obtain ⟨i,rfl,q⟩:=h;obtain ⟨t,rfl⟩:=rx;exact rule i t s _ _ ⟨.int (g i),H,I.tok _,⟨_,rfl⟩,q⟩
theorem oi:Tc X (unaryOp .USub) (rU λi=>.int (-i)):=unI λ_ _ _ _ _ q=>neg_int q
end
def Rn:V->V->Bool
 | .non,.non=>true | .non,.int _=>true | .int _,.non=>true | .non,.bl _=>true | .bl _,.non=>true | .non,.str _=>true | .str _,.non=>true
 | .int _,.int _=>true | .bl _,.bl _=>true | .str _,.str _=>true | .byt _,.byt _=>true
 | .int _,.str _=>true | .str _,.int _=>true | .bl _,.str _=>true | .str _,.bl _=>true
 | _,_=>false
def S0:R2:=λx y H Q=>Rn x y=true/\Q (.bl (decide (x=y))) H
def SW:R2:=λx y H Q=>Rn x y=true/\Q (.bl (!decide (x=y))) H
theorem Je {i j:Int}:decide (V.int i=V.int j)=(i == j):=by
 rw[kO];simp
theorem Mt {i j:Bool}:decide (V.bl i=V.bl j)=(i == j):=by
 rw[kO];simp
theorem Jd {i j:Str}:decide (V.str i=V.str j)=(i == j):=by
 rw[kO];simp
theorem Jf {i j:Array UInt8}:decide (V.byt i=V.byt j)=(i.toList == j.toList):=by
 rw[kO];cases i;cases j;simp
section
variable {X:Cx} {a b c:Expr} {ta tb tc:TE} {pos:Pos}
theorem dh {pins:List (Addr×Obj)} {σ:St} {H:Hp} {s:Shared} {Q:VK} {k k':Bool} (I:Inv X pins σ H s) (q:Q (.bl k) H) (e:k=k'):EP X pins σ Q (.bool k') s:=by
 subst e;exact ⟨.bl k,H,I,rfl,q⟩
theorem eS:yA X (compareOp .Eq) S0:=by
 intro pins s σ H x y v u Q I rx ry h;obtain ⟨hs,q⟩:=h;cases x with
 | non =>
  cases rx;cases y with
  | non=>cases ry;exact PySem.EqNone.eq_none_none (dh I q (by simp))
  | bl j=>cases ry;exact PySem.EqNone.eq_none_bool (dh I q (by simp))
  | int j=>obtain ⟨t',rfl⟩:=ry;exact PySem.EqNone.eq_none_int (dh I q (by simp))
  | str j=>obtain ⟨t',rfl⟩:=ry;exact PySem.EqNone.eq_none_str (dh I q (by simp))
  | _=>exact absurd (show false=true from hs) bw
 | bl i =>
  cases rx;cases y with
  | non=>cases ry;exact PySem.EqNone.eq_bool_none (dh I q (by simp))
  | bl j=>cases ry;exact eq_bool (dh I q Mt)
  | str j=>obtain ⟨t',rfl⟩:=ry;exact PySem.EqMixed.eq_bool_str (dh I q (by simp))
  | _=>exact absurd (show false=true from hs) bw
 | int i =>
  obtain ⟨t,rfl⟩:=rx;cases y with
  | non=>cases ry;exact PySem.EqNone.eq_int_none (dh I q (by simp))
  | int j=>obtain ⟨t',rfl⟩:=ry;exact eq_int (dh I q Je)
  | str j=>obtain ⟨t',rfl⟩:=ry;exact PySem.EqMixed.eq_int_str (dh I q (by simp))
  | _=>exact absurd (show false=true from hs) bw
 | str i =>
  obtain ⟨t,rfl⟩:=rx;cases y with
  | non=>cases ry;exact PySem.EqNone.eq_str_none (dh I q (by simp))
  | bl j=>cases ry;exact PySem.EqMixed.eq_str_bool (dh I q (by simp))
  | int j=>obtain ⟨t',rfl⟩:=ry;exact PySem.EqMixed.eq_str_int (dh I q (by simp))
  | str j=>obtain ⟨t',rfl⟩:=ry;exact eq_str (dh I q Jd)
  | _=>exact absurd (show false=true from hs) bw
 | byt i =>
  obtain ⟨t,rfl⟩:=rx;cases y with
  | byt j=>obtain ⟨t',rfl⟩:=ry;exact PySem.W.eq_bytes (dh I q Jf)
  | _=>exact absurd (show false=true from hs) bw
 | _=>cases y <;> exact absurd (show false=true from hs) bw
theorem sP:yA X (compareOp .NotEq) SW:=by
 intro pins s σ H x y v u Q I rx ry h;obtain ⟨hs,q⟩:=h;cases x with
 | non =>
  cases rx;cases y with
  | non=>cases ry;exact PySem.EqNone.ne_none_none (dh I q (by simp))
  | bl j=>cases ry;exact PySem.EqNone.ne_none_bool (dh I q (by simp))
  | int j=>obtain ⟨t',rfl⟩:=ry;exact PySem.EqNone.ne_none_int (dh I q (by simp))
  | str j=>obtain ⟨t',rfl⟩:=ry;exact PySem.EqNone.ne_none_str (dh I q (by simp))
  | _=>exact absurd (show false=true from hs) bw
 | bl i =>
  cases rx;cases y with
  | non=>cases ry;exact PySem.EqNone.ne_bool_none (dh I q (by simp))
  | bl j=>cases ry;exact ne_bool (dh I q (congrArg not Mt))
  | str j=>obtain ⟨t',rfl⟩:=ry;exact PySem.EqMixed.ne_bool_str (dh I q (by simp))
  | _=>exact absurd (show false=true from hs) bw
 | int i =>
  obtain ⟨t,rfl⟩:=rx;cases y with
  | non=>cases ry;exact PySem.EqNone.ne_int_none (dh I q (by simp))
  | int j=>obtain ⟨t',rfl⟩:=ry;exact ne_int (dh I q (congrArg not Je))
  | str j=>obtain ⟨t',rfl⟩:=ry;exact PySem.EqMixed.ne_int_str (dh I q (by simp))
  | _=>exact absurd (show false=true from hs) bw
 | str i =>
  obtain ⟨t,rfl⟩:=rx;cases y with
  | non=>cases ry;exact PySem.EqNone.ne_str_none (dh I q (by simp))
  | bl j=>cases ry;exact PySem.EqMixed.ne_str_bool (dh I q (by simp))
  | int j=>obtain ⟨t',rfl⟩:=ry;exact PySem.EqMixed.ne_str_int (dh I q (by simp))
  | str j=>obtain ⟨t',rfl⟩:=ry;exact ne_str (dh I q (congrArg not Jd))
  | _=>exact absurd (show false=true from hs) bw
 | byt i =>
  obtain ⟨t,rfl⟩:=rx;cases y with
  | byt j=>obtain ⟨t',rfl⟩:=ry;exact PySem.W.ne_bytes (dh I q (congrArg not Jf))
  | _=>exact absurd (show false=true from hs) bw
 | _=>cases y <;> exact absurd (show false=true from hs) bw
theorem pM:yA X (compareOp .Lt) (NQ λi j=>.bl (decide (i < j))):=NZ λ_ _ _ _ _ _ _ q=>lt_int q
theorem RS:yA X (compareOp .LtE) (NQ λi j=>.bl (decide (i<=j))):=NZ λ_ _ _ _ _ _ _ q=>le_int q
theorem qZ:yA X (compareOp .Gt) (NQ λi j=>.bl (decide (j < i))):=NZ λ_ _ _ _ _ _ _ q=>gt_int q
theorem Cs:yA X (compareOp .GtE) (NQ λi j=>.bl (decide (j<=i))):=NZ λ_ _ _ _ _ _ _ q=>ge_int q
theorem IK:yA X (compareOp .IsNot) (λx y H Q=>y=.non/\Q (.bl (!decide (x=.non))) H):=by
 intro pins s σ H x y v u Q I rx ry h;obtain ⟨rfl,q⟩:=h;cases ry;refine isnot_none_gen (dh I q ?_)
 cases x <;> first
  | (cases rx;rfl)
  | (obtain ⟨t,rfl⟩:=rx;rfl)
theorem bB (b:Expr) {op:CmpOp} (h:op≠.In:=by decide) (h2:op≠.NotIn:=by decide):behindInMarks op b=false:=by
 have e1:(op == CmpOp.In)=false:=by cases op <;> first | rfl | exact absurd rfl h
 have e2:(op == CmpOp.NotIn)=false:=by cases op <;> first | rfl | exact absurd rfl h2
 cases b <;> simp [behindInMarks,e1,e2]
theorem jg {op:CmpOp} {r:R2} (ho:yA X (compareOp op) r) (ha:PE X a ta) (hb:PE X b tb) (hm:behindInMarks op b=false):PE X (.Compare a [op] [b] pos) (Q3 r ta tb):=by
 intro pins s σ H Q I h;exact wpAny_Compare1 (QE ha hb I h λv u s2 x y H2 I2 rx ry q=>ho pins s2 σ H2 x y v u Q I2 rx ry q) hm
def Ov (t:TE):TT:=λσ H Q=>t σ H λx H'=>∃k,x=.bl k/\Q k H'
theorem be {op:CmpOp} {r:R2} (ho:yA X (compareOp op) r) (ha:PE X a ta) (hb:PE X b tb) (hm:behindInMarks op b=false):PT X (.Compare a [op] [b] pos) (Ov (Q3 r ta tb)):=by
 intro pins s σ H Q I h
 refine wpAny_isTrue_Compare1 (fO (ha pins s σ H _ I h) λv s1 ⟨x,H1,I1,r1,q1⟩=>fO (hb pins s1 σ H1 _ I1 q1) λu s2 ⟨y,H2,I2,r2,q2⟩ =>
  fO (ho pins s2 σ H2 x y v u _ I2 r1 r2 q2) λc s3 ⟨z,H3,I3,r3,k,e,q3⟩=>?_) hm
 subst e;cases r3;exact wpAny_truthy_bool ⟨H3,I3,q3⟩
theorem Ax:(sizeLine:Nat) < 2^63:=by rw[sizeLine_eq];decide
theorem vals1 {x:V} {us:List Value} (r:cZ [x] us):∃u,us=[u]/\RelV x u:=by
 cases r with
 | cons r1 r2=>cases r2;exact ⟨_,rfl,r1⟩
theorem vals2 {x y:V} {us:List Value} (r:cZ [x,y] us):∃u w',us=[u,w']/\RelV x u/\RelV y w':=by
 cases r with
 | cons r1 r2 =>
  cases r2 with
  | cons r3 r4=>cases r4;exact ⟨_,_,rfl,r1,r3⟩
theorem AX:pV X (.builtin "abs") (λxs H Q=>∃i,xs=[.int i]/\Q (.int (if i < 0 then -i else i)) H):=by
 intro pins s σ H xs us Q I r h;obtain ⟨i,rfl,q⟩:=h;obtain ⟨u,rfl,t,rfl⟩:=vals1 r;exact call_abs_int λu tk=>⟨.int (if i < 0 then -i else i),H,I.tok _,⟨_,rfl⟩,q⟩
theorem sv (hc:X.calm=true):pV X (.builtin "min") (λxs H Q=>∃i j,xs=[.int i,.int j]/\Q (.int (if j < i then j else i)) H):=by
 intro pins s σ H xs us Q I r h;obtain ⟨i,j,rfl,q⟩:=h;obtain ⟨u,w',rfl,⟨t,rfl⟩,⟨t',rfl⟩⟩:=vals2 r;refine min_two_ints (I.ok.hd hc) λh' tk k=>⟨_,H,I.kept k,?_,q⟩
 by_cases hj:j < i
 ·rw[if_pos hj,if_pos hj];exact ⟨_,rfl⟩
 ·rw[if_neg hj,if_neg hj];exact ⟨_,rfl⟩
end
structure Il (h:Heap) (x dx C:Addr) (mA:Str->Option Value):Prop where
 obj:h.get? x=some (PySem.W.instObj C dx)
 ns:h.Ns1 dx mA
 ne:dx≠x
theorem Ka {h:Heap} {dx:Addr} {mA:Str->Option Value} (n:h.Ns1 dx mA):∃od,h.get? dx=some od/\∀name,PySem.W.lookIn name od=some (mA name):=by
 obtain ⟨o,es,ep,ho,hd,hk,_,hm⟩:=n;refine ⟨o,ho,λname=>?_⟩;have e:=hm name;unfold nsFind findBy at e;rw[<- Array.find?_toList] at e;unfold PySem.W.lookIn;rw[hd]
 dsimp only
 split
 ·rename_i y q
  rw[q] at e;exact congrArg some e
 ·rename_i q
  rw[q] at e
  have a:es.toList.any (·.refKey)=false:=by
   rw[List.any_eq_false];intro y hy;obtain ⟨z,t,hkey⟩:=hk y (Array.mem_toList_iff.mp hy);simp [DictEntry.refKey,hkey]
  have a':¬es.toList.any (·.refKey)=true:=by rw[a];exact bw
  rw[if_neg a'];exact congrArg some e
theorem Il.look {h:Heap} {x dx C:Addr} {mA:Str->Option Value} (I:Il h x dx C mA):∃od,PySem.W.InstAt h x (PySem.W.instObj C dx) C (some od)/\∀name,PySem.W.lookIn name od=some (mA name) :=
 let ⟨od,ho,hl⟩:=Ka I.ns
 ⟨od,⟨I.obj,rfl,rfl,ho⟩,hl⟩
section
variable {prog:Program} {w:World} {A:Around} {E:Value->Shared->Prop} {s:Shared} {K:FG9} {x dx C f:Addr} {mA:Str->Option Value} {name:Str} {v:Value}
theorem get_map {expr:Bool} {Q:Value->Shared->Prop} (X:K.In s.heap) (I:Il s.heap x dx C mA) (hg:PySem.W.plainGet K C name=true) (hh:PySem.W.hasDictIn K C=true)
  (ha:PySem.W.findIn K (.ref C) name=some none) (hv:mA name=some v) (hv':PySem.W.handedIn v=true) (h:Q v { s with toks:=s.toks+1 }) :
  wpAny (model prog w) A (getAttr (.ref x) name expr) Q E s:=by
 obtain ⟨od,J,hl⟩:=I.look;exact PySem.W.get_value X J (EL hg).1 (PySem.W.findObj_own hh ha rfl (by rw[hl,hv])) hv' h
theorem L9 {pl:Sem Bool} {Q:Value×List Value->Shared->Prop} (X:K.In s.heap) (I:Il s.heap x dx C mA) (hg:PySem.W.plainGet K C name=true)
  (hf:PySem.W.findIn K (.ref C) name=some (some (.ref f))) (ht:PySem.W.isFn K (.ref f)=true) (hv:mA name=none) (h:Q (.ref f,[.ref x]) s) :
  wpAny (model prog w) A (getMethod (.ref x) name pl) Q E s:=by
 obtain ⟨od,J,hl⟩:=I.look;exact PySem.W.method_fn X J (EL hg).1 (EL hg).2 hf (beq_iff_eq.mp ht) (by show (PySem.W.lookIn name od).map (·.isSome)=some false;rw[hl,hv];rfl) h
theorem Nj {ns:List Str} {Q:Unit->Shared->Prop} (X:K.In s.heap) (I:Il s.heap x dx C mA)
  (hs:PySem.W.findIn K (.ref C) "__setattr__"=some (some (.builtin "object.__setattr__"))) (hp:PySem.W.plainOver K C=true) (ht:PySem.W.takerIn K C name=some none) (hh:PySem.W.hasDictIn K C=true)
  (hw:PySem.Within mA ns) (hsz:ns.length<=sizeLine)
  (h:∀h',Il h' x dx C (λy=>if y=name then some v else mA y)->Heap.SameBut dx s.heap h'->Q () { s with heap:=h',toks:=s.toks+2 }) :
  wpAny (model prog w) A (setAttr (.ref x) name v) Q E s:=by
 obtain ⟨od,J,hl⟩:=I.look;refine PySem.W.set_plain X J hs (PySem.W.osa_open (s:={ s with toks:=s.toks+1 }) (r:=none) X J hp ht λb=>?_);obtain ⟨cd,hc,hd'⟩:=PySem.W.any_some hh;have hx:s.heap.get? x=some ⟨.ref C,some dx,.plain,#[]⟩:=I.obj;refine wpAny_bind (wpAny_pure (wpAny_bind (wpAny_bind (wpAny_loadPart hx (wpAny_bind (PySem.W.Looks.here (s:={ s with toks:=s.toks+1 }) (PySem.W.looks_clsIn X hc) ?_))))));rw[hd'];refine wpAny_pure (a:=some dx) (wpAny_bind (wpAny_pure (wpAny_bind ?_)));refine wpAny_nsSet1 (s:={ s with toks:=s.toks+1 }) I.ns λh' hn2 hs2=>?_
 obtain ⟨oD,esD,epD,hoD,hdD,hcD⟩:=hn2.count (PySem.Within.cons name v hw);refine wpAny_bind (wpAny_lookBehind hoD (by rw[hdD];exact pastItsLine_dict (ai hcD (by rw[bg];lia))) ?_);exact wpAny_pure (h _ ⟨(hs2.2 _ (Ne.symm I.ne)).trans I.obj,hn2,I.ne⟩ hs2)
theorem LP {R:Result->Shared->Prop} {vs:List Value} {kw:List (Str×Value)} (X:K.In s.heap) (hm:PySem.W.makesIn K C=true)
  (hi:PySem.W.findIn K (.ref C) "__init__"=some (some (.ref f))) (hf:PySem.W.typeIn K (.ref f)=some (.type "function"))
  (h:codeAny (model prog w) (A.under (.builtin "type.__call__" ⟨.ref C :: vs,kw⟩)) (.call (.ref f) ⟨.ref (s.heap.objs.size+1) :: vs,kw⟩) (PySem.W.InitBack (s.heap.objs.size+1) R)
   { s with heap:=(s.heap.push PySem.W.emptyDict).push (PySem.W.instObj C s.heap.objs.size) }) :
  codeAny (model prog w) A (.call (.ref C) ⟨vs,kw⟩) R s:=by
 obtain ⟨hh,g,d,t,os⟩:=s;exact PySem.W.make_core (PySem.W.makes_of X hm) (PySem.W.looks_findIn X hi) (λself=>PySem.W.bind_fn X self hf) (.inl rfl) h
end
def cz (f:Str) (v:V):List (Str×V)->List (Str×V)
 | []=>[(f,v)]
 | (g,x) :: r=>if g=f then (g,v) :: r else (g,x) :: cz f v r
theorem bG (f g:Str) (v:V):∀fs:List (Str×V),(cz f v fs).lookup g=if g=f then some v else fs.lookup g
 | []=>by
  show List.lookup g [(f,v)]=_
  by_cases h:g=f
  ·have hb:(g == f)=true:=beq_iff_eq.mpr h;simp only[List.lookup,hb,if_pos h]
  ·have hb:(g == f)=false:=beq_eq_false_iff_ne.mpr h;simp only[List.lookup,hb,if_neg h]
 | (k,x) :: r=>by
  have ih:=bG f g v r;rw[show cz f v ((k,x) :: r)=(if k=f then (k,v) :: r else (k,x) :: cz f v r) from rfl];by_cases hk:k=f
  ·rw[if_pos hk];by_cases h:g=k
   ·have hb:(g == k)=true:=beq_iff_eq.mpr h;simp only[List.lookup,hb,if_pos (h.trans hk)]
   ·have hb:(g == k)=false:=beq_eq_false_iff_ne.mpr h;simp only[List.lookup,hb,if_neg (λe:g=f=>h (e.trans hk.symm))]
  ·rw[if_neg hk];by_cases h:g=k
   ·have hb:(g == k)=true:=beq_iff_eq.mpr h;simp only[List.lookup,hb,if_neg (λe:g=f=>hk (h.symm.trans e))]
   ·have hb:(g == k)=false:=beq_eq_false_iff_ne.mpr h;simp only[List.lookup,hb];exact ih
theorem xu (f:Str) (v:V):∀fs:List (Str×V),f∈(cz f v fs).map (·.1)/\∀g,g∈fs.map (·.1)->g∈(cz f v fs).map (·.1)
 | []=>⟨by simp [cz],λg h=>by simp at h⟩
 | (k,x) :: r=>by
  obtain ⟨i1,i2⟩:=xu f v r;rw[show cz f v ((k,x) :: r)=(if k=f then (k,v) :: r else (k,x) :: cz f v r) from rfl];by_cases hk:k=f
  ·rw[if_pos hk];subst hk;exact ⟨by simp,λg h=>by simpa using h⟩
  ·rw[if_neg hk];refine ⟨?_,λg h=>?_⟩
   ·rw[fI];exact bZ _ i1
   ·rw[fI] at h ⊢;rcases aG.mp h with e | e
    ·exact aG.mpr (.inl e)
    ·exact bZ _ (i2 g e)
theorem xN (f:Str) (v:V):∀fs:List (Str×V),(cz f v fs).length<=fs.length+1
 | []=>by simp [cz]
 | (k,x) :: r=>by
  have ih:=xN f v r;rw[show cz f v ((k,x) :: r)=(if k=f then (k,v) :: r else (k,x) :: cz f v r) from rfl];by_cases hk:k=f
  ·rw[if_pos hk,bg,bg];lia
  ·rw[if_neg hk,bg,bg];lia
theorem BJ.some_of {v:V} {o:Option Value} (r:BJ (some v) o):∃u,o=some u/\RelV v u:=by
 cases o with
 | none=>exact (show False from r).elim
 | some u=>exact ⟨u,rfl,r⟩
theorem BJ.none_of {o:Option Value} (r:BJ none o):o=none:=by
 cases o with
 | none=>rfl
 | some u=>exact (show False from r).elim
theorem Kf {v:V} {u:Value} (r:RelV v u):PySem.W.handedIn u=true:=by
 cases v with
 | non=>cases (show u=Value.none from r);rfl
 | bl b=>cases (show u=Value.bool b from r);rfl
 | int i=>obtain ⟨t,e⟩:=(show ∃t,u=Value.int i t from r);cases e;rfl
 | str x=>obtain ⟨t,e⟩:=(show ∃t,u=Value.str x t from r);cases e;rfl
 | byt b=>obtain ⟨t,e⟩:=(show ∃t,u=Value.bytes b t from r);cases e;rfl
 | flt b=>obtain ⟨t,e⟩:=(show ∃t,u=Value.float b t from r);cases e;rfl
 | ref a=>cases (show u=Value.ref a from r);rfl
 | ty n=>cases (show u=Value.type n from r);rfl
section
variable {P:Program} {w:World} {H H':Hp} {h h':Heap} {a C dx:Addr} {fs fs':List (Str×V)}
theorem yZ (hok:zb P w H h) (e:H a=some (.ins C dx fs)):∃mA,Il h a dx C mA/\(∀f,BJ (fs.lookup f) (mA f))/\PySem.Within mA (fs.map (·.1))/\fs.length<=1000/\H dx=some (.own a):=by
 obtain ⟨d,z,ne,ob,mA,n,r,q⟩:=(show iQ P w H h a (.ins C dx fs) from hok a _ e);exact ⟨mA,⟨ob,n,ne⟩,r,q,z,d⟩
end
structure Kw (K:FG9) (C:Addr):Prop where
 pg:PySem.W.plainGet K C Str.empty=true
 hd:PySem.W.hasDictIn K C=true
 po:PySem.W.plainOver K C=true
 sa:PySem.W.findIn K (.ref C) "__setattr__"=some (some (.builtin "object.__setattr__"))
theorem Kw.get {K:FG9} {C:Addr} (c:Kw K C) (f:Str):PySem.W.plainGet K C f=true:=c.pg
def jx (K:FG9) (C:Addr) (f:Str):Prop:=PySem.W.findIn K (.ref C) f=some none
theorem jx.taker {K:FG9} {C:Addr} {f:Str} (n:jx K C f):PySem.W.takerIn K C f=some none:=by
 unfold PySem.W.takerIn;rw[show PySem.W.findIn K (.ref C) f=some none from n];rfl
structure Kr (K:FG9) (C:Addr) (m:Str) (f:Addr):Prop where
 at_:PySem.W.findIn K (.ref C) m=some (some (.ref f))
 fn:PySem.W.isFn K (.ref f)=true
 kp:PySem.W.keepIn K (.ref f)=true
section
variable {X:Cx} {pins:List (Addr×Obj)} {σ:St} {H:Hp} {s:Shared} {a C dx:Addr} {fs:List (Str×V)} {f:Str} {v:V} {A:Around} {E:Value->Shared->Prop}
theorem HV {b:Bool} {Q:Value->Shared->Prop} (I:Inv X pins σ H s) (e:H a=some (.ins C dx fs)) (c:Kw X.K C) (n:jx X.K C f) (l:fs.lookup f=some v)
  (h:∀u s',Inv X pins σ H s'->RelV v u->Q u s'):wpAny (model X.prog X.w) A (getAttr (.ref a) f b) Q E s:=by
 obtain ⟨mA,O,r,_,_,_⟩:=yZ I.hok e;obtain ⟨u,hu,ru⟩:=BJ.some_of (v:=v) (o:=mA f) (by rw[<- l];exact r f);exact get_map I.kIn O (c.get f) c.hd n hu (Kf ru) (h u _ (I.tok _) ru)
theorem AE {m:Str} {g:Addr} {pl:Sem Bool} {Q:Value×List Value->Shared->Prop} (I:Inv X pins σ H s) (e:H a=some (.ins C dx fs)) (c:Kw X.K C) (k:Kr X.K C m g) (l:fs.lookup m=none)
  (h:Q (.ref g,[.ref a]) s):wpAny (model X.prog X.w) A (getMethod (.ref a) m pl) Q E s:=by
 obtain ⟨mA,O,r,_,_,_⟩:=yZ I.hok e;have hn:mA m=none:=BJ.none_of (by rw[<- l];exact r m);exact L9 I.kIn O (c.get m) k.at_ k.fn hn h
theorem GQ {y:V} {u:Value} {Q:Unit->Shared->Prop} (I:Inv X pins σ H s) (e:H a=some (.ins C dx fs)) (c:Kw X.K C) (n:jx X.K C f) (hl:fs.length < 1000) (ry:RelV y u)
  (h:∀s',Inv X pins σ (upd H a (.ins C dx (cz f y fs))) s'->Q () s'):wpAny (model X.prog X.w) A (setAttr (.ref a) f u) Q E s:=by
 obtain ⟨mA,O,r,wi,_,ho⟩:=yZ I.hok e;have hz:(fs.map (·.1)).length<=sizeLine:=by rw[ah,sizeLine_eq];lia
 refine Nj I.kIn O c.sa c.po n.taker c.hd wi hz λh' O' sb=>h _ ?_
 have hd:∃o,h'.get? dx=some o:=let ⟨o,_,_,e',_⟩:=O'.ns;⟨o,e'⟩
 refine I.write (x:=a) (e:=dx) (by rw[e];exact True.intro) (.inr ho) (λb q hb z=>(sb.2 b hb).trans z) hd ?_;refine ⟨by rw[bf O.ne];exact ho,?_,O.ne,O'.obj,_,O'.ns,λg=>?_,λg hg=>?_⟩
 ·have:=xN f y fs;lia
 ·show BJ ((cz f y fs).lookup g) (if g=f then some u else mA g)
  rw[bG];by_cases q:g=f
  ·rw[if_pos q,if_pos q];exact ry
  ·rw[if_neg q,if_neg q];exact r g
 ·by_cases q:g=f
  ·rw[q];exact (xu f y fs).1
  ·refine (xu f y fs).2 g (wi g λz=>hg ?_);show (if g=f then some u else mA g)=none
   rw[if_neg q];exact z
theorem Inv.made (I:Inv X pins σ H s):Inv X pins σ (upd (upd H s.heap.objs.size (.own (s.heap.objs.size+1))) (s.heap.objs.size+1) (.ins C s.heap.objs.size []))
  { s with heap:=(s.heap.push PySem.W.emptyDict).push (PySem.W.instObj C s.heap.objs.size) }:=by
 have e1:(s.heap.push PySem.W.emptyDict).get? s.heap.objs.size=some PySem.W.emptyDict:=Heap.get?_push_size s.heap rfl
 have e2:((s.heap.push PySem.W.emptyDict).push (PySem.W.instObj C s.heap.objs.size)).get? (s.heap.objs.size+1)=some (PySem.W.instObj C s.heap.objs.size):=by
  have:=Heap.get?_push_size (s.heap.push PySem.W.emptyDict) (o:=PySem.W.instObj C s.heap.objs.size) rfl;rwa [Heap.size_push] at this
 have e3:(s.heap.push PySem.W.emptyDict).Ns s.heap.objs.size (λ_=>none):=⟨PySem.W.emptyDict,#[],_,e1,rfl,(λe he=>absurd he (by simp)),λ_=>rfl⟩;have I1:=I.laid (a:=s.heap.objs.size) (o:=.own (s.heap.objs.size+1)) (h':=s.heap.push PySem.W.emptyDict) (t':=s.toks) (λb u q=>Heap.get?_push_of_some _ q) (aw _) ⟨_,e1⟩;refine I1.laid (a:=s.heap.objs.size+1) (o:=.ins C s.heap.objs.size []) (t':=s.toks) (λb u q=>Heap.get?_push_of_some _ q) (Nat.le_of_eq (Heap.size_push _ _)) ?_;have ne:s.heap.objs.size≠s.heap.objs.size+1:=cQ (gZ _);refine ⟨by rw[bf ne,aE],aZ _,ne,e2,λ_=>none,(Heap.Ns1.of_empty e3).at λo q=>Heap.get?_push_of_some _ q,λ_=>True.intro,λy hy=>absurd rfl hy⟩
theorem Ol {prog:Program} {w:World} {env:Env} {e:Expr} {f:Str} {pos:Pos} {s:Shared} {Q:Value->Shared->Prop} (hb:attributeBase e f env (eval e env)=eval e env)
  (h:wpAny (model prog w) A (eval e env) (λo s₁=>wpAny (model prog w) A (getAttr o f true) Q E s₁) E s):wpAny (model prog w) A (eval (.Attribute e f pos) env) Q E s :=
 Attribute_any_ h (by rw[arm_eval_Attribute,hb])
end
def Ph (K:FG9) (ta:TE) (f:Str):TE:=λσ H Q=>ta σ H λx H1=>∃a C dx fs v,x=.ref a/\H1 a=some (.ins C dx fs)/\Kw K C/\jx K C f/\fs.lookup f=some v/\Q v H1
def Rp (K:FG9) (ta tv:TE) (f:Str):TS:=λD σ H=>tv σ H λy H1=>ta σ H1 λx H2=>∃a C dx fs,x=.ref a/\H2 a=some (.ins C dx fs)/\Kw K C/\jx K C f/\fs.length < 1000 /\
 D.nx σ (upd H2 a (.ins C dx (cz f y fs)))
section
variable {X:Cx} {o e value:Expr} {f:Str} {pos pos' tpos:Pos} {ta tv:TE}
theorem eJ (he:PE X e ta) (hb:attributeBase e f X.env (eval e X.env)=eval e X.env):PE X (.Attribute e f pos) (Ph X.K ta f):=by
 intro pins s σ H Q I h;refine Ol hb (fO (he pins s σ H _ I h) λu s1 ⟨x,H1,I1,rx,a,C,dx,fs,v,ex,ea,c,n,l,q⟩=>?_);subst ex;obtain rfl:u=Value.ref a:=rx;exact HV I1 ea c n l λu' s2 I2 ru=>⟨v,H1,I2,ru,q⟩
theorem xc (ha:PE X o ta) (hv:PE X value tv) (hs:swapsWith value (some (.Attribute o f pos')) pos.line X.env=pure false):PS X (.Assign [.Attribute o f pos'] value pos) (Rp X.K ta tv f):=by
 intro pins s σ H D I h;refine plainObj_wpAny_Assign_Attribute (fO (hv pins s σ H _ I h) λu s1 ⟨y,H1,I1,ry,q⟩=>fO (ha pins s1 σ H1 _ I1 q) λov s2 ⟨x,H2,I2,rx,a,C,dx,fs,ex,ea,c,n,l,q2⟩=>?_) hs;subst ex;obtain rfl:ov=Value.ref a:=rx;exact GQ I2 ea c n l ry λs3 I3=>⟨σ,_,I3,q2⟩
end
section
variable {X:Cx} {pins:List (Addr×Obj)} {σ:St} {H:Hp} {s:Shared} {A:Around} {E:Value->Shared->Prop} {Q:Value->Shared->Prop} {c:Value} {b:Bool}
inductive xy (K:FG9) (H:Hp):V->Value->Prop where
 | non:xy K H .non (.type "NoneType")
 | bl (x:Bool):xy K H (.bl x) (.type "bool")
 | int (i:Int):xy K H (.int i) (.type "int")
 | str (x:Str):xy K H (.str x) (.type "str")
 | flt (x:UInt64):xy K H (.flt x) (.type "float")
 | lst {a:Addr} {xs:List V} (e:H a=some (.lst xs)):xy K H (.ref a) (.type "list")
 | frz {a:Addr} {o:Obj} {xs:List V} (e:H a=some (.frz o (.lst xs))):xy K H (.ref a) (.type "list")
 | tup {a:Addr} {xs:List V} (e:H a=some (.tup xs)):xy K H (.ref a) (.type "tuple")
 | dK {a:Addr} {kvs:List (Key×V)} (e:H a=some (.dK kvs)):xy K H (.ref a) (.type "dict")
 | dT {a:Addr} {kvs:List (List Key×V)} (e:H a=some (.dT kvs)):xy K H (.ref a) (.type "dict")
 | ins {a C dx:Addr} {fs:List (Str×V)} (e:H a=some (.ins C dx fs)) (cl:Kw K C) (ha:PySem.W.findIn K (.ref C) "__class__"=some (some (.builtin "object.__class__")))
   (hn:PySem.W.specialIn K (.builtin "object.__class__") "__get__"=some (some (.builtin "getset_descriptor.__get__"))) (htk:PySem.W.takesIn K (.builtin "object.__class__")=some true)
   (hm:PySem.W.mroIn K C (.type "object")=some true):xy K H (.ref a) (.ref C)
theorem CB {x:V} {u t:Value} (I:Inv X pins σ H s) (rx:RelV x u) (ty:xy X.K H x t) (e:PySem.W.kitOne X.K t c=some b) (h:∀tk,Q (.bool b) { s with toks:=tk }) :
  wpAny (model X.prog X.w) A (call (.builtin "isinstance") [u,c]) Q E s:=by
 cases ty with
 | non=>cases (show u=Value.none from rx);exact dj PySem.W.kitx_none I.kIn True.intro e (λz=>nomatch z) h
 | bl y=>cases (show u=Value.bool y from rx);exact dj PySem.W.kitx_bool I.kIn True.intro e (λz=>nomatch z) h
 | int i=>obtain ⟨t,q⟩:=(show ∃t,u=Value.int i t from rx);cases q;exact dj PySem.W.kitx_int I.kIn True.intro e (λz=>nomatch z) h
 | str y=>obtain ⟨t,q⟩:=(show ∃t,u=Value.str y t from rx);cases q;exact dj PySem.W.kitx_str I.kIn True.intro e (λz=>nomatch z) h
 | flt y=>obtain ⟨t,q⟩:=(show ∃t,u=Value.float y t from rx);cases q;exact dj PySem.W.kitx_float I.kIn True.intro e (λz=>nomatch z) h
 | @lst a xs ea =>
  cases (show u=Value.ref a from rx);obtain ⟨_,_,n,_,h1⟩:=(show iQ X.prog X.w H s.heap a (.lst xs) from I.hok a _ ea);exact dj PySem.W.kitx_list I.kIn ⟨_,h1,rfl⟩ e (λz=>nomatch z) h
 | @frz a ob xs ea =>
  cases (show u=Value.ref a from rx);obtain ⟨_,_,_,n,_,h1⟩:=(show iQ X.prog X.w H s.heap a (.frz ob (.lst xs)) from I.hok a _ ea);exact dj PySem.W.kitx_list I.kIn ⟨_,h1,rfl⟩ e (λz=>nomatch z) h
 | @tup a xs ea =>
  cases (show u=Value.ref a from rx);obtain ⟨_,_,_,p⟩:=(show iQ X.prog X.w H s.heap a (.tup xs) from I.hok a _ ea);obtain ⟨o,h1,h2,_⟩:=p;exact dj PySem.W.kitx_tuple I.kIn ⟨o,h1,h2⟩ e (λz=>nomatch z) h
 | @dK a kvs ea =>
  cases (show u=Value.ref a from rx);obtain ⟨_,_,vs,_,p⟩:=(show iQ X.prog X.w H s.heap a (.dK kvs) from I.hok a _ ea);obtain ⟨o,es,ep,h1,h2,_⟩:=p;exact dj PySem.W.kitx_dict I.kIn ⟨o,h1,h2.1⟩ e (λz=>nomatch z) h
 | @dT a kvs ea =>
  cases (show u=Value.ref a from rx);obtain ⟨_,_,xs,_,o,es,ep,h1,h2,_⟩:=(show iQ X.prog X.w H s.heap a (.dT kvs) from I.hok a _ ea);exact dj PySem.W.kitx_dict I.kIn ⟨o,h1,h2.1⟩ e (λz=>nomatch z) h
 | @ins a C dx fs ea cl ha hn htk hm =>
  cases (show u=Value.ref a from rx);obtain ⟨mA,O,_⟩:=yZ I.hok ea;obtain ⟨od,J,_⟩:=O.look;exact dj (PySem.W.kitx_own (cl.get _) cl.hd ha hn htk hm) I.kIn J e (λz=>nomatch z) h
end
structure jQ (k:Nat) (A:Around):Prop where
 hd:A.handled=none
 dp:A.depth+3*k+105 < recursionLimit
 un:A.units+16*k+200 < cLine
theorem jQ.mono {j k:Nat} {A:Around} (r:jQ k A) (h:j<=k):jQ j A:=⟨r.hd,by have:=r.dp;lia,by have:=r.un;lia⟩
theorem jQ.deeper {k:Nat} {A:Around} (r:jQ (k+1) A) (env:Env):jQ k (A.deeper env) :=
 ⟨r.hd,by have:=r.dp;show A.depth+1+3*k+105 < _;lia,by have:=r.un;show A.units+3+16*k+200 < _;lia⟩
theorem HQ {A:Around} {C:Addr} {us:List Value} {kw:List (Str×Value)}:(A.under (.builtin "type.__call__" ⟨.ref C :: us,kw⟩)).depth=A.depth+1:=by
 first | rfl | simp [Around.under,Code.weight,Code.isCreation,Code.isGuard,Code.isCaller,Code.frames,Code.isFrame,guardIds]
theorem HP {A:Around} {C:Addr} {us:List Value} {kw:List (Str×Value)}:(A.under (.builtin "type.__call__" ⟨.ref C :: us,kw⟩)).units=A.units+1:=by
 first | rfl | simp [Around.under,Code.cUnits,Code.frames,Code.isFrame]
theorem jQ.make {k:Nat} {A:Around} (r:jQ (k+1) A) (C:Addr) (us:List Value) (kw:List (Str×Value)):jQ k (A.under (.builtin "type.__call__" ⟨.ref C :: us,kw⟩)) :=
 ⟨r.hd,by have:=r.dp;rw[HQ];lia,by have:=r.un;rw[HP];lia⟩
theorem jQ.depth {k:Nat} {A:Around} (r:jQ k A):A.depth < recursionLimit:=by have:=r.dp;lia
theorem jQ.units {k:Nat} {A:Around} (r:jQ k A):A.units+64 < cLine:=by have:=r.un;lia
def GK:TA:=λ_ H Q=>Q [] H
def qi (ta:TE) (tr:TA):TA:=λσ H Q=>ta σ H λx H1=>tr σ H1 λxs H2=>Q (x :: xs) H2
section
variable {X:Cx} {e:Expr} {es:List Expr} {te:TE} {t:TA} {pos:Pos}
theorem aj:PA X [] GK:=λ_ _ _ _ H Q I h=>Calls.spliced_nil ⟨[],H,I,.nil,h⟩
theorem ae (ha:PE X e te) (hr:PA X es t) (hs:starEach (e :: es) X.env=(false,eval e X.env) :: starEach es X.env:=by rfl):PA X (e :: es) (qi te t):=by
 intro pos pins s σ H Q I h;rw[hs];show wpAny _ _ (spliced ((false,eval e X.env) :: backTo pos (starEach es X.env))) _ _ s
 refine Calls.spliced_cons (fO (ha pins s σ H _ I h) λu s1 ⟨x,H1,I1,r1,q1⟩=>?_);exact fO (hr pos pins s1 σ H1 _ I1 q1) λus s2 ⟨xs,H2,I2,r2,q2⟩=>⟨x :: xs,H2,I2,.cons r1 r2,q2⟩
def QY (t:TA):TE:=λσ H Q=>t σ H λxs H1=>xs.length<=sizeLine/\∀p,H1 p=none->Q (.ref p) (upd H1 p (.tup xs))
def Q5 (t:TA):TE:=λσ H Q=>t σ H λxs H1=>xs.length<=sizeLine/\∀p,H1 p=none->Q (.ref p) (upd H1 p (.lst xs))
theorem c8 {x1} (h:PA X es t):PE X (.Tuple es x1 pos) (QY t):=by
 intro pins s σ H Q I hq;refine wpAny_Tuple_spliced (fO (h pos pins s σ H _ I hq) λus s1 ⟨xs,H1,I1,r,z,q⟩=>⟨by rw[<- r.length];exact z,?_⟩);have hf:H1 s1.heap.objs.size=none:=I1.hok.fresh (aw _);refine ⟨.ref s1.heap.objs.size,upd H1 s1.heap.objs.size (.tup xs),I1.laid (t':=s1.toks) (λb u e=>Heap.get?_push_of_some _ e) (aw _) ?_,rfl,q _ hf⟩;exact ⟨z,us,r,⟨_,Heap.get?_push_size _ rfl,rfl,_,rfl⟩⟩
theorem du (h:PA X es t):PE X (.List es pos) (Q5 t):=by
 intro pins s σ H Q I hq;refine wpAny_List_spliced (fO (h pos pins s σ H _ I hq) λus s1 ⟨xs,H1,I1,r,z,q⟩=>⟨by rw[<- r.length];exact z,?_⟩);have hf:H1 s1.heap.objs.size=none:=I1.hok.fresh (aw _);refine ⟨.ref s1.heap.objs.size,upd H1 s1.heap.objs.size (.lst xs),I1.laid (t':=s1.toks) (λb u e=>Heap.get?_push_of_some _ e) (aw _) ?_,rfl,q _ hf⟩;exact ⟨z,us,0,r,Heap.get?_push_size _ rfl⟩
end
abbrev Sp:=List V->Hp->VK->XK->Prop
abbrev MO:=List Env->Hp->Shared->XK->Value->Shared->Prop
structure Ip (P:Program) (w:World) (K:FG9) (mg:Str->Option Value) (base:Heap) (A:Around) (outer:List Env) (s:Shared) (H:Hp):Prop where
 frames:A.frames=some outer
 mod:Mod K mg base
 bs:∀b o,base.get? b=some o->s.heap.get? b=some o/\H b=none
 bsz:base.objs.size<=s.heap.objs.size
 funs:s.heap.FunFrames base outer
 frf:∀b∈KA outer,H b=none
 hok:zb P w H s.heap
 bare:AllBare s.gens
def CE (outer:List Env) (P:Program) (w:World) (H:Hp) (s:Shared) (Q:VK) (u:Value) (s':Shared):Prop :=
 ∃v H',s'.os=s.os/\AllBare s'.gens/\Un (KA outer) [] H H' s.heap s'.heap/\zb P w H' s'.heap/\RelV v u/\Q v H'
def CR (CX:MO) (outer:List Env) (P:Program) (w:World) (H:Hp) (s:Shared) (Q:VK) (E:XK) (r:Result) (s':Shared):Prop :=
 match r with
 | .ok (.ret u)=>CE outer P w H s Q u s'
 | .ok _=>False
 | .error e=>CX outer H s E e s'
structure cC (P:Program) (w:World) (K:FG9) (mg:Str->Option Value) (base:Heap) (CX:MO) (k:Nat) (f:Addr) (fd:FuncData) (ps:List Str) (sp:Sp):Prop where
 len:∀vs H Q E,sp vs H Q E->vs.length=ps.length
 run:∀(A:Around) (outer:List Env) (s:Shared) (H:Hp) (args:Args) (us:List Value) (vs:List V) (Q:VK) (E:XK),jQ k A->Ip P w K mg base A outer s H->BindsTo s fd args (ps.zip us)->cZ vs us->sp vs H Q E →
  codeAny (model P w) A (.call (.ref f) args) (CR CX outer P w H s Q E) s
theorem Ip.make {P:Program} {w:World} {K:FG9} {mg:Str->Option Value} {base:Heap} {A:Around} {outer:List Env} {s:Shared} {H:Hp} (e:Ip P w K mg base A outer s H) (C:Addr) (us:List Value) (kw:List (Str×Value)) :
  Ip P w K mg base (A.under (.builtin "type.__call__" ⟨.ref C :: us,kw⟩)) outer s H:=⟨by first | exact e.frames | (simpa [Around.under,Code.envs,Code.isFrame,pushEnvs] using e.frames),e.mod,e.bs,e.bsz,e.funs,e.frf,e.hok,e.bare⟩
section
variable {X:Cx} {pins:List (Addr×Obj)} {σ:St} {H:Hp} {s s':Shared}
theorem Inv.env0 (I:Inv X pins σ H s):Ip X.prog X.w X.K X.mg X.base X.A X.stack s H :=
 ⟨I.ok.frames,I.ok.mod,I.bs,ai I.ok.bsz I.sz,I.stack,I.stkFree,I.hok,I.bare⟩
theorem Inv.after {Q:VK} {u:Value} (I:Inv X pins σ H s) (h:CE X.stack X.prog X.w H s Q u s'):EP X pins σ Q u s':=by
 obtain ⟨v,H',os,bare,un,hok,r,q⟩:=h;obtain ⟨hh,g,d,t,os'⟩:=s';obtain rfl:os'=s.os:=os;exact ⟨v,H',I.call (h':=hh) (g':=g) (d':=d) (t':=t) (ch:=[]) un hok bare (λb z=>absurd z (by simp)),r,q⟩
end
def KY (sp:Sp) (dvs:List V) (E:XK) (t:TA):TE:=λσ H Q=>t σ H λvs H1=>sp (vs++dvs) H1 Q E
def KW (C:Addr) (m:Str) (sp:Sp) (dvs:List V) (E:XK) (ta:TE) (t:TA):TE:=λσ H Q=>ta σ H λx H1=>∃a dx fs,x=.ref a/\H1 a=some (.ins C dx fs)/\fs.lookup m=none /\
 t σ H1 λvs H2=>sp (x :: (vs++dvs)) H2 Q E
def Oz (C:Addr) (sp:Sp) (dvs:List V) (E:XK) (t:TA):TE:=λσ H Q=>t σ H λvs H1=>∀x dx,H1 x=none->H1 dx=none->dx≠x →
 sp (.ref x :: (vs++dvs)) (upd (upd H1 dx (.own x)) x (.ins C dx [])) (λv H2=>v=.non/\Q (.ref x) H2) E
def Binds (K:FG9) (fd:FuncData) (ps:List Str) (ds:List Value):Prop :=
 ∀(s:Shared) (us:List Value),K.In s.heap->(us++ds).length=ps.length->BindsTo s fd ⟨us,[]⟩ (ps.zip (us++ds))
theorem Binds.all {K:FG9} {fd:FuncData} {ps:List Str} (h:∀us:List Value,us.length=ps.length->bindArgs fd ⟨us,[]⟩=pure (ps.zip us)):Binds K fd ps []:=λs us _ hl=>by
 rw[qe] at hl ⊢;exact .of_eq (h us hl)
def uA (CX:MO) (X:Cx) (E:XK):Prop:=∀(pins:List (Addr×Obj)) (σ:St) (H:Hp) (s:Shared) (e:Value) (s':Shared),Inv X pins σ H s->CX X.stack H s E e s'->X.xe e s'
section
variable {X:Cx} {CX:MO} {k:Nat} {f C:Addr} {fd:FuncData} {ps:List Str} {sp:Sp} {dvs:List V} {ds:List Value} {E:XK} {x m:Str} {p pos apos:Pos} {e o:Expr} {es:List Expr} {ta:TE} {t:TA}
theorem GX {pins:List (Addr×Obj)} {σ:St} {H:Hp} {s:Shared} {Q:VK} {us:List Value} {vs:List V} (F:cC X.prog X.w X.K X.mg X.base CX k f fd ps sp) (hr:jQ k X.A) (hb:Binds X.K fd ps ds) (hd:cZ dvs ds) (hx:uA CX X E)
  (I:Inv X pins σ H s) (r:cZ vs us) (h:sp (vs++dvs) H Q E):wpAny (model X.prog X.w) X.A (call (.ref f) us) (EP X pins σ Q) X.xe s:=by
 have r2:cZ (vs++dvs) (us++ds):=r.append hd;have hl:(us++ds).length=ps.length:=by rw[<- r2.length];exact F.len _ _ _ _ h
 refine wpAny_call (codeAny_mono (F.run X.A X.stack s H ⟨us,[]⟩ (us++ds) (vs++dvs) Q E hr I.env0 (hb s us I.kIn hl) r2 h) λr s' hq=>?_);cases r with
 | error e=>exact hx pins σ H s e s' I hq
 | ok fl =>
  cases fl with
  | ret u=>exact I.after hq
  | next=>exact False.elim hq
  | brk=>exact False.elim hq
  | cont=>exact False.elim hq
theorem NV (F:cC X.prog X.w X.K X.mg X.base CX k f fd ps sp) (hr:jQ k X.A) (hg:Gl X x) (hm:X.mg x=some (.ref f)) (hk:PySem.W.keepIn X.K (.ref f)=true) (hb:Binds X.K fd ps ds) (hd:cZ dvs ds) (hx:uA CX X E)
  (ha:PA X (e :: es) t) (hdb:(x == ("__debug__":Str))=false:=by decide) (he:starEach (e :: es) X.env=(false,eval e X.env) :: starEach es X.env:=by rfl) (hpl:(backTo pos (starEach es X.env)).any (·.1)=false:=by rfl) :
  PE X (.Call (.Name x p) (e :: es) [] pos) (KY sp dvs E t):=by
 intro pins s σ H Q I h;refine wpAny_Call_Name_kw (Ee I hg hm ?_ hdb);refine Gv (h₀:=X.base) I.ok.mod.kin hk (fO (ha pos pins s σ H _ I h) λus s1 ⟨vs,H1,I1,r,q⟩=>⟨I1.kIn,?_⟩) he hpl;exact GX F hr hb hd hx I1 r q
theorem IH {pl : Sem Bool} (he : PE X o ta) (c : Kw X.K C) (hm : Kr X.K C m f) (F : cC X.prog X.w X.K X.mg X.base CX k f fd ps sp) (hr : jQ k X.A) (hb : Binds X.K fd ps ds) (hd : cZ dvs ds) (hx : uA CX X E) (ha : PA X (e :: es) t)
    (hst : starEach (e :: es) X.env = (false, eval e X.env) :: starEach es X.env := by rfl) (hpl : (backTo pos (starEach es X.env)).any (·.1) = false := by rfl)
    (ht : eval (.Call (.Attribute o m apos) (e :: es) [] pos) X.env = (do
      let ov <- eval o X.env
      standAt apos.atName
      let (f, first) <- holding [ov] (getMethod ov m pl)
      callWith pos f first (backTo pos (starEach (e :: es) X.env)) (backToKw pos (keywordEach [] X.env))) := by rfl) :
    PE X (.Call (.Attribute o m apos) (e :: es) [] pos) (KW C m sp dvs E ta t) := by
  intro pins s σ H Q I h;refine PySem.W.methodCall_KW (pl := pl) (fO (he pins s σ H _ I h) λu s1 ⟨x, H1, I1, rx, a, dx, fs, ex, ea, l, q⟩ => ?_) ht;subst ex;obtain rfl : u = Value.ref a := rx;refine AE I1 ea c hm l ?_;refine Gv (first := [.ref a]) (h₀ := X.base) I.ok.mod.kin hm.kp (fO (ha pos pins s1 σ H1 _ I1 q) λus s2 ⟨vs, H2, I2, r, q2⟩ => ⟨I2.kIn, ?_⟩) hst hpl;exact GX (us := .ref a :: us) (vs := .ref a :: vs) F hr hb hd hx I2 (.cons rfl r) q2
theorem Fs {pl : Sem Bool} (he : PE X o ta) (c : Kw X.K C) (hm : Kr X.K C m f) (F : cC X.prog X.w X.K X.mg X.base CX k f fd ps sp) (hr : jQ k X.A) (hb : Binds X.K fd ps ds) (hd : cZ dvs ds) (hx : uA CX X E)
    (ht : eval (.Call (.Attribute o m apos) [] [] pos) X.env = (do
      let ov <- eval o X.env
      standAt apos.atName
      let (f, first) <- holding [ov] (getMethod ov m pl)
      callWith pos f first (backTo pos (starEach [] X.env)) (backToKw pos (keywordEach [] X.env))) := by rfl) :
    PE X (.Call (.Attribute o m apos) [] [] pos) (KW C m sp dvs E ta GK) := by
  intro pins s σ H Q I h;refine PySem.W.methodCall_KW (pl := pl) (fO (he pins s σ H _ I h) λu s1 ⟨x, H1, I1, rx, a, dx, fs, ex, ea, l, q⟩ => ?_) ht;subst ex;obtain rfl : u = Value.ref a := rx;refine AE I1 ea c hm l ?_;exact PySem.W.callWith_K0 (first := [.ref a]) I1.kIn hm.kp (GX (us := [.ref a]) (vs := [.ref a]) F hr hb hd hx I1 (.cons rfl .nil) q)

structure Mk (K:FG9) (C f:Addr):Prop where
 makes:PySem.W.makesIn K C=true
 init:PySem.W.findIn K (.ref C) "__init__"=some (some (.ref f))
 fn:PySem.W.isFn K (.ref f)=true
 kp:PySem.W.keepIn K (.ref C)=true
theorem Lf {pins:List (Addr×Obj)} {σ:St} {H:Hp} {s:Shared} {Q:VK} {us:List Value} {vs:List V} (M:Mk X.K C f) (F:cC X.prog X.w X.K X.mg X.base CX k f fd ps sp) (hr:jQ (k+1) X.A) (hb:Binds X.K fd ps ds) (hd:cZ dvs ds)
  (hx:uA CX X E) (I:Inv X pins σ H s) (r:cZ vs us)
  (h:∀x dx,H x=none->H dx=none->dx≠x->sp (.ref x :: (vs++dvs)) (upd (upd H dx (.own x)) x (.ins C dx [])) (λv H2=>v=.non/\Q (.ref x) H2) E) :
  wpAny (model X.prog X.w) X.A (call (.ref C) us) (EP X pins σ Q) X.xe s:=by
 have hq:=h (s.heap.objs.size+1) s.heap.objs.size (I.hok.fresh (wd _)) (I.hok.fresh (aw _)) (cQ (gZ _));have I2:=Inv.made (C:=C) I;have r2:cZ (V.ref (s.heap.objs.size+1) :: (vs++dvs)) (Value.ref (s.heap.objs.size+1) :: (us++ds)):=.cons rfl (r.append hd)
 have hl:(Value.ref (s.heap.objs.size+1) :: us++ds).length=ps.length:=by
  have e:=r2.length;rw[F.len _ _ _ _ hq] at e;exact e.symm
 refine wpAny_call (LP (f:=f) I.kIn M.makes M.init (beq_iff_eq.mp M.fn) (codeAny_mono (F.run _ X.stack _ _ ⟨Value.ref (s.heap.objs.size+1) :: us,[]⟩ (Value.ref (s.heap.objs.size+1) :: (us++ds)) _ _ E (hr.make C us [])
  (I2.env0.make C us []) (hb _ (Value.ref (s.heap.objs.size+1) :: us) I2.kIn hl) r2 hq) λr s' hq'=>?_))
 cases r with
 | error e=>exact hx pins σ _ _ e s' I2 hq'
 | ok fl =>
  cases fl with
  | ret u =>
   obtain ⟨v,H',I3,rv,ev,q3⟩:=I2.after hq';subst ev;exact ⟨rv,⟨V.ref (s.heap.objs.size+1),H',I3,rfl,q3⟩⟩
  | next=>exact False.elim hq'
  | brk=>exact False.elim hq'
  | cont=>exact False.elim hq'
theorem II (M:Mk X.K C f) (F:cC X.prog X.w X.K X.mg X.base CX k f fd ps sp) (hr:jQ (k+1) X.A) (hg:Gl X x) (hm:X.mg x=some (.ref C)) (hb:Binds X.K fd ps ds) (hd:cZ dvs ds) (hx:uA CX X E)
  (ha:PA X (e :: es) t) (hdb:(x == ("__debug__":Str))=false:=by decide) (he:starEach (e :: es) X.env=(false,eval e X.env) :: starEach es X.env:=by rfl) (hpl:(backTo pos (starEach es X.env)).any (·.1)=false:=by rfl) :
  PE X (.Call (.Name x p) (e :: es) [] pos) (Oz C sp dvs E t):=by
 intro pins s σ H Q I h;refine wpAny_Call_Name_kw (Ee I hg hm ?_ hdb);refine Gv (h₀:=X.base) I.ok.mod.kin M.kp (fO (ha pos pins s σ H _ I h) λus s1 ⟨vs,H1,I1,r,q⟩=>⟨I1.kIn,?_⟩) he hpl;exact Lf M F hr hb hd hx I1 r q
end
structure aP (N P:List Str) (sc:Scope):Prop where
 kind:sc.kind=.function
 co:sc.isCoroutine=false
 gen:sc.isGenerator=false
 nd:N.Nodup
 pre:N.take P.length=P
 par:∀x∈P,sc.names.lookup x=some .local\/sc.names.lookup x=some .cell
 nofree:∀y∈sc.names,y.2≠.free
theorem CY {kindOf:Str->Option NameKind} {x:Str}:∀{binds:List (Str×Value)} {m:Str->Option Value},(∀v,(x,v)∉binds)->bindL kindOf binds m x=m x
 | [],_,_=>rfl
 | (n,v) :: r,m,h=>by
  unfold bindL;rw[CY λw hw=>h w (bZ _ hw)]
  split
  ·have:x≠n:=by rintro rfl;exact h v de
   simp [this]
  ·rfl
theorem C1 {kindOf:Str->Option NameKind} {x:Str}:∀{binds:List (Str×Value)} {m:Str->Option Value},(∀v,(x,v)∉binds)->bindC kindOf binds m x=m x
 | [],_,_=>rfl
 | (n,v) :: r,m,h=>by
  unfold bindC;rw[C1 λw hw=>h w (bZ _ hw)]
  split
  ·rfl
  ·have:x≠n:=by rintro rfl;exact h v de
   simp [this]
theorem CZ {kindOf:Str->Option NameKind} {x:Str} {v:Value}:∀{P:List Str} {vs:List Value} {i:Nat} {m:Str->Option Value},P.Nodup->P[i]?=some x->vs[i]?=some v->kindOf x=some .local →
  bindL kindOf (P.zip vs) m x=some v
 | [],_,_,_,_,h,_,_=>by simp at h
 | _ :: _,[],_,_,_,_,h,_=>by simp at h
 | p :: P,w :: vs,0,m,nd,h1,h2,hk=>by
  simp at h1 h2;subst h1;subst h2;show bindL kindOf ((p,w) :: P.zip vs) m p=_
  unfold bindL;rw[CY λv hv=>(dS.mp nd).1 (MS hv).1,if_pos hk];simp
 | p :: P,w :: vs,i+1,m,nd,h1,h2,hk=>by
  show bindL kindOf ((p,w) :: P.zip vs) m x=_
  unfold bindL;exact CZ (i:=i) (dS.mp nd).2 (by simpa using h1) (by simpa using h2) hk
theorem C2 {kindOf:Str->Option NameKind} {x:Str} {v:Value}:∀{P:List Str} {vs:List Value} {i:Nat} {m:Str->Option Value},P.Nodup->P[i]?=some x->vs[i]?=some v->kindOf x≠some .local →
  bindC kindOf (P.zip vs) m x=some v
 | [],_,_,_,_,h,_,_=>by simp at h
 | _ :: _,[],_,_,_,_,h,_=>by simp at h
 | p :: P,w :: vs,0,m,nd,h1,h2,hk=>by
  simp at h1 h2;subst h1;subst h2;show bindC kindOf ((p,w) :: P.zip vs) m p=_
  unfold bindC;rw[C1 λv hv=>(dS.mp nd).1 (MS hv).1,if_neg hk];simp
 | p :: P,w :: vs,i+1,m,nd,h1,h2,hk=>by
  show bindC kindOf ((p,w) :: P.zip vs) m x=_
  unfold bindC;exact C2 (i:=i) (dS.mp nd).2 (by simpa using h1) (by simpa using h2) hk
def start (N:List Str) (vs:List V):St:=vs.map some++List.replicate (N.length - vs.length) none
def Kk (CX:MO) (P:Program) (w:World) (K:FG9) (mg:Str->Option Value) (base:Heap) (N:List Str) (qual:Str) (scope:Scope) (f:Addr) (cd:Value) (A:Around) (outer:List Env) (s:Shared) (H:Hp) (E:XK):Cx where
 prog:=P
 w:=w
 K:=K
 mg:=mg
 base:=base
 A:=A.deeper (envOfC qual scope s.heap.objs.size f cd)
 N:=N
 s₀:=s
 H₀:=H
 env:=envOfC qual scope s.heap.objs.size f cd
 outer:=outer
 stack:=envOfC qual scope s.heap.objs.size f cd :: outer
 ex:=[]
 calm:=true
 fn:=λ_=>true
 pn:=[]
 xe:=λe s'=>wpAny (model P w) (A.deeper (envOfC qual scope s.heap.objs.size f cd)) (leaving (envOfC qual scope s.heap.objs.size f cd) e) (λ_ s''=>CX outer H s E e s'') (λe' s''=>CX outer H s E e' s'') s'
theorem FR {sc:Scope} {n:Nat} {x:Str} (h:sc.names.lookup x=some .cell):∃c,(cellsFrom n sc.names []).lookup x=some c:=by
 have q:=zd sc.names n [] (.inl h);exact QU.mp q
theorem Kc {CX:MO} {P:Program} {w:World} {K:FG9} {mg:Str->Option Value} {base:Heap} {N ps:List Str} {qual:Str} {scope:Scope} {f:Addr} {cd:Value} {A:Around} {outer:List Env} {s s1:Shared} {H:Hp} {E:XK} {us:List Value} {vs:List V}
  (S:aP N ps scope) (hd:A.handled=none) (e0:Ip P w K mg base A outer s H) (hl:vs.length=ps.length) (r:cZ vs us)
  (x:InCallC s s.heap.objs.size (bindL (envOfC qual scope s.heap.objs.size f cd).kindOf (ps.zip us) λ_=>none) (cellsFrom (s.heap.objs.size+1) scope.names []) (bindC (envOfC qual scope s.heap.objs.size f cd).kindOf (ps.zip us) λ_=>none) s1) :
  Inv (Kk CX P w K mg base N qual scope f cd A outer s H E) [] (start N vs) H s1:=by
 have hpl:ps.length<=N.length:=by have:=congrArg List.length S.pre;rw[bR] at this;lia
 obtain ⟨h1,tk,rfl,hk⟩:=x.done;have noA:∀b:Addr,b∉(Kk CX P w K mg base N qual scope f cd A outer s H E).ex:=λb z=>absurd (show b∈([]:List Addr) from z) (by simp)
 refine ⟨⟨e0.mod,S.kind,rfl,rfl,aw _,λy z c h1 h2=>?_,λy hy=>?_,λy c _ h=>?_,λ_=>hd,Around.frames_deeper e0.frames,.inr ⟨rfl,rfl⟩,λb z=>absurd z (noA b),e0.bs,e0.bsz,λb _ _=>noA b,λb z=>absurd z (noA b),e0.funs,e0.frf⟩,
  rfl,e0.bare,Un.kept hk,⟨_,x.toInCall.ns,λi y v h1 h2 h3=>?_⟩,λy c h=>⟨_,x.cell y c h⟩,e0.hok.fresh (aw _),λy c h=>?_,λp hp=>absurd (show p∈([]:List (Addr×Obj)) from hp) (by simp),e0.hok.kept hk,?_⟩
 ·exact name_of_addr x.apart (kg h1) (kg h2)
 ·have hy:scope.names.lookup y=some .cell\/scope.names.lookup y=some .free:=hy;rcases hy with hy | hy
  ·exact FR hy
  ·exact absurd rfl (S.nofree _ (kg hy))
 ·exact bc (x.above y c (kg h))
 ·have hi:i < vs.length:=by
   unfold start at h2;by_cases hi:i < vs.length
   ·exact hi
   ·rw[bT (by simpa using hi)] at h2;rw[Sy] at h2
    split at h2 <;> cases h2
  have ha:vs[i]?=some v:=by
   unfold start at h2;rw[cN (by simpa using hi),aD] at h2;cases e:vs[i]? with
   | none=>rw[e] at h2;cases h2
   | some a=>rw[e] at h2;cases h2;rfl
  obtain ⟨u,hu,rv⟩:=r.get ha
  have hp:ps[i]?=some y:=by
   rw[<- S.pre,kC (by lia)];exact h1
  have ndP:ps.Nodup:=by rw[<- S.pre];exact S.nd.sublist (List.take_sublist _ _)
  refine ⟨u,rv,?_⟩;rcases S.par y (au hp) with k | k
  ·exact .inl ⟨k,CZ ndP hp hu k⟩
  ·obtain ⟨c,e⟩:=FR (n:=s.heap.objs.size+1) k;refine .inr ⟨.inl k,c,e,?_⟩;have q:=x.cell y c e;rw[C2 ndP hp hu (by show scope.names.lookup y≠_;rw[k];decide)] at q;exact q
 ·exact e0.hok.fresh (bc (x.above y c (kg h)))
 ·unfold start;show _=N.length
  rw[ao,ah,fN]
  lia
theorem Sf {CX:MO} {P:Program} {w:World} {K:FG9} {mg:Str->Option Value} {base:Heap} {k:Nat} {f:Addr} {name qual:Str} {params:Arguments} {body:List Stmt} {scope:Scope} {dV kV doc pm cdv ct oc:Value} {an od:Option Addr}
  {osl:Array (Option Value)} {N ps:List Str} {sp:Sp} (lk:K.lookup f=some ⟨oc,od,.func (PySem.W.fnOf name qual params body scope dV kV doc pm an cdv ct),osl⟩) (hcd:PySem.W.codeIn K cdv qual=true) (S:aP N ps scope)
  (len:∀vs H Q E,sp vs H Q E->vs.length=ps.length)
  (hbody:∀(A:Around) (outer:List Env) (s:Shared) (H:Hp) (vs:List V) (Q:VK) (E:XK),jQ k (A.deeper (envOfC qual scope s.heap.objs.size f cdv))->sp vs H Q E →
   ∃t,Ik (Kk CX P w K mg base N qual scope f cdv A outer s H E) body t/\t { nx:=λ_ H'=>Q .non H',rt:=Q } (start N vs) H) :
  cC P w K mg base CX (k+1) f (PySem.W.fnOf name qual params body scope dV kV doc pm an cdv ct) ps sp:=by
 refine ⟨len,λA outer s H args us vs Q E hr e0 hb r hsp=>?_⟩;have hl:=len _ _ _ _ hsp;have KX:K.In s.heap:=e0.mod.kin.keeps λb o e=>(e0.bs b o e).1
 have lim:s.heap.NoLimit:=e0.mod.nolimit.keeps λb o e=>(e0.bs b o e).1
 have hkind:∀y∈ps.zip us,scope.names.lookup y.1=some .local\/(scope.names.lookup y.1=some .cell/\((cellsFrom (s.heap.objs.size+1) scope.names []).lookup y.1).isSome=true):=λ⟨n,v⟩ hy=>by
  rcases S.par n (MS hy).1 with q | q
  ·exact .inl q
  ·exact .inr ⟨q,zd _ _ _ (.inl q)⟩
 refine codeAny_call_function hr.depth (KX _ _ lk) rfl S.co S.gen rfl (PySem.W.codeRec_of KX hcd) (hb _ _ _ _ ?_);refine wpAny_newFunctionEnv_cells S.kind hkind λenv he s1 x=>?_
 subst he;refine ⟨lim.keeps x.toInCall.keep,codeAny_func ?_⟩;obtain ⟨t,ht,hq⟩:=hbody A outer s H vs Q E (hr.deeper _) hsp;have I:Inv (Kk CX P w K mg base N qual scope f cdv A outer s H E) [] (start N vs) H s1:=Kc S hr.hd e0 hl r x;refine wpAny_mono (ht [] s1 (start N vs) H _ I hq) (λfl s' hs=>?_) λe s' hs=>hs
 have fin:∀{σ':St} {H':Hp} {v:V} {u:Value},Inv (Kk CX P w K mg base N qual scope f cdv A outer s H E) [] σ' H' s'->RelV v u->Q v H'->CE outer P w H s Q u s' :=
  λ{σ' H' v u} J rv q=>⟨v,H',J.os,J.bare,J.base,J.hok,rv,q⟩
 cases fl with
 | ret u =>
  obtain ⟨v,σ',H',J,rv,q⟩:=hs;exact fin J rv q
 | next =>
  obtain ⟨σ',H',J,q⟩:=hs;exact fin (v:=V.non) (u:=Value.none) J rfl q
 | brk =>
  obtain ⟨_,_,_,q⟩:=hs;exact False.elim q
 | cont =>
  obtain ⟨_,_,_,q⟩:=hs;exact False.elim q
section
variable {X:Cx} {x:Str} {p pos:Pos} {e:Expr} {es:List Expr} {t:TA} {id T:String} {r:List V->Hp->VK->Prop}
def SR (r:List V->Hp->VK->Prop) (t:TA):TE:=λσ H Q=>t σ H λvs H1=>r vs H1 Q
theorem bF (hc:pV X (.builtin id) r) (hg:Gl X x) (hm:X.mg x=none) (hv:bootBuiltins x=some (.builtin id)) (ha:PA X (e :: es) t) (hn:x≠"__name__":=by decide) (hdb:(x == ("__debug__":Str))=false:=by decide)
  (he:starEach (e :: es) X.env=(false,eval e X.env) :: starEach es X.env:=by rfl) (hpl:(backTo pos (starEach es X.env)).any (·.1)=false:=by rfl):PE X (.Call (.Name x p) (e :: es) [] pos) (SR r t):=by
 intro pins s σ H Q I h;refine wpAny_Call_Name_kw (lQ I hg hm hv ?_ hn hdb);exact PyProof.Rows.callWith_builtin1 (fO (ha pos pins s σ H _ I h) λus s1 ⟨vs,H1,I1,r1,q1⟩=>hc pins s1 σ H1 vs us Q I1 r1 q1) he hpl
theorem eL (hc:pV X (.type T) r) (hg:Gl X x) (hm:X.mg x=none) (hv:bootBuiltins x=some (.type T)) (ha:PA X (e :: es) t) (hn:x≠"__name__":=by decide) (hdb:(x == ("__debug__":Str))=false:=by decide)
  (he:starEach (e :: es) X.env=(false,eval e X.env) :: starEach es X.env:=by rfl) (hpl:(backTo pos (starEach es X.env)).any (·.1)=false:=by rfl):PE X (.Call (.Name x p) (e :: es) [] pos) (SR r t):=by
 intro pins s σ H Q I h;refine wpAny_Call_Name_kw (lQ I hg hm hv ?_ hn hdb);exact PyProof.Rows.callWith_type1 (fO (ha pos pins s σ H _ I h) λus s1 ⟨vs,H1,I1,r1,q1⟩=>hc pins s1 σ H1 vs us Q I1 r1 q1) he hpl
end
end L2
namespace HT
open PySem PyProof.Rows
section
open PySem.SeqAt
open PySem.AutoSeq1 (wpAny_loadPart')
open PySem.MeetsSeq PySem.MeetsSeq2 PySem.MeetsSeq3
end
section
variable {prog:Program} {w:World} {A:Around} {E:Value->Shared->Prop} {s:Shared}
def EJ (n d:Nat):Option Int->Nat
 | none=>d
 | some v=>if v < 0 then (v+(n:Int)).toNat else min v.toNat n
theorem zW (n d:Nat):EJ n d none=d:=rfl
theorem ID (n d k:Nat):EJ n d (some (k:Int))=min k n:=by
 show (if (k:Int) < 0 then ((k:Int)+(n:Int)).toNat else min (k:Int).toNat n)=min k n
 rw[if_neg (by lia),Int.toNat_natCast]
end
end HT
namespace L2
open PySem PySem.Spec PyProof.Rows
abbrev TO:=St->Hp->(Option Int->Hp->Prop)->Prop
def PO (X:Cx) (e:Option Expr) (t:TO):Prop :=
 ∀(pins:List (Addr×Obj)) (s:Shared) (σ:St) (H:Hp) (Q:Option Int->Hp->Prop),Inv X pins σ H s->t σ H Q →
  wpAny (model X.prog X.w) X.A (evalPart e X.env) (λu s'=>∃o H',Inv X pins σ H' s'/\IsPart u o/\Q o H') X.xe s
def Iu:TO:=λ_ H Q=>Q none H
def Ow (t:TE):TO:=λσ H Q=>t σ H λx H1=>∃i,x=.int i/\Q (some i) H1
theorem intsAre_of {ns:List Int}:∀{us:List Value},cZ (ns.map V.int) us->IntsAre us ns:=by
 induction ns with
 | nil=>intro us r;rw[List.map_nil] at r;cases r;exact .nil
 | cons n ns ih =>
  intro us r;rw[fI] at r;cases r with
  | cons r1 r2 =>
   obtain ⟨t,e⟩:=r1;subst e;exact .cons n t (ih r2)
section
variable {X:Cx} {e:Expr} {te:TE} {lo hi:Option Expr} {tl th:TO} {pos p2:Pos}
theorem DR:PO X none Iu:=by
 intro pins s σ H Q I h;rw[evalPart_none];exact wpAny_pure ⟨none,H,I,.none,h⟩
theorem DQ (h:PE X e te):PO X (some e) (Ow te):=by
 intro pins s σ H Q I hw;rw[evalPart_some];refine fO (h pins s σ H _ I hw) λu s1 ⟨x,H1,I1,r1,q1⟩=>?_
 obtain ⟨i,rfl,q⟩:=q1;obtain ⟨t,rfl⟩:=r1;exact ⟨some i,H1,I1,.int i t,q⟩
def SlR (X:Cx) (r:V->Option Int->Option Int->Hp->VK->Prop):Prop :=
 ∀(pins:List (Addr×Obj)) (s:Shared) (σ:St) (H:Hp) (x:V) (v vl vu:Value) (lo hi:Option Int) (sl:Addr) (Q:VK),Inv X pins σ H s->RelV x v->s.heap.IsSliceOf sl vl vu .none->IsPart vl lo->IsPart vu hi->r x lo hi H Q →
  ∃T id,typeLookup (.type T) "__getitem__"=pure (some (.builtin id))/\s.TypeIs v T/\wpAny (model X.prog X.w) X.A (getItem v (.ref sl)) (EP X pins σ Q) X.xe s
def tSl (r:V->Option Int->Option Int->Hp->VK->Prop) (te:TE) (tl th:TO):TE:=λσ H Q=>te σ H λx H1=>tl σ H1 λl H2=>th σ H2 λu H3=>r x l u H3 Q
theorem z9 {r:V->Option Int->Option Int->Hp->VK->Prop} (hr:SlR X r) (he:PE X e te) (hl:PO X lo tl) (hu:PO X hi th):PE X (.Subscript e (.Slice lo hi none p2) pos) (tSl r te tl th):=by
 intro pins s σ H Q I h;refine Subscript_ (fO (he pins s σ H _ I h) λv s1 ⟨x,H1,I1,r1,q1⟩=>?_);refine wpAny_Slice (fO (hl pins s1 σ H1 _ I1 q1) λvl s2 ⟨l,H2,I2,pl,q2⟩=>fO (hu pins s2 σ H2 _ I2 q2) λvu s3 ⟨u,H3,I3,pu,q3⟩=>?_);rw[evalPart_none];refine wpAny_pure ?_;have I4:Inv X pins σ H3 { s3 with heap:=s3.heap.push { cls:=.type "slice",data:=.fields #[vl,vu,.none] } }:=I3.kept (t':=s3.toks) λb ob q=>Heap.get?_push_of_some _ q
 obtain ⟨T,id,hT,ht,hg⟩:=hr pins { s3 with heap:=s3.heap.push { cls:=.type "slice",data:=.fields #[vl,vu,.none] } } σ H3 x v vl vu l u s3.heap.objs.size Q I4 r1 (Heap.IsSliceOf.new ..) pl pu q3;show wpAny (model X.prog X.w) X.A (subscriptTail e (.Slice lo hi none p2) v (.ref s3.heap.objs.size)) (EP X pins σ Q) X.xe { s3 with heap:=s3.heap.push { cls:=.type "slice",data:=.fields #[vl,vu,.none] } }
 exact tail_any (ops:=[.ref s3.heap.objs.size,v]) ht hT hg (by with_unfolding_all rfl)
def sI (xs:List V) (lo hi:Option Int):List V:=(xs.drop (HT.EJ xs.length 0 lo)).take (HT.EJ xs.length xs.length hi - HT.EJ xs.length 0 lo)
theorem yg (xs:List V) (lo hi:Option Int):(sI xs lo hi).length<=xs.length:=by
 unfold sI;rw[bR,List.length_drop]
 lia
end
def Kz (n:Nat) (i:Int):Option Nat:=if 0<=i then (if i < n then some i.toNat else none) else if -(n:Int)<=i then some (i+n).toNat else none
def Ie {α:Type} (xs:List α) (i:Int):Option α:=(Kz xs.length i).bind λj=>xs[j]?
theorem IW {n:Nat} {i:Int} {j:Nat} (h:Kz n i=some j):seqIndex? i n=some j/\j < n/\-(n:Int)<=i/\i < n:=by
 unfold Kz at h;by_cases h0:0<=i
 ·rw[if_pos h0] at h;by_cases h1:i < n
  ·rw[if_pos h1] at h;have e:i.toNat=j:=bU h;exact ⟨by rw[seqIndex_of h0 h1,e],by lia,by lia,h1⟩
  ·rw[if_neg h1] at h;cases h
 ·rw[if_neg h0] at h;by_cases h1:-(n:Int)<=i
  ·rw[if_pos h1] at h;have e:(i+n).toNat=j:=bU h;exact ⟨by rw[seqIndex_neg (by lia) h1,e],by lia,h1,by lia⟩
  ·rw[if_neg h1] at h;cases h
theorem Et {α:Type} {xs:List α} {i:Int} {v:α} (h:Ie xs i=some v):∃j,seqIndex? i xs.length=some j/\xs[j]?=some v/\j < xs.length/\-(xs.length:Int)<=i/\i < xs.length:=by
 unfold Ie at h;cases e:Kz xs.length i with
 | none=>rw[e] at h;cases h
 | some j =>
  rw[e] at h;obtain ⟨h1,h2,h3,h4⟩:=IW e;exact ⟨j,h1,h,h2,h3,h4⟩
theorem dX {α:Type} {xs:List α} {j:Nat} {v:α} (h:xs[j]?=some v):Ie xs (j:Int)=some v:=by
 have hj:j < xs.length:=(aB.mp h).1
 have e:Kz xs.length (j:Int)=some j:=by
  unfold Kz;rw[if_pos (by lia),if_pos (by lia)];simp
 unfold Ie;rw[e];exact h
theorem vL {α:Type} (xs:List α) (v:α):Ie (xs++[v]) (-1)=some v:=by
 have hl:(xs++[v]).length=xs.length+1:=by simp
 have e:Kz (xs++[v]).length (-1)=some xs.length:=by
  unfold Kz;rw[hl,if_neg (by decide),if_pos (by lia)];congr 1
  lia
 unfold Ie;rw[e];show (xs++[v])[xs.length]?=some v
 simp
def Om (b:Expr):Prop:=∀o i,subscripted b false o i=operate [o,i] (getItem o i)
def Ss (X:Cx) (r:R2):Prop :=
 ∀(value slice:Expr) (pins:List (Addr×Obj)) (s:Shared) (σ:St) (H:Hp) (x y:V) (v u:Value) (Q:VK),Inv X pins σ H s->RelV x v->RelV y u->r x y H Q →
  subscripted slice false v u=operate [v,u] (getItem v u)->wpAny (model X.prog X.w) X.A (subscriptTail value slice v u) (EP X pins σ Q) X.xe s
def MtR (X:Cx) (id:String) (r:V->List V->Hp->VK->Prop):Prop :=
 ∀(pins:List (Addr×Obj)) (s:Shared) (σ:St) (H:Hp) (x:V) (xs:List V) (v:Value) (us:List Value) (Q:VK),Inv X pins σ H s->RelV x v->cZ xs us->r x xs H Q →
  wpAny (model X.prog X.w) X.A (call (.builtin id) (v :: us)) (EP X pins σ Q) X.xe s
section
variable {X:Cx} {a b:Expr} {ta tb:TE} {pos:Pos}
theorem aW {r:R2} (hr:Ss X r) (ha:PE X a ta) (hb:PE X b tb) (hs:Om b:=by intro _ _;rfl):PE X (.Subscript a b pos) (Q3 r ta tb):=by
 intro pins s σ H Q I h;exact Subscript_ (QE ha hb I h λv u s2 x y H2 I2 rx ry q=>hr a b pins s2 σ H2 x y v u Q I2 rx ry q (hs _ _))
def P6 (K:FG9):R2:=λx y H Q=>∃p xs i v,x=.ref p/\y=.int i/\bE K H p xs/\Ie xs i=some v/\Q v H
def P1 (K:FG9):R2:=λx y H Q=>∃p xs i v,x=.ref p/\y=.int i/\nY K H p xs/\Ie xs i=some v/\Q v H
theorem bL:Ss X (P6 X.K):=by
 intro value slice pins s σ H x y v u Q I rx ry h hs;obtain ⟨p,xs,i,z,rfl,rfl,hq,he,q⟩:=h;cases rx;obtain ⟨t,rfl⟩:=ry;obtain ⟨its,r,pl,hz⟩:=I.list hq;obtain ⟨j,h1,h2,h3,h4,h5⟩:=Et he;obtain ⟨w,ew,rw'⟩:=r.get h2;have hl:=r.length;have hn:=Ax;have fin:EP X pins σ Q w s:=⟨z,H,I,rw',q⟩;by_cases h0:0<=i
 ·have hj:i.toNat=j:=by
   rw[seqIndex_of h0 h5] at h1;exact bU h1
  exact item_listR pl.isList h0 (by lia) (by rw[hj];simpa using ew) fin hs
 ·have hj:(i+(its.toArray.size:Int)).toNat=j:=by
   rw[seqIndex_neg (by lia) h4] at h1;rw[aQ,<- hl];exact bU h1
  exact subscriptTail_builtinR (x:=w) pl.isList.typeIs slot_list_getitem.lookup
   (wpAny_getItem_list_neg (Q:=λr s'=>r=w/\EP X pins σ Q r s') pl.isList (by lia) (by rw[aQ] <;> lia) (by lia) (by rw[hj];simpa using ew) ⟨rfl,fin⟩) hs
theorem bI:Ss X (P1 X.K):=by
 intro value slice pins s σ H x y v u Q I rx ry h hs;obtain ⟨p,xs,i,z,rfl,rfl,hq,he,q⟩:=h;cases rx;obtain ⟨t,rfl⟩:=ry;obtain ⟨its,r,pl,hz⟩:=I.tuple hq;obtain ⟨j,h1,h2,h3,h4,h5⟩:=Et he;obtain ⟨w,ew,rw'⟩:=r.get h2;have hl:=r.length;have hn:=Ax;have fin:EP X pins σ Q w s:=⟨z,H,I,rw',q⟩
 exact subscriptTail_builtinR (x:=w) pl.typeIs slot_tuple_getitem.lookup
  (getItem_tuple (j:=j) (Q:=λr s'=>r=w/\EP X pins σ Q r s') pl (by lia) (by lia) (by rw[aQ,<- hl];exact h1) (by simpa using ew) ⟨rfl,fin⟩) hs
theorem HN (its:List Value) (n j:Nat) (u:Value):Obj.mapSeq (·.setIfInBounds j u) { cls:=.type "list",data:=.seq its.toArray n }={ cls:=.type "list",data:=.seq (its.set j u).toArray n }:=by
 simp [Obj.mapSeq]
theorem Inv.lst {pins:List (Addr×Obj)} {σ:St} {H:Hp} {s:Shared} {p:Addr} {xs:List V} (I:Inv X pins σ H s) (h:H p=some (.lst xs)) :
  ∃(its:List Value) (n:Nat),cZ xs its/\s.heap.get? p=some { cls:=.type "list",data:=.seq its.toArray n }/\xs.length<=sizeLine:=by
 obtain ⟨z,its,n,r,e⟩:=I.hok p _ h;exact ⟨its,n,r,e,z⟩
theorem Inv.lstUpd {pins:List (Addr×Obj)} {σ:St} {H:Hp} {s:Shared} {p:Addr} {xs ys:List V} {its its':List Value} {n n':Nat} {f:Obj->Obj} (I:Inv X pins σ H s) (h:H p=some (.lst xs))
  (ho:s.heap.get? p=some { cls:=.type "list",data:=.seq its.toArray n }) (hf:f { cls:=.type "list",data:=.seq its.toArray n }={ cls:=.type "list",data:=.seq its'.toArray n' }) (r:cZ ys its') (hz:ys.length<=sizeLine) (t:Nat) :
  Inv X pins σ (upd H p (.lst ys)) { s with heap:=s.heap.update p f,toks:=t }:=by
 have e:(s.heap.update p f).get? p=some { cls:=.type "list",data:=.seq its'.toArray n' }:=by
  rw[Heap.get?_update_self f ho (by rw[hf] <;> rfl),hf]
 refine I.write (x:=p) (e:=p) (by rw[h];trivial) (.inl rfl) (λb u hb q=>(Heap.get?_update_other _ _ (Ne.symm hb)).trans q) ⟨_,e⟩ ?_;exact ⟨hz,its',n',r,e⟩
def OI:V->V->V->Hp->(Hp->Prop)->Prop:=λo i v H Q=>∃p xs k j,o=.ref p/\i=.int k/\H p=some (.lst xs)/\Kz xs.length k=some j/\Q (upd H p (.lst (xs.set j v)))
theorem set_list:QF X OI:=by
 intro pins s σ H o i v ov iv u Q I ro ri rv h;obtain ⟨p,xs,k,j,rfl,rfl,hp,hj,q⟩:=h;cases ro;obtain ⟨t,rfl⟩:=ri;obtain ⟨its,n,r,ho,hz⟩:=I.lst hp;obtain ⟨h1,h2,h3,h4⟩:=IW hj;have hl:=r.length;have hn:=Ax
 have I':Inv X pins σ (upd H p (.lst (xs.set j v))) { s with heap:=s.heap.update p (Obj.mapSeq (·.setIfInBounds j u)) } :=
  I.lstUpd hp ho (HN its n j u) (r.set rv j) (by rw[dU];exact hz) s.toks
 by_cases h0:0<=k
 ·have hk:k.toNat=j:=by
   rw[seqIndex_of h0 h4] at h1;exact bU h1
  exact PySem.W.ki_setAt ho h0 (by lia) (by rw[aQ,<- hl];exact h4) (by rw[hk];exact ⟨_,I',q⟩)
 ·have hk:(k+(its.toArray.size:Int)).toNat=j:=by
   rw[seqIndex_neg (by lia) h3] at h1;rw[aQ,<- hl];exact bU h1
  exact PySem.W.ki_setBack ho (by lia) (by rw[aQ,<- hl];exact h3) (by lia) (by rw[hk];exact ⟨_,I',q⟩)
theorem Dy (lo hi:Option Int) (n:Nat):(sliceBounds lo hi none n).1=((HT.EJ n 0 lo:Nat):Int)/\(sliceBounds lo hi none n).2.1=((HT.EJ n n hi:Nat):Int)/\(sliceBounds lo hi none n).2.2=1:=by
 refine ⟨?_,?_,rfl⟩
 ·cases lo with
  | none=>simp [sliceBounds,HT.EJ]
  | some i =>
   simp only[sliceBounds,HT.EJ,Option.getD_none,show (1:Int) > 0 by decide,if_true];by_cases h:i < 0
   ·simp only[h,if_true] <;> lia
   ·simp only[h,if_false] <;> lia
 ·cases hi with
  | none=>simp [sliceBounds,HT.EJ]
  | some i =>
   simp only[sliceBounds,HT.EJ,Option.getD_none,show (1:Int) > 0 by decide,if_true];by_cases h:i < 0
   ·simp only[h,if_true] <;> lia
   ·simp only[h,if_false] <;> lia
theorem Bm (its:List Value) (lo hi:Option Int):slicePick its.toArray lo hi none=((its.drop (HT.EJ its.length 0 lo)).take (HT.EJ its.length its.length hi - HT.EJ its.length 0 lo)).toArray:=by
 obtain ⟨h1,h2,h3⟩:=Dy lo hi its.toArray.size;unfold slicePick;rw[h1,h2,h3];simp only[sliceRange_one,pick_run,aQ] <;> rfl
def RO (K:FG9):V->Option Int->Option Int->Hp->VK->Prop:=λx lo hi H Q=>∃a xs,x=.ref a/\bE K H a xs/\∀p,H p=none->Q (.ref p) (upd H p (.lst (sI xs lo hi)))
theorem Dz:SlR X (RO X.K):=by
 intro pins s σ H x v vl vu lo hi sl Q I rx hs pl pu h;obtain ⟨a,xs,rfl,hx,q⟩:=h;cases rx;obtain ⟨its,r,ht,hz⟩:=I.list hx;have hlen:=r.length;refine ⟨"list",_,slot_list_getitem.lookup,ht.isList.typeIs,?_⟩;refine wpAny_getItem_list_slice ht.isList hs pl pu .none (by simp) ?_ (by rw[aQ] <;> lia);rw[Bm,<- hlen];refine ⟨.ref s.heap.objs.size,_,I.laid (t':=s.toks) (o:=.lst (sI xs lo hi)) (λb ob q=>Heap.get?_push_of_some _ q) (aw _) ?_,rfl,q _ (I.hok.fresh (aw _))⟩;exact ⟨ai (yg xs lo hi) hz,_,0,(r.drop (HT.EJ xs.length 0 lo)).take (HT.EJ xs.length xs.length hi - HT.EJ xs.length 0 lo),Heap.get?_push_size _ rfl⟩
def vn:V->Bool
 | .non=>true
 | .bl _=>true
 | .int _=>true
 | .str _=>true
 | _=>false
def OV:V->V->Bool
 | .non,.non=>true
 | .bl a,.bl b=>a == b
 | .bl a,.int b=>(if a then 1 else 0) == b
 | .int a,.bl b=>a == (if b then 1 else 0)
 | .int a,.int b=>a == b
 | .str a,.str b=>a == b
 | _,_=>false
theorem Qx {A:Around} {s:Shared} {y x:V} {u v:Value} (ry:RelV y u) (rx:RelV x v) (fy:vn y=true) (fx:vn x=true):SeqAt.EqAt A s u v (OV y x):=by
 cases y with
 | non =>
  cases ry;cases x with
  | non=>cases rx;exact SeqAt.EqAt.same _
  | bl b=>cases rx;exact SeqAt.EqAt.none_bool b
  | int b=>obtain ⟨t,rfl⟩:=rx;exact SeqAt.EqAt.none_int b t
  | str b=>obtain ⟨t,rfl⟩:=rx;exact SeqAt.EqAt.none_str b t
  | _=>exact absurd (show false=true from fx) bw
 | bl a =>
  cases ry;cases x with
  | non=>cases rx;exact SeqAt.EqAt.bool_none a
  | bl b=>cases rx;exact SeqAt.EqAt.bool_bool a b
  | int b=>obtain ⟨t,rfl⟩:=rx;exact SeqAt.EqAt.bool_int a b t
  | str b=>obtain ⟨t,rfl⟩:=rx;exact SeqAt.EqAt.bool_str a b t
  | _=>exact absurd (show false=true from fx) bw
 | int a =>
  obtain ⟨t',rfl⟩:=ry;cases x with
  | non=>cases rx;exact SeqAt.EqAt.int_none a t'
  | bl b=>cases rx;exact SeqAt.EqAt.int_bool a t' b
  | int b=>obtain ⟨t,rfl⟩:=rx;exact SeqAt.EqAt.int_int a t' b t
  | str b=>obtain ⟨t,rfl⟩:=rx;exact SeqAt.EqAt.int_str a t' b t
  | _=>exact absurd (show false=true from fx) bw
 | str a =>
  obtain ⟨t',rfl⟩:=ry;cases x with
  | non=>cases rx;exact SeqAt.EqAt.str_none a t'
  | bl b=>cases rx;exact SeqAt.EqAt.str_bool a t' b
  | int b=>obtain ⟨t,rfl⟩:=rx;exact SeqAt.EqAt.str_int a t' b t
  | str b=>obtain ⟨t,rfl⟩:=rx;exact SeqAt.EqAt.str_str a t' b t
  | _=>exact absurd (show false=true from fx) bw
 | _=>exact absurd (show false=true from fy) bw
def Ia (x:V) (u:Value):Bool:=match u with
 | .none=>OV .non x
 | .bool b=>OV (.bl b) x
 | .int i _=>OV (.int i) x
 | .str z _=>OV (.str z) x
 | _=>false
theorem Mm {x y:V} {u:Value} (r:RelV y u) (f:vn y=true):Ia x u=OV y x:=by
 cases y with
 | non=>cases r;rfl
 | bl b=>cases r;rfl
 | int i=>obtain ⟨t,rfl⟩:=r;rfl
 | str z=>obtain ⟨t,rfl⟩:=r;rfl
 | _=>exact absurd (show false=true from f) bw
theorem vM {x:V}:∀{xs:List V} {us:List Value},cZ xs us->xs.all vn=true->us.any (Ia x)=xs.any λy=>OV y x
 | _,_,.nil,_=>rfl
 | y :: xs,u :: us,.cons r t,f=>by
  rw[List.all_cons,dD] at f;rw[List.any_cons,List.any_cons,Mm r f.1,vM t f.2]
theorem rF {A:Around} {s:Shared} {x:V} {v:Value} (rx:RelV x v) (fx:vn x=true):∀{xs:List V} {us:List Value},cZ xs us->xs.all vn=true->∀u∈us,SeqAt.EqAt A s u v (Ia x u)
 | _,_,.nil,_=>λu hu=>by cases hu
 | y :: xs,u :: us,.cons r t,f=>λu' hu=>by
  rw[List.all_cons,dD] at f;rcases aG.mp hu with rfl | hu
  ·rw[Mm r f.1];exact Qx r rx f.1 fx
  ·exact rF rx fx t f.2 u' hu
def SH (x:V) (xs:List V):Bool:=xs.any λy=>OV y x
def SX (K:FG9) (neg:Bool):R2:=λx y H Q=>∃p xs,y=.ref p/\(bE K H p xs\/nY K H p xs)/\vn x=true/\xs.all vn=true/\Q (.bl (if neg then !SH x xs else SH x xs)) H
theorem JU:yA X (compareOp .In) (SX X.K false):=by
 intro pins s σ H x y v u Q I rx ry h;obtain ⟨p,xs,rfl,hq,fx,fs,q⟩:=h;cases ry;rcases hq with hq | hq
 ·obtain ⟨its,r,pl,hz⟩:=I.list hq;refine SeqAt.in_listAt (Ia x) pl.isList (λw hw=>rF rx fx r fs w (by simpa using hw)) ⟨.bl _,H,I,rfl,?_⟩;rw[show its.toArray.any (Ia x)=its.any (Ia x) by simp,vM r fs];exact q
 ·obtain ⟨its,r,pl,hz⟩:=I.tuple hq;refine SeqAt.in_tupleAt (Ia x) pl (λw hw=>rF rx fx r fs w (by simpa using hw)) ⟨.bl _,H,I,rfl,?_⟩;rw[show its.toArray.any (Ia x)=its.any (Ia x) by simp,vM r fs];exact q
theorem DT:yA X (compareOp .NotIn) (SX X.K true):=by
 intro pins s σ H x y v u Q I rx ry h;obtain ⟨p,xs,rfl,hq,fx,fs,q⟩:=h;cases ry;rcases hq with hq | hq
 ·obtain ⟨its,r,pl,hz⟩:=I.list hq;refine SeqAt.notIn_listAt (Ia x) pl.isList (λw hw=>rF rx fx r fs w (by simpa using hw)) ⟨.bl _,H,I,rfl,?_⟩;rw[show its.toArray.any (Ia x)=its.any (Ia x) by simp,vM r fs];exact q
 ·obtain ⟨its,r,pl,hz⟩:=I.tuple hq;refine SeqAt.notIn_tupleAt (Ia x) pl (λw hw=>rF rx fx r fs w (by simpa using hw)) ⟨.bl _,H,I,rfl,?_⟩;rw[show its.toArray.any (Ia x)=its.any (Ia x) by simp,vM r fs];exact q
theorem a7:pV X (.builtin "len") (λxs H Q=>∃p ys,xs=[.ref p]/\(bE X.K H p ys\/nY X.K H p ys)/\Q (.int ys.length) H):=by
 intro pins s σ H xs us Q I r h;obtain ⟨p,ys,rfl,hq,q⟩:=h;obtain ⟨u,rfl,rx⟩:=vals1 r;cases rx;have hn:=Ax;rcases hq with hq | hq
 ·obtain ⟨its,r',pl,hz⟩:=I.list hq;have hlen:=r'.length;exact Calls.call_len_list pl.isList (by simp only[aQ] <;> lia) ⟨.int ys.length,H,I.tok _,⟨s.toks+1,by rw[aQ,hlen]⟩,q⟩
 ·obtain ⟨its,r',pl,hz⟩:=I.tuple hq;have hlen:=r'.length;exact len_tuple pl (by simp only[aQ] <;> lia) ⟨.int ys.length,H,I.tok _,⟨s.toks+1,by rw[aQ,hlen]⟩,q⟩
theorem pB:pV X (.type "list") (λxs H Q=>∃p ys,xs=[.ref p]/\(bE X.K H p ys\/nY X.K H p ys)/\∀l,H l=none->Q (.ref l) (upd H l (.lst ys))):=by
 intro pins s σ H xs us Q I r h;obtain ⟨p,ys,rfl,hq,q⟩:=h;obtain ⟨u,rfl,rx⟩:=vals1 r;cases rx
 have fin:∀(its:List Value),cZ ys its->ys.length<=sizeLine->∀(h':Heap) (c':Nat),(∀b o',s.heap.get? b=some o'->h'.get? b=some o') →
   h'.get? s.heap.objs.size=some { cls:=.type "list",dict:=none,data:=.seq its.toArray c',slots:=#[] }->EP X pins σ Q (.ref s.heap.objs.size) { s with heap:=h' }:=λits r' hz h' c' kp e =>
  ⟨.ref s.heap.objs.size,_,I.laid (t':=s.toks) kp (aw _) (show iQ X.prog X.w _ h' _ (.lst ys) from ⟨hz,its,c',r',e⟩),rfl,q _ (I.hok.fresh (aw _))⟩
 rcases hq with hq | hq
 ·obtain ⟨its,r',pl,hz⟩:=I.list hq;have hlen:=r'.length;obtain ⟨o,ho,hc,n,hd⟩:=pl.isList;exact call_list_seq p (.inl rfl) ho hc hd (λh' c' kp e=>fin its r' hz h' c' kp e) (by simp only[aQ] <;> lia)
 ·obtain ⟨its,r',pl,hz⟩:=I.tuple hq;have hlen:=r'.length;obtain ⟨o,ho,hc,n,hd⟩:=pl;exact call_list_seq p (.inr rfl) ho hc hd (λh' c' kp e=>fin its r' hz h' c' kp e) (by simp only[aQ] <;> lia)
def SQ (K:FG9) (T:String) (x:V) (H:Hp):Prop:=match x with
 | .str _=>T="str"
 | .int _=>T="int"
 | .ref p=>(T="list"/\∃xs,bE K H p xs)\/(T="tuple"/\∃o,K.lookup p=some o/\o.cls=.type "tuple"/\o.dict=none) \/
   (T="dict"/\((∃kvs,H p=some (.dK kvs))\/∃kvs,H p=some (.dT kvs)))\/(T="set"/\∃S n,H p=some (.set S n))
 | _=>False
theorem Pd {pins:List (Addr×Obj)} {σ:St} {H:Hp} {s:Shared} {T:String} {x:V} {v:Value} (I:Inv X pins σ H s) (r:RelV x v) (ty:SQ X.K T x H) :
  s.TypeIs v T/\∀a,v=.ref a->∃ob,s.heap.get? a=some ob/\ob.dict=none:=by
 cases x with
 | str z =>
  obtain ⟨t,rfl⟩:=r;cases (show T="str" from ty);exact ⟨typeIs_str s z t,λ_ e=>nomatch e⟩
 | int i =>
  obtain ⟨t,rfl⟩:=r;cases (show T="int" from ty);exact ⟨typeIs_int s i t,λ_ e=>nomatch e⟩
 | ref p =>
  cases r;rcases ty with ⟨rfl,xs,hq⟩ | ⟨rfl,o,hk,hc,hd⟩ | ⟨rfl,hk⟩ | ⟨rfl,S,n,hk⟩
  ·obtain ⟨its,_,pl,_⟩:=I.list hq;refine ⟨pl.isList.typeIs,λa e=>?_⟩;cases e;obtain ⟨o,n,e,c,hd,_⟩:=pl;exact ⟨o,e,hd⟩
  ·refine ⟨⟨o,I.kIn p o hk,hc⟩,λa e=>?_⟩;cases e;exact ⟨o,I.kIn _ o hk,hd⟩
  ·have z:∃o,s.heap.get? p=some o/\o.ExactDict:=by
    rcases hk with ⟨kvs,hk⟩ | ⟨kvs,hk⟩
    ·obtain ⟨_,_,_,_,o,_,_,e,ex,_⟩:=I.hok p _ hk;exact ⟨o,e,ex⟩
    ·obtain ⟨_,_,_,_,o,_,_,e,ex,_⟩:=I.hok p _ hk;exact ⟨o,e,ex⟩
   obtain ⟨o,e,ex⟩:=z;refine ⟨⟨o,e,ex.1⟩,λa e2=>?_⟩;cases e2;exact ⟨o,e,ex.2.1⟩
  ·obtain ⟨o,_,_,_,e,ex,_⟩:=I.hok p _ hk;refine ⟨⟨o,e,ex.1⟩,λa e2=>?_⟩;cases e2;exact ⟨o,e,ex.2.1⟩
 | _=>exact False.elim ty
def tBM (K:FG9) (T:String) (r:V->List V->Hp->VK->Prop) (to:TE) (t:TA):TE:=λσ H Q=>to σ H λx H1=>SQ K T x H1/\t σ H1 λxs H2=>r x xs H2 Q
variable {o e:Expr} {es:List Expr} {to:TE} {t:TA} {name:Str} {apos cpos:Pos} {T id:String} {r:V->List V->Hp->VK->Prop}
theorem ma (pa:PlainAttrs T) (slot:Slot T name id) (hty:typeOf (.builtin id)=pure (.type "method_descriptor")) (hm:MtR X id r) (ho:PE X o to) (ha:PA X (e :: es) t)
  (hbase:attributeBase o name X.env (eval o X.env)=eval o X.env:=by rfl)
  (hfew:((backTo cpos (starEach (e :: es) X.env)).all (λx=>!x.1) && (backToKw cpos (keywordEach [] X.env)).all (λx=>x.1.isSome)
   && decide ((e :: es).length+([]:List Keyword).length+(if ([]:List Keyword).isEmpty then 0 else 1) < 30))=true:=by rfl)
  (hline:(apos.endLine == cpos.line)=true:=by rfl) (hs:starEach (e :: es) X.env=(false,eval e X.env) :: starEach es X.env:=by rfl) (hplain:(backTo cpos (starEach es X.env)).any (·.1)=false:=by rfl) :
  PE X (.Call (.Attribute o name apos) (e :: es) [] cpos) (tBM X.K T r to t):=by
 intro pins s σ H Q I h;refine wpAny_Call_method_late hbase hfew hline rfl (fO (ho pins s σ H _ I h) λv s1 ⟨x,H1,I1,r1,ty,q1⟩=>?_);obtain ⟨h1,h2⟩:=Pd I1 r1 ty;refine ⟨T,id,pa,slot,hty,h1,h2,?_⟩;have hA:=ha cpos pins s1 σ H1 _ I1 q1;rw[hs] at hA ⊢;refine Calls.callWith_builtin (by show (false || (backTo cpos (starEach es X.env)).any (·.1))=false;rw[hplain] <;> rfl) (Calls.evalArgs_plain ?_);exact fO hA λus s2 ⟨vs,H2,I2,r2,q2⟩=>hm pins s2 σ H2 x vs v us Q I2 r1 r2 q2
end
def Tf (X:Cx) (id:String) (r:V->List V->Hp->VK->Prop):Prop :=
 ∀(pins:List (Addr×Obj)) (s:Shared) (σ:St) (H:Hp) (x:V) (xs:List V) (v:Value) (us:List Value) (Q:VK),Inv X pins σ H s->RelV x v->cZ xs us->r x xs H Q →
  wpAny (model X.prog X.w) X.A (call (.builtin id) (v :: us)) (EP X pins σ Q) X.xe s
theorem cZ.one:∀{x:V} {us:List Value},cZ [x] us->∃u,us=[u]/\RelV x u
 | _,_,.cons r .nil=>⟨_,rfl,r⟩
theorem cZ.eraseIdx:∀{xs:List V} {us:List Value} (i:Nat),cZ xs us->cZ (xs.eraseIdx i) (us.eraseIdx i)
 | _,_,_,.nil=>.nil
 | _,_,0,.cons _ t=>t
 | _,_,i+1,.cons r t=>.cons r (cZ.eraseIdx i t)
theorem Cw {α:Type}:∀(l:List α) (i:Nat),(l.eraseIdx i).length<=l.length
 | [],_=>aw _
 | _ :: _,0=>wd _
 | _ :: r,i+1=>dm (Cw r i)
section
variable {X:Cx} {pins:List (Addr×Obj)} {σ:St} {H:Hp} {s:Shared} {l b:Addr} {xs ys zs:List V}
theorem Inv.lset {its its':List Value} {n:Nat} {f:Array Value->Array Value} {t':Nat} (I:Inv X pins σ H s) (hH:H l=some (.lst xs))
  (e:s.heap.get? l=some { cls:=.type "list",data:=.seq its.toArray n }) (hf:f its.toArray=its'.toArray) (hv:cZ ys its') (hz:ys.length<=sizeLine) :
  Inv X pins σ (upd H l (.lst ys)) { s with heap:=s.heap.update l (Obj.mapSeq f),toks:=t' }:=by
 have q:=j6 e f;rw[hf] at q;refine I.write (x:=l) (e:=l) (by rw[hH];exact trivial) (.inl rfl) (λb' u hb hu=>(Heap.get?_update_other s.heap (Obj.mapSeq f) (Ne.symm hb)).trans hu) ⟨_,q⟩ ?_;exact ⟨hz,its',_,hv,q⟩
theorem Inv.lnew {its:List Value} {t':Nat} (I:Inv X pins σ H s) (hv:cZ ys its) (hz:ys.length<=sizeLine) :
  Inv X pins σ (upd H s.heap.objs.size (.lst ys)) { s with heap:=s.heap.push { cls:=.type "list",data:=.seq its.toArray },toks:=t' } :=
 I.laid (λ_ _ q=>Heap.get?_push_of_some _ q) (aw _) ⟨hz,its,0,hv,Heap.get?_push_size _ rfl⟩
theorem Inv.fresh (I:Inv X pins σ H s):H s.heap.objs.size=none:=I.hok.fresh (aw _)
theorem Inv.lstM (I:Inv X pins σ H s) (hH:H l=some (.lst xs)):xs.length<=sizeLine/\∃(its:List Value) (n:Nat),cZ xs its/\xs.length=its.length/\s.heap.get? l=some { cls:=.type "list",data:=.seq its.toArray n }:=by
 obtain ⟨z,its,n,r,e⟩:=I.hok l _ hH;exact ⟨z,its,n,r,r.length,e⟩
theorem LI {n:Nat} (h:n<=sizeLine):Builtin.List.listTooLong n=false:=by
 unfold Builtin.List.listTooLong;exact decide_eq_false (by lia)
end
section
variable {X:Cx}
def IE:V->List V->Hp->VK->Prop:=λx vs H Q=>∃l xs y,x=.ref l/\vs=[y]/\H l=some (.lst xs)/\xs.length < sizeLine/\Q .non (upd H l (.lst (xs++[y])))
theorem fA:Tf X "list.append" IE:=by
 intro pins s σ H x vs v us Q I rx rv h;obtain ⟨l,xs,y,rfl,rfl,hH,hz,q⟩:=h;cases rx;obtain ⟨u,rfl,ru⟩:=rv.one;obtain ⟨z,its,n,r,hl,e⟩:=I.lstM hH;refine call_meets F.slot_list_append ⟨_,e,rfl⟩ F.entry_list_append (F.args_list_append_2 _ _) (PySem.list_append l its.toArray n u (by rw[aQ];lia)) ⟨e,?_⟩;refine ⟨.non,_,I.lset (its':=its++[u]) hH e (by simp) (r.append (.cons ru .nil)) ?_,rfl,q⟩;rw[ao,aX]
 lia
def NR:V->List V->Hp->VK->Prop:=λx vs H Q=>∃l b xs zs,x=.ref l/\vs=[.ref b]/\H l=some (.lst xs)/\H b=some (.lst zs)/\xs.length+zs.length<=sizeLine/\Q .non (upd H l (.lst (xs++zs)))
theorem Cv:Tf X "list.extend" NR:=by
 intro pins s σ H x vs v us Q I rx rv h;obtain ⟨l,b,xs,zs,rfl,rfl,hH,hB,hz,q⟩:=h;cases rx;obtain ⟨u,rfl,ru⟩:=rv.one;cases ru;obtain ⟨z,its,n,r,hl,e⟩:=I.lstM hH;obtain ⟨z2,its2,n2,r2,hl2,e2⟩:=I.lstM hB;have hsz:its.toArray.size+its2.toArray.size<=sizeLine:=by rw[aQ,aQ];lia
 have hlong:¬(!its.toArray.isEmpty && Builtin.List.listTooLong (its.toArray.size+its2.toArray.size))=true:=by
  rw[LI hsz,Bool.and_false];exact bw
 refine call_meets F.slot_list_extend ⟨_,e,rfl⟩ F.entry_list_extend (F.args_list_extend_2 _ _)
  (AutoSeq1.list_extend_list_list_0 l its.toArray n b its2.toArray n2 hlong (by rw[aQ];lia) (by lia)) ⟨e,e2,?_⟩
 refine ⟨.non,_,I.lset (its':=its++its2) hH e (by simp) (r.append r2) ?_,rfl,q⟩;rw[ao]
 lia
def RQ:R2:=λx y H Q=>∃l b xs zs,x=.ref l/\y=.ref b/\H l=some (.lst xs)/\H b=some (.lst zs)/\xs.length+zs.length<=sizeLine/\∀p,H p=none->Q (.ref p) (upd H p (.lst (xs++zs)))
theorem rd:yA X (binaryOp .Add) RQ:=by
 intro pins s σ H x y v u Q I rx ry h;obtain ⟨l,b,xs,zs,rfl,rfl,hH,hB,hz,q⟩:=h;cases rx;cases ry;obtain ⟨z,its,n,r,hl,e⟩:=I.lstM hH;obtain ⟨z2,its2,n2,r2,hl2,e2⟩:=I.lstM hB;refine PySem.P.add_list e e2 ?_ (by rw[aQ,aQ];lia);have ea:its.toArray++its2.toArray=(its++its2).toArray:=by simp
 rw[ea];exact ⟨.ref _,_,I.lnew (t':=s.toks) (r.append r2) (by rw[ao];lia),rfl,q _ I.fresh⟩
end
end L2
namespace Att
open PySem PySem.W PySem.Calls PyProof.Rows
theorem yK {P:Params} {h:Heap}:∀(ns:List Int) (vs:List Value),WellAll P h vs (ns.map WData.int)->IntsAre vs ns:=by
 intro ns
 induction ns with
 | nil =>
  intro vs w;rw[List.map_nil] at w;cases w;exact .nil
 | cons n ns ih =>
  intro vs w;rw[fI] at w;cases w with
  | cons a b =>
   cases a;exact .cons _ _ (ih _ b)
theorem JL {l:OpenLaw} {n:Nat} (hn:l.most=some n) {P:Params} {h:Heap} {args:List WData} {vals:List Value}
  (hpre:l.row.toRowW.claim.pre args=true) (hwl:WellAll P h vals args) :
  ∃a vs ns,vals=[Value.ref a]/\args=[WData.list (ns.map WData.int)]/\h.get? a=some { cls:=.type "list",data:=.seq vs.toArray }/\IntsAre vs ns/\ns.length<=n:=by
 have hsh:WShape.hasAll [] args [.list .int]=true:=(pre_splitW hpre).1;have hc:l.pre.holds [] { args:=args }=true:=(pre_splitW hpre).2;obtain ⟨d,r,rfl,h1,h2⟩:=hasAllW_cons hsh;obtain rfl:=hasAllW_nil h2;obtain ⟨xs,rfl,h3⟩:=hasW_list h1;obtain ⟨ns,rfl⟩:=items_int h3
 have hlen:ns.length<=n:=by
  unfold OpenLaw.pre at hc
  have h4:(WTm.not (.lt (.lit (.int (n:Int))) (.len (.arg 0)))).holds [] { args:=[.list (ns.map .int)] }=true:=by
   have h4:=(holds_andW hc).1;rw[hn] at h4;exact h4
  have h5:=condW_of h4 (w_not (w_lt w_lit (w_len_list (w_arg rfl))));rw[ah] at h5;refine Nat.le_of_not_lt λq=>?_
  have q':(n:Int) < ((ns.length:Nat):Int):=by lia
  first
   | (rw[decide_eq_true q'] at h5;exact absurd h5 (by decide))
   | (simp at h5;lia)
 cases hwl with
 | cons w1 w2 =>
  cases w2;cases w1 with
  | list ho hall=>exact ⟨_,_,ns,rfl,rfl,ho,yK ns _ hall,hlen⟩
theorem JR (l:OpenLaw) (args:List WData):l.row.toRowW.claim.post args (.bool true) args=true :=
 postW_of (r:=l.row.toRowW) (X:=(true == true))
  (show WShape.has [] (.bool true) .bool=true by first | rfl | decide | simp [WShape.has,WShape.arms,WShape.armsAll])
  (show (WTm.eq .res (.lit (.bool true))).value [] { args:=args,res:=some (.bool true),after:=args }=some (.bool (true == true)) from w_eq_bool (w_res rfl) w_lit) rfl
theorem FW {l:OpenLaw} {n:Nat} {q:Program} {loose:List Str} {XP:(Str->Option Value)->Heap->Prop} {YP:World->Heap->Prop} {d:DefRec}
  (hn:l.most=some n) (hdf:d.params.defaults=[])
  (call:∀(w:World) (s₀ s₁:Shared) (mg mb:Str->Option Value) (fa:Addr) (o:Obj) (pm cd doc:Value) (a:Addr) (vs:List Value) (ns:List Int),
   Ground q loose [] XP w s₀ mg mb s₁.heap->YP w s₁.heap →
   s₁.heap.get? fa=some o->o.data=.func (docDef d.name d.params d.body d.scope pm cd doc)->s₁.heap.CodeRec cd d.name->mg d.name=some (.ref fa) →
   s₁.heap.get? a=some { cls:=.type "list",data:=.seq vs.toArray }->IntsAre vs ns->ns.length<=n->s₁.gens=#[] →
   codeAny (model l.prog w) callerA (.call (.ref fa) ⟨[.ref a],[]⟩) (λr s'=>r=.ok (.ret (.bool true))/\OldK s₁.heap s'.heap/\s'.os=s₁.os/\AllBare s'.gens) s₁) :
  WalkO q loose XP YP l.row.toRowW d [] (λf vs=>PySem.call f vs):=by
 intro w s₀ s₁ mg mb G Y fa o pm cd doc dV kV ho hd hcd hD hmg hg args vals as hpre hlay hrd hwl hlo;obtain rfl:dV=.none:=Dflts.none hD hdf;obtain rfl:kV=.none:=Dflts.noKw hD;obtain ⟨a,vs,ns,rfl,rfl,hobj,hints,hlen⟩:=JL hn hpre hwl;refine enter_call (codeAny_mono (call w s₀ s₁ mg mb fa o pm cd doc a vs ns G Y ho (fd_plain hd) hcd hmg hobj hints hlen hg) λr s' hq=>?_);obtain ⟨rfl,h2,h3,h4⟩:=hq;exact ⟨.inl ⟨.bool true,.bool true,[],rfl,λ_=>rfl,.bool true,JR l _,λ_=>⟨List.Pairwise.nil,λ_ hm=>(nomatch hm)⟩⟩,h2,h3,h4⟩
section
variable {prog:Program} {w:World} {A:Around} {E:Value->Shared->Prop} {s:Shared} {K:Frag}
end
end Att
namespace L2
open PySem PySem.Spec PyProof.Rows
theorem BU:∀{vs:List Value} {ns:List Int},IntsAre vs ns->cZ (ns.map V.int) vs
 | _,_,.nil=>.nil
 | _,_,.cons n t h=>.cons ⟨t,rfl⟩ (BU h)
def QG (H:Hp):Prop:=∀b,H b=none\/∃o xs,H b=some (.frz o (.lst xs))
theorem LU {P:Program} {w:World} {K:FG9} {mg mb:Str->Option Value} {CX:MO} {k:Nat} {fa a:Addr} {fd:FuncData} {x:Str} {sp:Sp} {s₁:Shared} {vs:List Value} {ns:List Int}
  (KX:K.In s₁.heap) (hns:s₁.heap.Ns mainGlobals mg) (hb:s₁.heap.Ns builtinsNs mb) (hbb:∀x:Str,x≠"__name__"->mb x=bootBuiltins x) (hlim:s₁.heap.NoLimit) (hsr:s₁.heap.NoSeer) (hg:s₁.gens=#[])
  (ha:s₁.heap.get? a=some { cls:=.type "list",data:=.seq vs.toArray }) (hi:IntsAre vs ns) (hl:ns.length<=sizeLine) (hr:jQ k callerA)
  (F:∀base:Heap,K.In base->base.Ns mainGlobals mg->cC P w K mg base CX k fa fd [x] sp) (hbind:∀(s:Shared) (u:Value),BindsTo s fd ⟨[u],[]⟩ [(x,u)])
  (hsp:∀H:Hp,QG H->bE K H a (ns.map V.int)->sp [.ref a] H (λv _=>v=.bl true) λ_ _ _=>False)
  (hCX:∀H e s',CX [] H s₁ (λ_ _ _=>False) e s'->False) :
  codeAny (model P w) callerA (.call (.ref fa) ⟨[.ref a],[]⟩) (λr s'=>r=.ok (.ret (.bool true))/\OldK s₁.heap s'.heap/\s'.os=s₁.os/\AllBare s'.gens) s₁:=by
 have rv:=BU hi;have lenV:=hi.length
 have core:∀H:Hp,QG H->bE K H a (ns.map V.int)->zb P w H s₁.heap->(∀b,H b≠none->b=a)->(H a≠none->K.lookup a=none) →
   codeAny (model P w) callerA (.call (.ref fa) ⟨[.ref a],[]⟩) (λr s'=>r=.ok (.ret (.bool true))/\OldK s₁.heap s'.heap/\s'.os=s₁.os/\AllBare s'.gens) s₁:=by
  intro H hO hS hok hA hK;have base_of:∀{b:Addr} {o:Obj},s₁.heap.get? b=some o->H b=none->(Eh s₁.heap H).get? b=some o:=λe n=>L7 e n
  have noA:∀{b:Addr} {o:Obj} {es:Array DictEntry} {ep:Nat},s₁.heap.get? b=some o->o.data=.dict es ep->H b=none:=λ{b o es ep} e d=>by
   cases q:H b with
   | none=>rfl
   | some u =>
    have e':b=a:=hA b (by rw[q];simp);subst e';rw[ha] at e;cases e;have d':Data.seq vs.toArray _=Data.dict es ep:=d;cases d'
  have nsK:∀{b:Addr} {m:Str->Option Value},s₁.heap.Ns b m->(Eh s₁.heap H).Ns b m:=λ{b m} ⟨o,es,ep,e,d,r⟩=>⟨o,es,ep,base_of e (noA e d),d,r⟩
  have hKb:K.In (Eh s₁.heap H):=λb o e=>base_of (KX b o e) (by
   cases q:H b with
   | none=>rfl
   | some u =>
    have e':b=a:=hA b (by rw[q];simp);subst e';rw[hK (by rw[q];simp)] at e;cases e)
  have hM:Mod K mg (Eh s₁.heap H):=⟨hKb,nsK hns,⟨mb,nsK hb,hbb⟩,let ⟨mc,h1,h2⟩:=hlim;⟨mc,nsK h1,h2⟩,⟨let ⟨mc,h1,h2⟩:=hsr.statics;⟨mc,nsK h1,h2⟩,let ⟨mm,h1,h2⟩:=hsr.mods;⟨mm,nsK h1,h2⟩,⟨mb,nsK hb,hbb⟩,let ⟨mg',bm,ob,h1,h2,h3,h4,h5⟩:=hsr.main;⟨mg',bm,ob,nsK h1,h2,base_of h3 (by
   cases q:H bm with
   | none=>rfl
   | some u =>
    have e':bm=a:=hA bm (by rw[q];simp);subst e';rw[ha] at h3;cases h3;injection h4 with q4
    exact absurd q4 (by decide)),h4,h5⟩⟩⟩
  have e0:Ip P w K mg (Eh s₁.heap H) callerA [] s₁ H:=⟨rfl,hM,λb o e=>N3 e,Nat.le_of_eq (Ke _ _),trivial,λb hb=>absurd (show b∈([]:List Addr) from hb) (by simp),hok,.of_eq hg⟩;refine codeAny_mono ((F _ hKb (nsK hns)).run callerA [] s₁ H ⟨[.ref a],[]⟩ [.ref a] [.ref a] _ _ hr e0 (hbind s₁ (.ref a)) (.cons rfl .nil) (hsp H hO hS)) λr s' h=>?_
  cases r with
  | error e=>exact (hCX H e s' h).elim
  | ok fl =>
   cases fl with
   | next=>exact False.elim h
   | brk=>exact False.elim h
   | cont=>exact False.elim h
   | ret u =>
    obtain ⟨v,H',os,bare,un,hok',r',q⟩:=h;have q':v=.bl true:=q;subst q';obtain rfl:u=Value.bool true:=r';refine ⟨rfl,OldK.of_keep λb o e=>?_,os,bare⟩;cases q:H b with
    | none=>exact un.keep b o e q (by intro z;exact absurd (show b∈([]:List Addr) from z) (by simp)) (by simp)
    | some u =>
     rcases hO b with z | ⟨ob,xs,z⟩
     ·rw[q] at z;cases z
     ·have z2:=un.frzs b ob _ z;obtain ⟨e1,_⟩:=hok b _ z;obtain ⟨e2,_⟩:=hok' b _ z2;rw[e] at e1;cases e1;exact e2
 cases hk:K.lookup a with
 | some o =>
  have e:=KX a o hk;rw[ha] at e;cases e;refine core (λ_=>none) (λ_=>.inl rfl) (.inr ⟨_,vs.toArray,_,hk,rfl,rfl,rfl,by rw[aQ,lenV];exact hl,by simpa using rv⟩) (λb u z=>by have z':(none:Option HO)=some u:=z;cases z') (λb z=>absurd rfl z) λz=>absurd rfl z
 | none =>
  refine core (λb=>if b=a then some (.frz { cls:=.type "list",data:=.seq vs.toArray } (.lst (ns.map V.int))) else none) (λb=>?_) (.inl (.inr ⟨{ cls:=.type "list",data:=.seq vs.toArray },if_pos rfl⟩)) (λb u z=>?_) (λb z=>?_) λ_=>hk
  ·by_cases hb:b=a
   ·exact .inr ⟨_,_,if_pos hb⟩
   ·exact .inl (if_neg hb)
  ·by_cases hb:b=a
   ·have z':=(if_pos hb).symm.trans z;cases z';subst hb;exact ⟨ha,by rw[ah];exact hl,vs,_,rv,ha⟩
   ·have z':=(if_neg hb).symm.trans z;cases z'
  ·by_cases hb:b=a
   ·exact hb
   ·exact absurd (if_neg hb) z
theorem M5 {l:PySem.W.OpenLaw} {n k:Nat} {q:Program} {loose:List Str} {XP:(Str->Option Value)->Heap->Prop} {YP:World->Heap->Prop} {d:DefRec} {K:Params->FG9} {CX:World->MO} {sp:World->Sp} {x:Str}
  (hn:l.most=some n) (hn2:n<=sizeLine) (hdf:d.params.defaults=[]) (hr:jQ k callerA) (hi:importsNone q=true)
  (hY:∀(w:World) (h:Heap),YP w h->(K w.params).In h)
  (F:∀(w:World) (mg:Str->Option Value) (fa:Addr) (h:Heap),(K w.params).In h->h.Ns mainGlobals mg->mg d.name=some (.ref fa) →
   ∃fd:FuncData,(∀(s:Shared) (u:Value),BindsTo s fd ⟨[u],[]⟩ [(x,u)]) /\
    ∀base:Heap,(K w.params).In base->base.Ns mainGlobals mg->cC l.prog w (K w.params) mg base (CX w) k fa fd [x] (sp w))
  (hsp:∀(w:World) (H:Hp) (a:Addr) (ns:List Int),ns.length<=n->QG H->bE (K w.params) H a (ns.map V.int)->sp w [.ref a] H (λv _=>v=.bl true) λ_ _ _=>False)
  (hCX:∀(w:World) (H:Hp) (s:Shared) (e:Value) (s':Shared),CX w [] H s (λ_ _ _=>False) e s'->False) :
  PySem.W.WalkO q loose XP YP l.row.toRowW d [] (λf vs=>PySem.call f vs):=by
 refine Att.FW hn hdf λw s₀ s₁ mg mb fa o pm cd doc a vs ns G Y ho hd hcd hmg hobj hints hlen hg=>?_
 have KX:=hY w _ Y;obtain ⟨fd,hb,hF⟩:=F w mg fa _ KX G.T.g hmg;exact LU KX G.T.g G.T.b G.T.builtins G.T.nolimit (G.T.seer hi) hg hobj hints (ai hlen hn2) hr hF hb (λH hO hS=>hsp w H a ns hlen hO hS) λH e s'=>hCX w H s₁ e s'
end L2

namespace L2
open PySem PySem.Spec PyProof.Rows
def inClass (s:Stmt) (j:Nat):Stmt:=match s with
 | .ClassDef _ _ _ body _ _ _ _ _ _ _=>body.getD j (.Pass ⟨0,0,0,0⟩)
 | _=>.Pass ⟨0,0,0,0⟩
def jt (s:Stmt):Arguments:=match s with
 | .FunctionDef _ a _ _ _ _ _ _ _ _=>a
 | _=>{ posonlyargs:=[],args:=[],vararg:=none,kwonlyargs:=[],kw_defaults:=[],kwarg:=none,defaults:=[] }
def gW (s:Stmt):List Stmt:=match s with
 | .FunctionDef _ _ b _ _ _ _ _ _ _=>b
 | _=>[]
def aH (s:Stmt):Scope:=match s with
 | .FunctionDef _ _ _ _ _ _ sc _ _ _=>sc
 | _=>{ kind:=.function,names:=[],isGenerator:=false,isCoroutine:=false }
abbrev eY:MO:=λ_ _ _ _ _ _=>False
abbrev E0:XK:=λ_ _ _=>False
theorem Aa {X:Cx}:uA eY X E0:=λ_ _ _ _ _ _ _ h=>h.elim
structure KE (K:FG9) (x qual:Str) (st:Stmt) (f:Addr) (fd:FuncData):Prop where
 ex:∃(oc:Value) (od:Option Addr) (kV doc pm:Value) (an:Option Addr) (cdv ct:Value) (osl:Array (Option Value)),
  fd=PySem.W.fnOf x qual (jt st) (gW st) (aH st) .none kV doc pm an cdv ct/\K.lookup f=some ⟨oc,od,.func fd,osl⟩/\PySem.W.codeIn K cdv qual=true
 kp:PySem.W.keepIn K (.ref f)=true
section
variable {P:Program} {w:World} {K:FG9} {mg:Str->Option Value} {base:Heap}
theorem KE.ok {x qual:Str} {st:Stmt} {f:Addr} {fd:FuncData} {N ps:List Str} {k:Nat} {sp:Sp} (F:KE K x qual st f fd) (S:aP N ps (aH st)) (len:∀vs H Q E,sp vs H Q E->vs.length=ps.length)
  (hbody:∀(cdv:Value) (A:Around) (outer:List Env) (s:Shared) (H:Hp) (vs:List V) (Q:VK) (E:XK),jQ k (A.deeper (envOfC qual (aH st) s.heap.objs.size f cdv))->sp vs H Q E →
   ∃t,Ik (Kk eY P w K mg base N qual (aH st) f cdv A outer s H E).nox (gW st) t/\t { nx:=λ_ H'=>Q .non H',rt:=Q } (start N vs) H):cC P w K mg base eY (k+1) f fd ps sp:=by
 obtain ⟨oc,od,kV,doc,pm,an,cdv,ct,osl,rfl,lk,hcd⟩:=F.ex;refine Sf lk hcd S len λA outer s H vs Q E hr hsp=>?_
 obtain ⟨t,h,q⟩:=hbody cdv A outer s H vs Q E hr hsp;exact ⟨t,h.nox,q⟩
theorem KE.binds {x qual:Str} {st:Stmt} {f:Addr} {fd:FuncData} {ps:List Str} (F:KE K x qual st f fd)
  (h:∀(kV doc pm:Value) (an:Option Addr) (cdv ct:Value) (us:List Value),us.length=ps.length->bindArgs (PySem.W.fnOf x qual (jt st) (gW st) (aH st) .none kV doc pm an cdv ct) ⟨us,[]⟩=pure (ps.zip us)):Binds K fd ps []:=by
 obtain ⟨oc,od,kV,doc,pm,an,cdv,ct,osl,rfl,lk,hcd⟩:=F.ex;exact .all (h kV doc pm an cdv ct)
theorem AG {x qual:Str} {st:Stmt} {f:Addr} {oc:Value} {od an:Option Addr} {osl:Array (Option Value)} {kV doc pm cdv ct:Value} (l:K.lookup f=some ⟨oc,od,.func (PySem.W.fnOf x qual (jt st) (gW st) (aH st) .none kV doc pm an cdv ct),osl⟩)
  (c:PySem.W.codeIn K cdv qual=true) (k:PySem.W.keepIn K (.ref f)=true):KE K x qual st f (PySem.W.fnOf x qual (jt st) (gW st) (aH st) .none kV doc pm an cdv ct):=⟨⟨oc,od,kV,doc,pm,an,cdv,ct,osl,rfl,l,c⟩,k⟩
end
structure Df (K:FG9) (mg:Str->Option Value) (x:Str) (st:Stmt) (ps:List Str) (f:Addr) (fd:FuncData):Prop where
 m:mg x=some (.ref f)
 b:Binds K fd ps []
 F:KE K x x st f fd
structure Dh (K:FG9) (x:Str) (st:Stmt) (f:Addr) (fd:FuncData):Prop where
 a:PySem.W.nsIn K mainGlobals x=some (some (.ref f))
 F:KE K x x st f fd
theorem Si {K:FG9} {x:Str} {st:Stmt} {f:Addr} {oc:Value} {od an:Option Addr} {osl:Array (Option Value)} {kV doc pm cdv ct:Value} (a:PySem.W.nsIn K mainGlobals x=some (some (.ref f))) (l:K.lookup f=some ⟨oc,od,.func (PySem.W.fnOf x x (jt st) (gW st) (aH st) .none kV doc pm an cdv ct),osl⟩) (c:PySem.W.codeIn K cdv x=true) (k:PySem.W.keepIn K (.ref f)=true):Dh K x st f (PySem.W.fnOf x x (jt st) (gW st) (aH st) .none kV doc pm an cdv ct):=⟨a,AG l c k⟩
theorem Dh.D {K:FG9} {x:Str} {st:Stmt} {f:Addr} {fd:FuncData} {ps:List Str} {mg:Str->Option Value} {h:Heap} (d:Dh K x st f fd) (X:K.In h) (G:h.Ns mainGlobals mg) (hb:∀(kV doc pm:Value) (an:Option Addr) (cdv ct:Value) (us:List Value),us.length=ps.length->bindArgs (PySem.W.fnOf x x (jt st) (gW st) (aH st) .none kV doc pm an cdv ct) ⟨us,[]⟩=pure (ps.zip us):=by walk_at "b"):Df K mg x st ps f fd:=⟨PySem.W.mg_of X G d.a,d.F.binds hb,d.F⟩
theorem cJ {X:Cx} {k k':Nat} {f:Addr} {fd:FuncData} {ps:List Str} {sp:Sp} {x:Str} {st:Stmt} {p pos:Pos} {e:Expr} {es:List Expr} {t:TA} (F:cC X.prog X.w X.K X.mg X.base eY k f fd ps sp) (hr:jQ k' X.A) (D:Df X.K X.mg x st ps f fd) (ha:PA X (e :: es) t) (hle:k<=k':=by decide) (hg:Gl X x:=by exact rfl) (hdb:(x == ("__debug__":Str))=false:=by decide) (he:starEach (e :: es) X.env=(false,eval e X.env) :: starEach es X.env:=by rfl) (hpl:(backTo pos (starEach es X.env)).any (·.1)=false:=by rfl):PE X (.Call (.Name x p) (e :: es) [] pos) (KY sp [] E0 t):=NV F (hr.mono hle) hg D.m D.F.kp D.b .nil Aa ha hdb he hpl
theorem bC {n:Nat} (h:n<=1000):n < sizeLine:=bo h (by decide)
section
variable {X:Cx}
theorem pv (i:Nat) {x:Str} {pos:Pos} (hN:X.N[i]?=some x:=by rfl) (hv:Tb X.env.scope x:=by first | exact Or.inl rfl | exact Or.inr (Or.inl rfl) | exact Or.inr (Or.inr rfl)) (hd:(x == ("__debug__":Str))=false:=by decide)
  (hcd:(x == ("__classdict__":Str))=false:=by decide):PE X (.Name x pos) (Pg i):=Qa hN hv hd hcd
end
theorem L4 {A B:Prop} (h:B):if false=true then A else B:=by
 rw[if_neg bw];exact h
theorem RZ {A B:Prop} (h:A):if true=true then A else B:=by
 rw[if_pos rfl];exact h
theorem gR {c A B:Prop} [Decidable c] (h1:c->A) (h2:¬c->B):if c then A else B:=by
 by_cases h:c
 ·rw[if_pos h];exact h1 h
 ·rw[if_neg h];exact h2 h
def aF (H H':Hp):Prop:=∀b o,H b=some o->H' b=some o
theorem aF.refl (H:Hp):aF H H:=λ_ _ h=>h
theorem aF.trans {H H1 H2:Hp} (a:aF H H1) (b:aF H1 H2):aF H H2:=λc o h=>b c o (a c o h)
theorem aF.free {H H':Hp} (e:aF H H') {l:Addr} (h:H' l=Option.none):H l=Option.none:=by
 cases q:H l with
 | none=>rfl
 | some o =>
  rw[e l o q] at h;cases h
theorem aF.seq {K:FG9} {H H':Hp} {a:Addr} {xs:List V} (e:aF H H') (h:bE K H a xs):bE K H' a xs:=by
 rcases h with (h | ⟨o,h⟩) | h
 ·exact .inl (.inl (e _ _ h))
 ·exact .inl (.inr ⟨o,e _ _ h⟩)
 ·exact .inr h
end L2
namespace Nm
theorem Me (a b:Int):Int.gcd b (a.fmod b)=Int.gcd a b:=by
 rw[Int.fmod_def,j9 a b];apply Nat.dvd_antisymm
 ·apply MK
  ·exact eh ..
  ·have h1:=eh (a:=b) (b:=a - b*a.fdiv b);have h2:=eZ (a:=b) (b:=a - b*a.fdiv b);have h3:=Int.dvd_add h2 (lX (c:=a.fdiv b) h1);rwa [Int.sub_add_cancel] at h3
 ·apply MK
  ·exact eh ..
  ·exact Int.dvd_sub (eZ ..) (lX (eh ..))
theorem Mf (a b:Int):Int.gcd b (a % b)=Int.gcd a b:=by
 rw[Int.emod_def,j9 a b];apply Nat.dvd_antisymm
 ·apply MK
  ·exact eh ..
  ·have h1:=eh (a:=b) (b:=a - b*(a / b));have h2:=eZ (a:=b) (b:=a - b*(a / b));have h3:=Int.dvd_add h2 (lX (c:=a / b) h1);rwa [Int.sub_add_cancel] at h3
 ·apply MK
  ·exact eh ..
  ·exact Int.dvd_sub (eZ ..) (lX (eh ..))
theorem Oa (a b:Int) (h:b≠0):(a.fmod b).natAbs < b.natAbs:=by
 rcases Int.lt_or_gt_of_ne h with h | h
 ·have e:a.fmod b=-((-a).fmod (-b)):=by
   have:=Int.neg_fmod_neg (-a) (-b);simp only[Int.neg_neg] at this;exact this
  have h1:=Int.fmod_nonneg_of_pos (-a) (b:=-b) (by lia);have h2:=Int.fmod_lt_of_pos (-a) (b:=-b) (by lia)
  lia
 ·have h1:=Int.fmod_nonneg_of_pos a h;have h2:=Int.fmod_lt_of_pos a h
  lia
def g (t b:Int):Int:=(Int.gcd t b:Int)
def lo (t b:Int):Int:=t / g t b
def hi (t b:Int):Int:=b / g t b
theorem AF {t b:Int} (h:b≠0):0 < g t b:=by
 unfold g;have:0 < Int.gcd t b:=MW _ h
 lia
theorem Aw (t b:Int):lo t b*g t b=t:=Int.ediv_mul_cancel (eh ..)
theorem xv (t b:Int):hi t b*g t b=b:=Int.ediv_mul_cancel (eZ ..)
theorem Ei {t b:Int} (h:0 < b):0 < hi t b:=by
 have h1:=AF (t:=t) (b:=b) (by lia);have h2:=xv t b;by_cases h3:0 < hi t b
 ·exact h3
 ·have:hi t b*g t b<=0:=Int.mul_nonpos_of_nonpos_of_nonneg (by lia) (by lia)
  lia
theorem Au {t b:Int} (h:b≠0):Int.gcd (lo t b) (hi t b)=1:=by
 have h1:=AF (t:=t) h;have e:=Int.gcd_mul_right (lo t b) (g t b) (hi t b);rw[Aw,xv] at e;have e2:(g t b).natAbs=Int.gcd t b:=by unfold g;simp
 rw[e2] at e;have h2:0 < Int.gcd t b:=MW _ h;exact Nat.eq_of_mul_eq_mul_right h2 (by rw[<- e,wa])
theorem Av (t b:Int):lo t b*b=t*hi t b:=by
 have h1:=Aw t b;have h2:=xv t b
 calc lo t b*b=lo t b*(hi t b*g t b):=by rw[h2]
  _=(lo t b*g t b)*hi t b:=by rw[fu (hi t b),<- dt]
  _=t*hi t b:=by rw[h1]
theorem o9 {a b c:Int} (h:Int.gcd a b=1) (hd:a∣b*c):a∣c:=by
 have h1:a.natAbs∣b.natAbs*c.natAbs:=by rw[<- dO];exact d5.mpr hd
 have h2:Nat.Coprime a.natAbs b.natAbs:=h;exact d5.mp (h2.dvd_of_dvd_mul_left h1)
theorem uniq {a b c d:Int} (hb:0 < b) (hd:0 < d) (h1:Int.gcd a b=1) (h2:Int.gcd c d=1) (e:a*d=c*b):a=c/\b=d:=by
 have e1:b∣d:=by
  have:b∣a*d:=⟨c,by rw[e,fu]⟩;exact o9 (by rw[j9];exact h1) this
 have e2:d∣b:=by
  have:d∣c*b:=⟨a,by rw[<- e,fu]⟩;exact o9 (by rw[j9];exact h2) this
 have e3:b=d:=Int.dvd_antisymm (by lia) (by lia) e1 e2;subst e3;exact ⟨tU (by lia) e,rfl⟩
theorem Qj {t b c d:Int} (hb:0 < b) (hd:0 < d) (h2:Int.gcd c d=1) (e:t*d=c*b):lo t b=c/\hi t b=d:=by
 refine uniq (Ei hb) hd (Au (by lia)) h2 ?_;have h:=Av t b;have hb':b≠0:=by lia
 apply tU hb'
 calc lo t b*d*b=lo t b*b*d:=by rw[dt,fu d b,<- dt]
  _=t*hi t b*d:=by rw[h]
  _=t*d*hi t b:=by rw[dt,fu (hi t b),<- dt]
  _=c*b*hi t b:=by rw[e]
  _=c*hi t b*b:=by rw[dt,fu b,<- dt]
theorem Qk {a b:Int} (hb:0 < b) (h:Int.gcd a b=1):lo a b=a/\hi a b=b:=Qj hb hb h rfl
theorem mV {a b:Int} (h:b≠0):a.natAbs<=(a*b).natAbs:=by
 rw[dO];exact dC _ (Int.natAbs_pos.mpr h)
theorem lo_le {t b:Int} (h:b≠0):(lo t b).natAbs<=t.natAbs:=by
 have:=mV (a:=lo t b) (b:=g t b) (by have:=AF (t:=t) h;lia);rwa [Aw] at this
theorem OS {t b:Int} (h:b≠0):(hi t b).natAbs<=b.natAbs:=by
 have:=mV (a:=hi t b) (b:=g t b) (by have:=AF (t:=t) h;lia);rwa [xv] at this
def Sz (k:Nat) (x:Int):Prop:=x.natAbs < 2^k
theorem Sz.mono {j k:Nat} {x:Int} (h:Sz j x) (l:j<=k):Sz k x:=bD h (av (by decide) l)
theorem Sz.mul {j k:Nat} {x y:Int} (h1:Sz j x) (h2:Sz k y):Sz (j+k) (x*y):=by
 unfold Sz at *
 rw[dO,aY];exact Nat.mul_lt_mul'' h1 h2
theorem Sz.neg {k:Nat} {x:Int} (h:Sz k x):Sz k (-x):=by unfold Sz at *;rw[jE];exact h
theorem Sz.le {k:Nat} {x y:Int} (h:Sz k y) (l:x.natAbs<=y.natAbs):Sz k x:=bo l h
theorem Sz.hi {k:Nat} {t b:Int} (h:Sz k b) (hb:b≠0):Sz k (hi t b):=h.le (OS hb)
end Nm
namespace L2
open PySem PySem.Spec PyProof.Rows
structure Bk (env:Env) (scope:Scope) (own capN:List Str):Prop where
 kind:scope.kind=.function
 locs:∀y∈scope.names,y.2=.local->scope.names.lookup y.1=some .local
 ownk:∀x∈own,scope.names.lookup x=some .local\/scope.names.lookup x=some .cell
 cells:∀y∈scope.names,y.2=.cell->y.1∈own/\y.1∉capN
 frees:∀y∈scope.names,y.2=.free->y.1∈capN/\y.1∉own
 capf:∀x∈capN,scope.names.lookup x=some .free
 caps:∀x∈capN,env.kindOf x=some .cell\/env.kindOf x=some .free
def SI (scope:Scope) (own capN:List Str):Bool :=
 decide (scope.kind=.function) && scope.names.all (λy=>decide (y.2=.local->scope.names.lookup y.1=some .local) && decide (y.2=.cell->y.1∈own/\y.1∉capN) && decide (y.2=.free->y.1∈capN/\y.1∉own)) &&
 own.all (λx=>decide (scope.names.lookup x=some .local\/scope.names.lookup x=some .cell)) && capN.all λx=>decide (scope.names.lookup x=some .free)
def CW (env:Env):List Str->Bool
 | []=>true
 | x :: r=>(match env.kindOf x with | some .cell=>true | some .free=>true | _=>false) && CW env r
theorem FT {env:Env}:∀{capN:List Str},CW env capN=true->∀x∈capN,env.kindOf x=some .cell\/env.kindOf x=some .free
 | [],_,_,h=>nomatch h
 | y :: r,h,x,hx=>by
  unfold CW at h;rw[dD] at h;rcases aG.mp hx with e | hx
  ·subst e;have h1:=h.1
   split at h1
   ·rename_i e;exact .inl e
   ·rename_i e;exact .inr e
   ·cases h1
  ·exact FT h.2 x hx
theorem Bk.of {env:Env} {scope:Scope} {own capN:List Str} (h1:SI scope own capN=true) (h2:CW env capN=true):Bk env scope own capN:=by
 unfold SI at h1;rw[dD,dD,dD,oh,oh,oh] at h1;obtain ⟨⟨⟨a1,a2⟩,a3⟩,a4⟩:=h1
 have a2':∀y∈scope.names,(y.2=.local->scope.names.lookup y.1=some .local)/\(y.2=.cell->y.1∈own/\y.1∉capN)/\(y.2=.free->y.1∈capN/\y.1∉own):=λy hy=>by
  have q:=a2 y hy;rw[dD,dD] at q;exact ⟨of_decide_eq_true q.1.1,of_decide_eq_true q.1.2,of_decide_eq_true q.2⟩
 exact ⟨of_decide_eq_true a1,λy hy=>(a2' y hy).1,λx hx=>of_decide_eq_true (a3 x hx),λy hy=>(a2' y hy).2.1,λy hy=>(a2' y hy).2.2,λx hx=>of_decide_eq_true (a4 x hx),FT h2⟩
def dG (env:Env):List (Str×NameKind)->List (Str×Addr)->List (Str×Addr)
 | [],acc=>acc
 | (n,k) :: r,acc=>if k == .free then dG env r ((n,(env.cells.lookup n).getD 0) :: acc) else dG env r acc
theorem gX (env:Env):∀(names:List (Str×NameKind)) (acc:List (Str×Addr)),dG env names acc=dG env names []++acc
 | [],_=>rfl
 | (n,k) :: r,acc=>by
  unfold dG
  split
  ·rw[gX env r (_ :: acc),gX env r [_],ck];rfl
  ·exact gX env r acc
theorem ph (env:Env):∀(names:List (Str×NameKind)) {x:Str} {c:Addr},(x,c)∈dG env names []->(x,NameKind.free)∈names/\c=(env.cells.lookup x).getD 0
 | [],_,_,h=>nomatch h
 | (n,k) :: r,x,c,h=>by
  unfold dG at h
  split at h
  ·rename_i hk
   have ek:k=.free:=by simpa using hk
   subst ek;rw[gX] at h;rcases ax.mp h with h | h
   ·have q:=ph env r h;exact ⟨bZ _ q.1,q.2⟩
   ·have e:(x,c)=(n,(env.cells.lookup n).getD 0):=by simpa using h
    cases e;exact ⟨de,rfl⟩
  ·have q:=ph env r h;exact ⟨bZ _ q.1,q.2⟩
theorem iI {α:Type}:∀{l:List (Str×α)} {x:Str} {c:α},(x,c)∈l->∃d,l.lookup x=some d
 | (k,v) :: r,x,c,h=>by
  rw[j8];cases hb:x == k with
  | true=>exact ⟨v,rfl⟩
  | false =>
   rcases aG.mp h with e | h
   ·cases e;simp at hb
   ·exact iI h
theorem pA (env:Env):∀(names:List (Str×NameKind)) {x:Str},(x,NameKind.free)∈names->∃c,(x,c)∈dG env names []
 | (n,k) :: r,x,h=>by
  unfold dG;rcases aG.mp h with e | h
  ·cases e;rw[if_pos (by decide),gX];exact ⟨_,b6 _ de⟩
  ·obtain ⟨c,q⟩:=pA env r h
   split
   ·rw[gX];exact ⟨c,pX _ q⟩
   ·exact ⟨c,q⟩
theorem AV {scope:Scope} {env:Env} (h:∀y∈scope.names,y.2=.free->∃c,env.cells.lookup y.1=some c):closureFor scope env=pure (dG env scope.names []):=by
 have gen:∀(names:List (Str×NameKind)) (acc:List (Str×Addr)) (f:Str×NameKind->List (Str×Addr)->Sem (ForInStep (List (Str×Addr)))),
   (∀name kind cells,f (name,kind) cells=if kind == .free then (do let a <- cellOf env name;pure (.yield ((name,a) :: cells))) else pure (.yield cells)) →
   (∀y∈names,y.2=.free->∃c,env.cells.lookup y.1=some c)->forIn names acc f=pure (dG env names acc):=by
  intro names
  induction names with
  | nil=>intro acc f hf _;rw[Dm];rfl
  | cons y r ih =>
   intro acc f hf hh;obtain ⟨n,k⟩:=y;rw[MV,hf];unfold dG;by_cases hk:(k == NameKind.free)=true
   ·obtain ⟨c,hc⟩:=hh (n,k) de (by simpa using hk);have hc':env.cells.lookup n=some c:=hc;have e:cellOf env n=pure c:=by unfold cellOf;rw[hc']
    rw[if_pos hk,if_pos hk,e,hc'];simp only[pure_bind,KG];exact ih _ f hf λy hy=>hh y (bZ _ hy)
   ·rw[if_neg hk,if_neg hk];simp only[pure_bind];exact ih _ f hf λy hy=>hh y (bZ _ hy)
 simp only[closureFor];rw[gen scope.names [] _ (λname kind cells=>by cases hkc:kind == NameKind.free <;> simp [hkc]) h];rfl
theorem ff:∀(names:List (Str×NameKind)) (n:Nat) (acc:List (Str×Addr)),cellsFrom n names acc=cellsFrom n names []++acc
 | [],_,_=>rfl
 | (x,k) :: r,n,acc=>by
  unfold cellsFrom
  split
  ·rw[ff r (n+1) (_ :: acc),ff r (n+1) [_],ck];rfl
  ·exact ff r n acc
theorem j5:∀(names:List (Str×NameKind)) (n:Nat) {x:Str} {c:Addr},(x,c)∈cellsFrom n names []->(x,NameKind.cell)∈names
 | [],_,_,_,h=>nomatch h
 | (y,k) :: r,n,x,c,h=>by
  unfold cellsFrom at h
  split at h
  ·rename_i hk
   have ek:k=.cell:=by simpa using hk
   subst ek;rw[ff] at h;rcases ax.mp h with h | h
   ·exact bZ _ (j5 r _ h)
   ·have e:(x,c)=(y,n):=by simpa using h
    cases e;exact de
  ·exact bZ _ (j5 r _ h)
def xx (env:Env) (scope:Scope) (C:Addr):Env :=
 { scope:=relabel scope env,locals:=C,globals:=env.globals,cells:=cellsFrom (C+1) scope.names (dG env scope.names []),qual:=env.qual,func:=none,code:=env.code,frame:=env.frame,builtins:=env.builtins }
theorem FA {M:Model} {A:Around} {E:Value->Shared->Prop} {s:Shared} {scope:Scope} {g:Addr} {cl:List (Str×Addr)} {qual:Str} {env:Env} {Q:Env->Shared->Prop}
  (h:Q (newEnv scope s.heap.objs.size g (cellsFrom (s.heap.objs.size+1) scope.names cl) qual none .none (some env) builtinsNs) { s with heap:=pushCells (s.heap.push { cls:=.type "dict",data:=.dict #[] }) scope.names }) :
  wpAny M A (newFunctionEnv scope g cl [] qual none .none (some env)) Q E s:=by
 simp only[newFunctionEnv,Option.isSome_some,if_true];refine wpAny_bind (wpAny_alloc ?_);refine wpAny_bind (wpAny_layCells _ (λname kind cells=>by cases hkc:kind == NameKind.cell <;> simp [hkc]) _ _ _ _ ?_);rw[show ({ s with heap:=s.heap.push { cls:=.type "dict",data:=.dict #[] } }:Shared).heap.objs.size=s.heap.objs.size+1 from Heap.size_push ..];rw[Dm];exact wpAny_bind (wpAny_pure (wpAny_pure h))
theorem uO {scope:Scope} {env:Env} {x:Str}:∀{k:NameKind},(relabel scope env).names.lookup x=some k->∃k0,scope.names.lookup x=some k0/\(k=k0\/(k0=.free/\k=.cell)):=by
 unfold relabel;show ∀{k:NameKind},(scope.names.map λ(n,k)=>if (k == NameKind.free && env.scope.kind == .function && env.kindOf n == some .cell) then (n,NameKind.cell) else (n,k)).lookup x=some k->_
 induction scope.names with
 | nil=>intro k h;cases h
 | cons y r ih =>
  intro k h;obtain ⟨n,k1⟩:=y;rw[fI,j8] at h;rw[j8];by_cases hc:(k1 == NameKind.free && env.scope.kind == .function && env.kindOf n == some .cell)=true
  ·simp only[hc,if_true] at h;cases hb:x == n with
   | true =>
    simp only[hb] at h
    have e1:k1=.free:=by
     rw[dD,dD] at hc;simpa using hc.1.1
    cases h;exact ⟨k1,rfl,.inr ⟨e1,rfl⟩⟩
   | false=>simp only[hb] at h;exact ih h
  ·have hc':(k1 == NameKind.free && env.scope.kind == .function && env.kindOf n == some .cell)=false:=by simpa using hc
   simp only[hc',iD,if_false] at h;cases hb:x == n with
   | true=>simp only[hb] at h;cases h;exact ⟨_,rfl,.inl rfl⟩
   | false=>simp only[hb] at h;exact ih h
theorem Fm {scope:Scope} {env:Env} {x:Str}:scope.names.lookup x=some .free->(relabel scope env).names.lookup x=some .cell\/(relabel scope env).names.lookup x=some .free:=by
 unfold relabel;show _->(scope.names.map λ(n,k)=>if (k == NameKind.free && env.scope.kind == .function && env.kindOf n == some .cell) then (n,NameKind.cell) else (n,k)).lookup x=some .cell\/(scope.names.map λ(n,k)=>if (k == NameKind.free && env.scope.kind == .function && env.kindOf n == some .cell) then (n,NameKind.cell) else (n,k)).lookup x=some .free
 induction scope.names with
 | nil=>intro h;cases h
 | cons y r ih =>
  intro h;obtain ⟨n,k1⟩:=y;rw[j8] at h;rw[fI];by_cases hc:(k1 == NameKind.free && env.scope.kind == .function && env.kindOf n == some .cell)=true
  ·simp only[hc,if_true,j8];cases hb:x == n with
   | true=>exact .inl rfl
   | false=>rw[hb] at h;exact ih h
  ·have hc':(k1 == NameKind.free && env.scope.kind == .function && env.kindOf n == some .cell)=false:=by simpa using hc
   simp only[hc',iD,if_false,j8];cases hb:x == n with
   | true=>rw[hb] at h;cases h;exact .inr rfl
   | false=>rw[hb] at h;exact ih h
structure Bz where
 s:Shared
 H:Hp
 fp:List Addr
 C:Addr
def yM (X:Cx) (own capN:List Str) (scope:Scope) (Z:Bz):Cx where
 prog:=X.prog
 w:=X.w
 K:=X.K
 mg:=X.mg
 base:=X.base
 A:=X.A
 N:=own++capN
 s₀:=Z.s
 H₀:=Z.H
 env:=xx X.env scope Z.C
 outer:=X.stack
 stack:=X.stack
 ex:=Z.fp
 fn:=λx=>own.contains x
 calm:=true
 pn:=[]
 xe:=λ_ _=>False
section
variable {X:Cx} {pins:List (Addr×Obj)} {σ:St} {own capN:List Str} {scope:Scope} {Z:Bz}
theorem iO (B:Bk X.env scope own capN) (I:Inv X pins σ Z.H Z.s) {x:Str} {c:Addr} (h:(xx X.env scope Z.C).cells.lookup x=some c) :
  (x∈own/\(x,c)∈cellsFrom (Z.C+1) scope.names [])\/(x∈capN/\x∉own/\X.env.cells.lookup x=some c):=by
 have h':(cellsFrom (Z.C+1) scope.names (dG X.env scope.names [])).lookup x=some c:=h;rw[ff] at h';rcases ax.mp (mem_of_lookup h') with m | m
 ·exact .inl ⟨(B.cells _ (j5 _ _ m) rfl).1,m⟩
 ·obtain ⟨m1,e⟩:=ph _ _ m;obtain ⟨q1,q2⟩:=B.frees _ m1 rfl;obtain ⟨d,hd⟩:=I.ok.has x (B.caps x q1);rw[hd] at e;exact .inr ⟨q1,q2,by rw[hd,e];rfl⟩
theorem Oj (B:Bk X.env scope own capN) (I:Inv X pins σ Z.H Z.s) {x:Str} {c:Addr} (hx:x∈capN) (h:X.env.cells.lookup x=some c):(xx X.env scope Z.C).cells.lookup x=some c:=by
 have hm:(x,NameKind.free)∈scope.names:=mem_of_lookup (B.capf x hx);obtain ⟨c1,m1⟩:=pA X.env scope.names hm
 have hs:∃d,(xx X.env scope Z.C).cells.lookup x=some d:=by
  show ∃d,(cellsFrom (Z.C+1) scope.names (dG X.env scope.names [])).lookup x=some d
  rw[ff];exact iI (b6 _ m1)
 obtain ⟨d,hd⟩:=hs;rcases iO B I hd with ⟨q,m⟩ | ⟨_,_,q⟩
 ·exact absurd hx (B.cells _ (j5 _ _ m) rfl).2
 ·rw[h] at q;cases q;exact hd
theorem JT (h:Heap) (C:Addr) (hC:h.objs.size=C+1) (names:List (Str×NameKind)):CellsOk (pushCells h names) (C+1) (cellsFrom (C+1) names []):=by
 have q:=cellsFrom_ok names h (C+1) [] ⟨λ_ _ hm=>(nomatch hm),List.Pairwise.nil⟩ (by rw[hC];exact aw _);rwa [hC] at q
theorem Es (I:Inv X pins σ Z.H Z.s) {x:Str} {c:Addr} (h:X.env.cells.lookup x=some c):@LT.lt Nat instLTNat c Z.s.heap.objs.size:=by
 obtain ⟨v,q⟩:=I.cell x c h;exact q.lt
theorem QD {h1:Heap} (I:Inv X pins σ Z.H Z.s) (hc:X.calm=true) (B:Bk X.env scope own capN) (hC:Z.s.heap.objs.size<=Z.C) (hcl:CellsOk h1 (Z.C+1) (cellsFrom (Z.C+1) scope.names []))
  (hf:∀b∈Z.fp,jT X pins Z.H b/\@LT.lt Nat instLTNat b Z.s.heap.objs.size):(yM X own capN scope Z).Ok:=by
 refine ⟨I.ok.mod,B.kind,I.ok.glob,I.ok.blt,hC,λx y c h1 h2=>?_,λx hx=>?_,λx c hx h=>?_,λ_=>I.ok.hd hc,I.ok.frames,.inl rfl,λb hb=>⟨?_,λx c h=>?_⟩,I.bs,ai I.ok.bsz I.sz,λb o e hb=>?_,λb hb hz=>?_,I.stack,I.stkFree⟩
 ·rcases iO B I h1 with ⟨q1,m1⟩ | ⟨q1,n1,m1⟩ <;> rcases iO B I h2 with ⟨q2,m2⟩ | ⟨q2,n2,m2⟩
  ·exact name_of_addr hcl.apart m1 m2
  ·have l1:=(hcl.empty _ _ m1).2;have l2:=Es I m2
   lia
  ·have l1:=(hcl.empty _ _ m2).2;have l2:=Es I m1
   lia
  ·exact I.ok.inj x y c m1 m2
 ·have hx':(relabel scope X.env).names.lookup x=some .cell\/(relabel scope X.env).names.lookup x=some .free:=hx
  have hk:scope.names.lookup x=some .cell\/scope.names.lookup x=some .free:=by
   rcases hx' with h | h
   ·obtain ⟨k0,e,q | ⟨q,_⟩⟩:=uO h
    ·exact .inl (by rw[e,<- q])
    ·exact .inr (by rw[e,q])
   ·obtain ⟨k0,e,q | ⟨_,q⟩⟩:=uO h
    ·exact .inr (by rw[e,<- q])
    ·cases q
  show ∃c,(cellsFrom (Z.C+1) scope.names (dG X.env scope.names [])).lookup x=some c
  rcases hk with h | h
  ·exact QU.mp (zd scope.names (Z.C+1) _ (.inl h))
  ·obtain ⟨c,m⟩:=pA X.env scope.names (mem_of_lookup h);rw[ff];exact iI (b6 _ m)
 ·have ho:x∈own:=by have hx':own.contains x=true:=hx;simpa using hx'
  rcases iO B I h with ⟨_,m⟩ | ⟨_,n,_⟩
  ·have:=(hcl.empty _ _ m).2;have hC':Z.s.heap.objs.size<=Z.C:=hC;show Z.s.heap.objs.size<=c
   lia
  ·exact absurd ho n
 ·intro e;have e':@Eq Nat b Z.C:=e;have:=(hf b hb).2
  lia
 ·have l:=(hf b hb).2;rcases iO B I h with ⟨_,m⟩ | ⟨_,_,m⟩
  ·intro e;have e':@Eq Nat c b:=e;have:=(hcl.empty _ _ m).2
   lia
  ·exact (hf b hb).1.2.2.2.2.1 x c m
 ·obtain ⟨_,_,_,f3,_⟩:=(hf b hb).1;rcases f3 with f3 | f3
  ·exact I.ok.noex b o e f3
  ·exact absurd (bD (Heap.lt_size e) (ai I.ok.bsz f3)) (dr _)
 ·obtain ⟨_,f1,f2,_⟩:=(hf b hb).1;rcases aG.mp (I.stkSub b hz) with e | e
  ·exact f1 e
  ·exact f2 e
def Kx (k:Nat) (cap:List Nat) (σ:St):St:=List.replicate k none++cap.map λj=>(σ[j]?).join
def yD (X:Cx) (capN:List Str) (cap:List Nat):Prop:=cap.map (λj=>X.N[j]?)=capN.map some
theorem yD.get {cap:List Nat} (h:yD X capN cap) {i:Nat} {x:Str} (e:capN[i]?=some x):∃j,cap[i]?=some j/\X.N[j]?=some x:=by
 have q:=congrArg (λl=>l[i]?) h;simp only[aD,e,Option.map_some] at q;cases hc:cap[i]? with
 | none=>rw[hc] at q;cases q
 | some j=>rw[hc] at q;exact ⟨j,rfl,by simpa using q⟩
theorem FU {cap:List Nat} {h':Heap} {m:Str->Option Value} (I:Inv X pins σ Z.H Z.s) (B:Bk X.env scope own capN) (hcap:yD X capN cap)
  (kc:∀x c,X.env.cells.lookup x=some c->∀v,Z.s.heap.IsCell c v->h'.IsCell c v) {i:Nat} {x:Str} {v:V} (e1:(own++capN)[i]?=some x) (e2:(Kx own.length cap σ)[i]?=some (some v)) :
  ∃u,RelV v u/\Look (xx X.env scope Z.C) h' m x u:=by
 have hi:own.length<=i:=by
  by_cases hi:own.length<=i
  ·exact hi
  ·exfalso
   unfold Kx at e2;rw[cN (by simpa using hi),Sy] at e2
   split at e2 <;> cases e2
 rw[bT hi] at e1;unfold Kx at e2;rw[bT (by simpa using hi),fN,aD] at e2;obtain ⟨j,hj,hN⟩:=hcap.get e1;rw[hj] at e2;have e3:(σ[j]?).join=some v:=by simpa using e2
 have e4:σ[j]?=some (some v):=by
  cases q:σ[j]? with
  | none=>rw[q] at e3;cases e3
  | some o=>rw[q] at e3;simp at e3;rw[e3]
 have hx:x∈capN:=au e1;have hk:=B.caps x hx;obtain ⟨m0,_,hl⟩:=I.loc;obtain ⟨u,r,l⟩:=hl j x v hN e4 (.inr hk);refine ⟨u,r,.inr ⟨Fm (B.capf x hx),?_⟩⟩;rcases l with ⟨hk2,_⟩ | ⟨_,c,hc,z⟩
 ·rcases hk with hk | hk
  ·rw[hk] at hk2;cases hk2
  ·rw[hk] at hk2;cases hk2
 ·exact ⟨c,Oj B I hx hc,kc x c hc _ z⟩
theorem Se (I:Inv X pins σ Z.H Z.s) {b:Addr} (h:b∈KA X.stack):@LT.lt Nat instLTNat b Z.s.heap.objs.size:=by
 obtain ⟨_,o,ho,_⟩:=I.stack.mem h;exact Heap.lt_size ho
theorem Oh {cap:List Nat} {h1:Heap} {D:Addr} {oD:Obj} {t1:Nat} (I:Inv X pins σ Z.H Z.s) (hc:X.calm=true) (B:Bk X.env scope own capN) (hcap:yD X capN cap) (hC:Z.s.heap.objs.size<=Z.C)
  (hcl:CellsOk h1 (Z.C+1) (cellsFrom (Z.C+1) scope.names [])) (hf:∀b∈Z.fp,jT X pins Z.H b/\@LT.lt Nat instLTNat b Z.s.heap.objs.size)
  (hk:∀b o,Z.s.heap.get? b=some o->h1.get? b=some o) (hn:h1.Ns Z.C λ_=>none) (hD:Z.s.heap.objs.size<=D) (hDC:D≠Z.C) (hoD:h1.get? D=some oD) (hdD:∀v,oD.data≠.cell v) :
  Inv (yM X own capN scope Z) [(D,oD)] (Kx own.length cap σ) Z.H { Z.s with heap:=h1,toks:=t1 }:=by
 refine ⟨QD I hc B hC hcl hf,rfl,I.bare,Un.kept hk,⟨_,hn,λi x v e1 e2 _=>FU I B hcap (λx c _ v z=>z.keeps hk) e1 e2⟩,λx c h=>?_,I.hok.fresh hC,λx c h=>?_,λp hp=>?_,I.hok.kept hk,?_⟩
 ·rcases iO B I h with ⟨_,m⟩ | ⟨_,_,m⟩
  ·exact ⟨none,(hcl.empty _ _ m).1⟩
  ·obtain ⟨v,q⟩:=I.cell x c m;exact ⟨v,q.keeps hk⟩
 ·rcases iO B I h with ⟨_,m⟩ | ⟨_,_,m⟩
  ·exact I.hok.fresh (by have:=(hcl.empty _ _ m).2;lia)
  ·exact I.freeC x c m
 ·have e:p=(D,oD):=by simpa [yM] using hp
  subst e;exact ⟨hoD,I.hok.fresh hD,hDC,λz=>dr _ (bD (Se I z) hD),hdD⟩
 ·show (Kx own.length cap σ).length=(own++capN).length
  have:=congrArg List.length hcap;simp only[ah] at this;unfold Kx;simp [this]
theorem MC {cap:List Nat} {pins':List (Addr×Obj)} {σ':St} {H':Hp} {s':Shared} (I:Inv X pins σ Z.H Z.s) (B:Bk X.env scope own capN) (hcap:yD X capN cap) (hf:∀b∈Z.fp,jT X pins Z.H b/\@LT.lt Nat instLTNat b Z.s.heap.objs.size)
  (J:Inv (yM X own capN scope Z) pins' σ' H' s'):Inv (yM X own capN scope Z) pins' (Kx own.length cap σ) H' s':=by
 refine ⟨J.ok,J.os,J.bare,J.base,?_,J.cell,J.free,J.freeC,J.pin,J.hok,?_⟩
 ·obtain ⟨m,hn,_⟩:=J.loc;refine ⟨m,hn,λi x v e1 e2 _=>FU I B hcap (λx c hx v z=>?_) e1 e2⟩;obtain ⟨o,ho,hd⟩:=z;obtain ⟨sl,e⟩:=J.base.any ho (I.freeC x c hx) λz=>(hf c z).1.2.2.2.2.1 x c hx rfl
  exact ⟨_,e,hd⟩
 ·show (Kx own.length cap σ).length=(own++capN).length
  have:=congrArg List.length hcap;simp only[ah] at this;unfold Kx;simp [this]
theorem Oi {σ':St} {H':Hp} {s':Shared} {D:Addr} {its:List Value} {n:Nat} {ys:List V} (I:Inv X pins σ Z.H Z.s) (hf:∀b∈Z.fp,jT X pins Z.H b/\@LT.lt Nat instLTNat b Z.s.heap.objs.size) (hD:Z.s.heap.objs.size<=D)
  (J:Inv (yM X own capN scope Z) [(D,{ cls:=.type "list",data:=.seq its.toArray n })] σ' H' s') (r:cZ ys its) (hz:ys.length<=sizeLine) :
  Inv X pins σ (upd H' D (.lst ys)) s':=by
 have pD:=J.pin (D,{ cls:=.type "list",data:=.seq its.toArray n }) (by simp);have ne:∀{b:Addr} {o:Obj},Z.s.heap.get? b=some o->b≠D:=λe z=>by subst z;exact dr _ (bD (Heap.lt_size e) hD)
 have nt:∀{b:Addr} {u:HO},H' b=some u->b≠D:=λe z=>by rw[z,pD.2.1] at e;cases e
 refine I.call' (ch:=Z.fp) J.os ⟨J.base.keep,J.base.slot,λb o e h hx=>?_,J.base.there,λb xs e=>?_,λb o u e=>?_,λb ps e=>?_⟩ (λb u e=>?_) J.bare λb hb=>?_
 ·rw[bf (ne e)];exact J.base.free b o e h hx
 ·have q:=J.base.tups b xs e;rw[bf (nt q)];exact q
 ·have q:=J.base.frzs b o u e;rw[bf (nt q)];exact q
 ·obtain ⟨more,q⟩:=J.base.tbls b ps e;exact ⟨more,by rw[bf (nt q)];exact q⟩
 ·by_cases hb:b=D
  ·subst hb;rw[aE] at e;cases e;exact ⟨hz,its,n,r,pD.1⟩
  ·rw[bf hb] at e;exact (J.hok b u e).stay (λc v _ q=>q) (λc q=>by rw[bf (nt q)];exact q) λc xs q=>by rw[bf (nt q)];exact q
 ·obtain ⟨_,f1,_,f3,f4,f5⟩:=(hf b hb).1;exact ⟨f3,f1,f4,f5⟩
end
theorem Pf {α:Type} {t:Sem α} {Q Q':α->Shared->Prop} {M:Model} {A:Around} {E:Value->Shared->Prop} {s:Shared} (h:wpAny M A t Q (λ_ _=>False) s) (hQ:∀a s,Q a s->Q' a s):wpAny M A t Q' E s :=
 wpAny_mono h hQ λ_ _ z=>False.elim z
theorem Er {prog:Program} {w:World} {A:Around} {R:Result->Shared->Prop} {s:Shared} {elt target iter:Expr} {ifs:List Expr} {scope:Scope} {pos:Pos} {it acc:Value} {env:Env} (I:Nat->Shared->Prop)
  (turn:∀(E:Value->Shared->Prop) n s,I n s->wpAny (model prog w) A (pyNext it) (λr s₁=>match r with
   | none=>R (.ok .next) s₁
   | some v=>wpAny (model prog w) A (letOwnedTupleGo target it v) (λ_ s₂=>wpAny (model prog w) A (assign target env v) (λ_ s₃ =>
     wpAny (model prog w) A (forIn ifs true λc r=>if r=true then do let ok <- isTrue c env (eval c env);pure (ForInStep.yield ok) else pure (ForInStep.yield r)) (λok s₄ =>
      if ok=true then wpAny (model prog w) A (eval elt env) (λx s₅=>wpAny (model prog w) A (call (.builtin "list.append") [acc,x]) (λ_ s₆=>∃m,m < n/\I m s₆) E s₅) E s₄
      else ∃m,m < n/\I m s₄) E s₃) E s₂) E s₁) E s)
  (n:Nat) (h:I n s):codeAny (model prog w) A (.compLoop (.ListComp elt [⟨target,iter,ifs,0⟩] scope pos) 0 it acc env) R s:=by
 refine codeAny_loop rfl I (λn s hI=>?_) n h;show wpAny _ A ((compTurn (.ListComp elt [⟨target,iter,ifs,0⟩] scope pos) 0 it acc env).onRaise (λx=>do noteFrame x env;theTreesLotGoes x)) _ _ s
 refine wpAny_noted ?_;rw[compTurn_list];refine wpAny_bind (wpAny_standAt (wpAny_bind (wpAny_mono (turn _ n s hI) (λr s₁ h₁=>?_) λ_ _ h'=>h')));cases r with
 | none=>exact wpAny_pure h₁
 | some v =>
  refine wpAny_bind (wpAny_mono h₁ (λ_ s₂ h₂=>wpAny_bind (wpAny_mono h₂ (λ_ s₃ h₃=>wpAny_bind (wpAny_mono h₃ (λok s₄ h₄=>?_) λ_ _ h'=>h')) λ_ _ h'=>h')) λ_ _ h'=>h');cases ok with
  | false=>exact wpAny_pure ⟨rfl,h₄⟩
  | true =>
   exact wpAny_bind (wpAny_bind (wpAny_mono h₄ (λx s₅ h₅=>wpAny_bind (wpAny_mono h₅ (λ_ s₆ h₆=>wpAny_pure (wpAny_pure ⟨rfl,h₆⟩)) λ_ _ h'=>h')) λ_ _ h'=>h'))
def PF (X:Cx) (ifs:List Expr) (t:TT):Prop :=
 ∀(pins:List (Addr×Obj)) (s:Shared) (σ:St) (H:Hp) (Q:Bool->Hp->Prop),Inv X pins σ H s->t σ H Q →
  wpAny (model X.prog X.w) X.A (forIn ifs true λc r=>if r=true then do let ok <- isTrue c X.env (eval c X.env);pure (ForInStep.yield ok) else pure (ForInStep.yield r)) (TP X pins σ Q) X.xe s
def QX:TT:=λ_ H Q=>Q true H
theorem cB {X:Cx}:PF X [] QX:=λ_ _ _ H _ I h=>wpAny_tests_nil ⟨H,I,h⟩
theorem DS {X:Cx} {c:Expr} {t:TT} (h:PT X c t):PF X [c] t:=λpins s σ H Q I hw=>wpAny_tests_one (h pins s σ H Q I hw)
def pI (σ₀:St) (g:TG) (tf:TT) (te:TE) (x:V) (H:Hp) (NY:V->Hp->Prop) (NN:Hp->Prop):Prop :=
 g x σ₀ H λσ2 H2=>tf σ2 H2 λb H3=>if b=true then te σ2 H3 NY else NN H3
def pU (J:It) (σ₀:St) (g:TG) (tf:TT) (te:TE) (Q:VK) (H1:Hp):Prop :=
 ∃W:Nat->Nat->List V->Hp->Prop,(∃m,W 0 m [] H1)/\∀i m ys H,W i m ys H →
  (J.stop i H/\ys.length<=sizeLine/\∀p,H p=none->Q (.ref p) (upd H p (.lst ys))) \/
  (J.go i H/\ys.length < sizeLine/\∃(NY:V->Hp->Prop) (NN:Hp->Prop),(∀y H',NY y H'->∃m',m' < m/\W (i+1) m' (ys++[y]) H')/\(∀H',NN H'->∃m',m' < m/\W (i+1) m' ys H') /\
   ∀x H',J.yld i H x H'->pI σ₀ g tf te x H' NY NN)
def EU (wi:TI) (k:Nat) (cap:List Nat) (g:TG) (tf:TT) (te:TE):TE:=λσ H Q=>wi σ H λJ H1=>pU J (Kx k cap σ) g tf te Q H1
abbrev lobj (its:List Value) (n:Nat):Obj:={ cls:=.type "list",data:=.seq its.toArray n }
section
variable {X:Cx} {own capN:List Str} {cap:List Nat} {scope:Scope} {elt tg iter:Expr} {ifs:List Expr} {pos:Pos} {wi:TI} {g:TG} {tf:TT} {te:TE}
theorem CT {use:Option (Value->Sem Unit)} {Qe:Value->Shared->Prop} {fpos:Pos} (hc:X.calm=true) (B:Bk X.env scope own capN) (hcap:yD X capN cap)
  (hi:PI X tg iter wi) (hg:∀Z,PG (yM X own capN scope Z) tg g) (hf:∀Z,PF (yM X own capN scope Z) ifs tf) (he:∀Z,PE (yM X own capN scope Z) elt te)
  (hs:∀x,foldedSetIterable iter X.env x=pure x) {pins:List (Addr×Obj)} {s:Shared} {σ:St} {H:Hp} {Q:VK} (I:Inv X pins σ H s) (h:EU wi own.length cap g tf te σ H Q)
  (fin:∀(D C:Addr) (s':Shared) (H':Hp),Inv X pins σ H' s'->jT X pins H' C->(∃m,s'.heap.Ns C m)->Q (.ref D) H'->compPost (model X.prog X.w) X.A X.xe use Qe (.ref D) C (.ok .next) s') :
  wpAny (model X.prog X.w) X.A (comprehension (.ListComp elt [⟨tg,iter,ifs,0⟩] scope pos) scope X.env fpos (newList []) false (eval iter X.env) use) Qe X.xe s:=by
 refine wpAny_comprehension_free (use:=use) rfl hs (AV λy hy hk=>I.ok.has y.1 (B.caps _ (B.frees y hy hk).1)) B.kind B.locs ?_;refine fO (hi pins s σ H _ I h) λv s1 h1=>fO h1 λitv s2 h2=>?_
 obtain ⟨it,fp,tn,J,H2,e,I2,T,st2,f2,W,⟨m0,w0⟩,turn⟩:=h2;subst e;have hfp:∀b∈fp,jT X pins H2 b/\@LT.lt Nat instLTNat b s2.heap.objs.size:=λb hb=>⟨f2 b hb,let ⟨_,e,_⟩:=T.obj _ _ st2 b hb;Heap.lt_size e⟩
 refine wpAny_newObj_type (FA ?_) (aZ _);have es:(s2.heap.push { cls:=.type "list",data:=.seq ([]:List Value).toArray }).objs.size=s2.heap.objs.size+1:=Heap.size_push ..
 show codeAny _ _ (.compStart _ 0 (.ref it) (.ref s2.heap.objs.size) { newEnv scope (s2.heap.push { cls:=.type "list",data:=.seq ([]:List Value).toArray }).objs.size X.env.globals (cellsFrom ((s2.heap.push { cls:=.type "list",data:=.seq ([]:List Value).toArray }).objs.size+1) scope.names (dG X.env scope.names [])) X.env.qual none .none (some X.env) builtinsNs with scope:=relabel scope X.env })
  (compPost (model X.prog X.w) X.A X.xe use Qe (.ref s2.heap.objs.size) (s2.heap.push { cls:=.type "list",data:=.seq ([]:List Value).toArray }).objs.size)
  { s2 with heap:=pushCells ((s2.heap.push { cls:=.type "list",data:=.seq ([]:List Value).toArray }).push { cls:=.type "dict",data:=.dict #[] }) scope.names }
 have hk1:∀b o,(s2.heap.push { cls:=.type "list",data:=.seq ([]:List Value).toArray }).get? b=some o->(pushCells ((s2.heap.push { cls:=.type "list",data:=.seq ([]:List Value).toArray }).push { cls:=.type "dict",data:=.dict #[] }) scope.names).get? b=some o :=
  λb o e=>pushCells_keeps _ _ _ _ (Heap.get?_push_of_some _ e)
 have hk:∀b o,s2.heap.get? b=some o->(pushCells ((s2.heap.push { cls:=.type "list",data:=.seq ([]:List Value).toArray }).push { cls:=.type "dict",data:=.dict #[] }) scope.names).get? b=some o:=λb o e=>hk1 b o (Heap.get?_push_of_some _ e)
 have hoD:=hk1 s2.heap.objs.size _ (Heap.get?_push_size s2.heap (o:={ cls:=.type "list",data:=.seq ([]:List Value).toArray }) rfl);have hn:=(Heap.Ns.new (s2.heap.push { cls:=.type "list",data:=.seq ([]:List Value).toArray }) (.type "dict")).keeps (pushCells_keeps scope.names _);have hcl:=JT ((s2.heap.push { cls:=.type "list",data:=.seq ([]:List Value).toArray }).push { cls:=.type "dict",data:=.dict #[] }) (s2.heap.objs.size+1) (by rw[Heap.size_push,es]) scope.names;rw[es] at hn ⊢;generalize pushCells ((s2.heap.push { cls:=.type "list",data:=.seq ([]:List Value).toArray }).push { cls:=.type "dict",data:=.dict #[] }) scope.names=h3 at hk hoD hn hcl ⊢;have Z:Bz:=⟨s2,H2,fp,s2.heap.objs.size+1⟩
 have I3:Inv (yM X own capN scope ⟨s2,H2,fp,s2.heap.objs.size+1⟩) [(s2.heap.objs.size,lobj [] 0)] (Kx own.length cap σ) H2 { s2 with heap:=h3 } :=
  Oh (Z:=⟨s2,H2,fp,s2.heap.objs.size+1⟩) (t1:=s2.toks) I2 hc B hcap (wd _) hcl hfp hk hn (aw _) (cQ (gZ _)) hoD (λv z=>nomatch z)
 have st3:tn 0 h3:=T.keep _ _ _ st2 λb _ o e=>hk b o e
 have loop:codeAny (model X.prog X.w) X.A (.compLoop (.ListComp elt [⟨tg,iter,ifs,0⟩] scope pos) 0 (.ref it) (.ref s2.heap.objs.size) (xx X.env scope (s2.heap.objs.size+1))) (compPost (model X.prog X.w) X.A X.xe use Qe (.ref s2.heap.objs.size) (s2.heap.objs.size+1)) { s2 with heap:=h3 }:=by
  refine Er (λm s'=>∃i ys σ' H' its n,Inv (yM X own capN scope ⟨s2,H2,fp,s2.heap.objs.size+1⟩) [(s2.heap.objs.size,lobj its n)] σ' H' s'/\tn i s'.heap/\(∀b∈fp,H' b=none)/\cZ ys its/\W i m ys H') ?_ m0
   ⟨0,[],_,H2,[],0,I3,st3,λb hb=>(f2 b hb).1,.nil,w0⟩
  rintro E n s4 ⟨i,ys,σ4,H4,its,k,I4,st4,fr4,rv,w4⟩
  have fpo:∀{pp:List (Addr×Obj)} {H':Hp},(∀p∈pp,p.1=s2.heap.objs.size)->(∀b∈fp,H' b=none)->∀b∈fp,jT (yM X own capN scope ⟨s2,H2,fp,s2.heap.objs.size+1⟩) pp H' b:=λ{pp H'} hpp hn b hb=>by
   obtain ⟨e1,e2⟩:=I4.ok.exf b hb;refine ⟨hn b hb,e1,I4.ok.exfs b hb,.inl hb,e2,λp hp=>?_⟩;have hp':p∈pp:=by simpa [yM] using hp
   have l:=(hfp b hb).2;rw[hpp p hp'];exact λz=>dr _ (by rw[<- z] at l;exact l)
  have pinD:∀{its:List Value} {n:Nat},∀p∈[(s2.heap.objs.size,lobj its n)],p.1=s2.heap.objs.size:=λp hp=>by simp at hp;rw[hp]
  rcases turn i n ys H4 w4 with ⟨stop,hz,q⟩ | ⟨go,hlt,NY,NN,hNY,hNN,step⟩
  ·refine fO (T.done (yM X own capN scope ⟨s2,H2,fp,s2.heap.objs.size+1⟩) rfl rfl rfl rfl i _ s4 σ4 H4 E I4 (fpo pinD fr4) st4 stop) λr s5 ⟨hr,I5⟩=>?_
   subst hr;have pD:=I5.pin (s2.heap.objs.size,lobj its k) (by simp);have I6:=Oi (Z:=⟨s2,H2,fp,s2.heap.objs.size+1⟩) I2 hfp (aw _) I5 rv hz
   have hC:upd H4 s2.heap.objs.size (.lst ys) (s2.heap.objs.size+1)=none:=by
    rw[bf (Jy (gZ _))];exact I5.free
   obtain ⟨m,hm,_⟩:=I5.loc;exact fin _ _ s5 _ I6 (I2.fpOk (wd _) hC) ⟨m,hm⟩ (q _ pD.2.1)
  ·refine fO (T.item (yM X own capN scope ⟨s2,H2,fp,s2.heap.objs.size+1⟩) rfl rfl rfl rfl i _ s4 σ4 H4 E I4 (fpo pinD fr4) st4 go) λr s5 ⟨u,hr,h5⟩=>?_
   subst hr;refine fO h5 λ_ s6 ⟨x,H6,I6,r6,y6,st6,fr6⟩=>?_
   have I6':=(MC (Z:=⟨s2,H2,fp,s2.heap.objs.size+1⟩) I2 B hcap hfp I6).pinned (fpo pinD fr6) (T.obj _ _ st6)
   have back:∀{σ7:St} {H7:Hp} {s7:Shared},Inv (yM X own capN scope ⟨s2,H2,fp,s2.heap.objs.size+1⟩) ([(s2.heap.objs.size,lobj its k)]++z8 fp s6.heap) σ7 H7 s7 →
     Inv (yM X own capN scope ⟨s2,H2,fp,s2.heap.objs.size+1⟩) [(s2.heap.objs.size,lobj its k)] σ7 H7 s7/\tn (i+1) s7.heap/\∀b∈fp,H7 b=none:=λ{σ7 H7 s7} I7=>by
    refine ⟨I7.unpinned,T.keep _ _ _ st6 λb hb o e=>(I7.pin (b,o) (b6 _ (b6 _ (o8 hb e)))).1,λb hb=>?_⟩;obtain ⟨o,e,d⟩:=T.obj _ _ st6 b hb;exact (I7.pin (b,o) (b6 _ (b6 _ (o8 hb e)))).2.1
   refine Pf (hg _ _ s6 _ H6 x u _ I6' r6 (step x H6 y6)) λ_ s7 ⟨σ7,H7,I7,q7⟩=>?_
   refine Pf (hf _ _ s7 σ7 H7 _ I7 q7) λok s8 ⟨H8,I8,q8⟩=>?_
   cases ok with
   | false =>
    rw[if_neg bw] at q8 ⊢;obtain ⟨m',hm,w8⟩:=hNN H8 q8;obtain ⟨J1,J2,J3⟩:=back I8;exact ⟨m',hm,i+1,ys,σ7,H8,its,k,J1,J2,J3,rv,w8⟩
   | true =>
    rw[if_pos rfl] at q8 ⊢;refine Pf (he _ _ s8 σ7 H8 _ I8 q8) λz s9 ⟨y,H9,I9,r9,q9⟩=>?_
    obtain ⟨J1,J2,J3⟩:=back I9;obtain ⟨m',hm,w9⟩:=hNY y H9 q9;have pD:=J1.pin (s2.heap.objs.size,lobj its k) (by simp);have hl:=rv.length;refine call_meets F.slot_list_append ⟨_,pD.1,rfl⟩ F.entry_list_append (F.args_list_append_2 _ _) (PySem.list_append s2.heap.objs.size its.toArray k z (by rw[aQ];lia)) ⟨pD.1,?_⟩;have e9:=j6 pD.1 (λa=>a.push z);have e9':(its.toArray.push z)=(its++[z]).toArray:=by simp
    rw[e9'] at e9;obtain ⟨n',e9⟩:∃n',(s9.heap.update s2.heap.objs.size (Obj.mapSeq λa=>a.push z)).get? s2.heap.objs.size=some (lobj (its++[z]) n'):=⟨_,e9⟩
    have J4:Inv (yM X own capN scope ⟨s2,H2,fp,s2.heap.objs.size+1⟩) [] σ7 H9 { s9 with heap:=s9.heap.update s2.heap.objs.size (Obj.mapSeq λa=>a.push z),toks:=s9.toks } :=
     (J1.pins_of (pins':=[]) λp hp=>nomatch hp).turned (λb o hb e=>(Heap.get?_update_other s9.heap _ (Ne.symm hb)).trans e) pD.2.1 pD.2.2.1 (.inr (aw _)) (λx c hx z=>by
      rcases iO (Z:=⟨s2,H2,fp,s2.heap.objs.size+1⟩) B I2 hx with ⟨_,m⟩ | ⟨_,_,m⟩
      ·have:=(hcl.empty _ _ m).2;have z':@Eq Nat c s2.heap.objs.size:=z
       lia
      ·have:=Es (Z:=⟨s2,H2,fp,s2.heap.objs.size+1⟩) I2 m;rw[z] at this;exact dr _ this) λp hp=>by simp [yM] at hp
    have nfp:∀b∈fp,b≠s2.heap.objs.size:=λb hb z=>by have:=(hfp b hb).2;rw[z] at this;exact dr _ this
    refine ⟨m',hm,i+1,ys++[y],σ7,H9,its++[z],n',J4.pins_of λp hp=>?_,T.keep _ _ _ J2 λb hb o e=>(Heap.get?_update_other s9.heap _ (Ne.symm (nfp b hb))).trans e,J3,rv.append (.cons r9 .nil),w9⟩;have ep:p=(s2.heap.objs.size,lobj (its++[z]) n'):=by simpa using hp
    rw[ep];exact ⟨e9,pD.2.1,pD.2.2.1,pD.2.2.2.1,λv z=>nomatch z⟩
 exact codeAny_compStart_list loop (T.self _ _ _ _ _ st3 loop)
theorem cv (own capN:List Str) (cap:List Nat) (hi:PI X tg iter wi) (hg:∀Z,PG (yM X own capN scope Z) tg g) (hf:∀Z,PF (yM X own capN scope Z) ifs tf) (he:∀Z,PE (yM X own capN scope Z) elt te)
  (h1:SI scope own capN=true:=by decide +kernel) (h2:CW X.env capN=true:=by rfl) (hcap:yD X capN cap:=by rfl) (hc:X.calm=true:=by rfl) (hs:∀x,foldedSetIterable iter X.env x=pure x:=by intro _;rfl) :
  PE X (.ListComp elt [⟨tg,iter,ifs,0⟩] scope pos) (EU wi own.length cap g tf te):=by
 intro pins s σ H Q I h;rw[eval_ListComp];refine CT (use:=none) hc (Bk.of h1 h2) hcap hi hg hf he hs I h λD C s' H' I' fC hm q=>?_
 obtain ⟨m,hm⟩:=hm;refine ⟨m,hm,λh' hs'=>?_⟩;obtain ⟨f0,f1,f2,f3,f4,f5⟩:=fC;exact ⟨.ref D,H',I'.turned (t':=s'.toks) (λb o hb e=>(hs'.2 b hb).trans e) f0 f1 f3 f4 f5,rfl,q⟩
theorem je (i:Nat) (own capN:List Str) (cap:List Nat) {x:Str} {pos' spos:Pos} (hN:X.N.Nodup) (hi':X.N[i]?=some x) (hx:X.env.scope.names.lookup x=some .local) (hi:PI X tg iter wi) (hg:∀Z,PG (yM X own capN scope Z) tg g) (hf:∀Z,PF (yM X own capN scope Z) ifs tf) (he:∀Z,PE (yM X own capN scope Z) elt te)
  (h1:SI scope own capN=true:=by decide +kernel) (h2:CW X.env capN=true:=by rfl) (hcap:yD X capN cap:=by rfl) (hc:X.calm=true:=by rfl) (hs:∀x,foldedSetIterable iter X.env x=pure x:=by intro _;rfl)
  (hsw:swapsWith (.ListComp elt [⟨tg,iter,ifs,0⟩] scope pos) (some (.Name x pos')) spos.line X.env=pure true:=by rfl) :
  PS X (.Assign [.Name x pos'] (.ListComp elt [⟨tg,iter,ifs,0⟩] scope pos) spos) (M7 (EU wi own.length cap g tf te) (IZ i)):=by
 intro pins s σ H D I h;rw[exec_Assign_Name_used _ _ _ _ hsw];refine wpAny_bind (wpAny_standAt (wpAny_bind ?_));rw[arm_evalThenUse_ListComp];refine wpAny_bind (CT (Q:=λv H1=>D.nx (σ.set i (some v)) H1) (use:=some _) hc (Bk.of h1 h2) hcap hi hg hf he hs I h λL C s' H' I' fC hm q=>?_);obtain ⟨m,hm⟩:=hm;obtain ⟨f0,f1,f2,f3,f4,f5⟩:=fC;refine wpAny_assign_Name (BV I' hN hi' (.inl hx) (v:=.ref L) rfl (λs'' I'' ⟨a,sb,ha⟩=>?_) (.inr hx))
 have hCa:C≠a:=by
  rcases ha with e | e
  ·rw[e];exact f1
  ·exact (f4 x a e).symm
 refine ⟨m,hm.at' λo e=>(sb.2 C hCa).trans e,λh' hs'=>?_⟩;have I3:=I''.turned (h':=h') (t':=s''.toks) (λb o hb e=>(hs'.2 b hb).trans e) f0 f1 f3 f4 f5;exact wpAny_pure (wpAny_pure ⟨_,H',I3,q⟩)
end
section
variable {K:FG9} {a:Addr} {xs:List V} {g:TG} {tf:TT} {te:TE} {Q:VK} {σ₀:St} {H:Hp}
theorem d6 (Pv:Nat->List V->Hp->Prop) (hz:xs.length<=sizeLine) (h0:Pv 0 [] H) (hl:∀i ys H,i<=xs.length->Pv i ys H->bE K H a xs)
  (hs:∀i x ys H,xs[i]?=some x->ys.length<=i->Pv i ys H->pI σ₀ g tf te x H (λy H'=>Pv (i+1) (ys++[y]) H') (λH'=>Pv (i+1) ys H'))
  (hd:∀ys H,ys.length<=xs.length->Pv xs.length ys H->∀p,H p=none->Q (.ref p) (upd H p (.lst ys))):pU (O6 K a) σ₀ g tf te Q H:=by
 refine ⟨λi m ys H=>m=xs.length - i/\i<=xs.length/\ys.length<=i/\Pv i ys H,⟨xs.length,by simp,aZ _,aZ _,h0⟩,?_⟩;rintro i m ys H ⟨rfl,hi,hy,p⟩;have q:=hl i ys H hi p;by_cases hlt:i < xs.length
 ·refine .inr ⟨⟨xs,xs[i],q,by simp [hlt]⟩,by lia,λy H'=>Pv (i+1) (ys++[y]) H',λH'=>Pv (i+1) ys H',λy H' p'=>⟨xs.length - (i+1),by lia,rfl,hlt,by rw[ao,aX];lia,p'⟩,λH' p'=>⟨xs.length - (i+1),by lia,rfl,hlt,by lia,p'⟩,λx H' y=>?_⟩;obtain ⟨e,y⟩:=y;subst e;exact hs i x ys _ (y xs q) hy p
 ·have e:i=xs.length:=by lia
  subst e;exact .inl ⟨⟨xs,q,aw _⟩,by lia,hd ys H hy p⟩
theorem jP {lo:Int} {n:Nat} (Pv:Nat->List V->Hp->Prop) (hz:n<=sizeLine) (h0:Pv 0 [] H)
  (hs:∀i ys H,i < n->ys.length<=i->Pv i ys H->pI σ₀ g tf te (.int (lo+i)) H (λy H'=>Pv (i+1) (ys++[y]) H') (λH'=>Pv (i+1) ys H'))
  (hd:∀ys H,ys.length<=n->Pv n ys H->∀p,H p=none->Q (.ref p) (upd H p (.lst ys))):pU (F5 lo n) σ₀ g tf te Q H:=by
 refine ⟨λi m ys H=>m=n - i/\i<=n/\ys.length<=i/\Pv i ys H,⟨n,by simp,aZ _,aZ _,h0⟩,?_⟩;rintro i m ys H ⟨rfl,hi,hy,p⟩;by_cases hlt:i < n
 ·refine .inr ⟨hlt,by lia,λy H'=>Pv (i+1) (ys++[y]) H',λH'=>Pv (i+1) ys H',λy H' p'=>⟨n - (i+1),by lia,rfl,hlt,by rw[ao,aX];lia,p'⟩,λH' p'=>⟨n - (i+1),by lia,rfl,hlt,by lia,p'⟩,λx H' y=>?_⟩;obtain ⟨e,y⟩:=y;subst e y;exact hs i ys _ hlt hy p
 ·have e:i=n:=by lia
  subst e;exact .inl ⟨aw _,by lia,hd ys H hy p⟩
end
open Nm
def fh (i j:Int):Prop:=QK i j\/∃m n,Sz m i/\Sz n j/\m+n<=1000000
def pW (i j:Int):Prop:=j≠0/\Sz 449950 j
theorem AY {k:Nat} {i:Int} (h:Sz k i):Builtin.Int.intBits i<=k:=by
 unfold Builtin.Int.intBits;by_cases e:i=0
 ·subst e;simp
 ·have e':(i == 0)=false:=by simpa using e
  rw[e'];have hn:i.natAbs≠0:=by lia
  have:=(Nat.log2_lt hn).mpr h;simp only[iD,if_false]
  lia
theorem fh.ok {i j:Int} (h:fh i j):IntMulOk i j:=by
 rcases h with h | ⟨m,n,h1,h2,h3⟩
 ·exact h.ok
 ·have e:(2:Nat)^20=1048576:=by decide
  exact .of_bits (by have:=AY h1;lia) (by have:=AY h2;lia)
section
variable {X:Cx} {a b:Expr} {ta tb:TE} {pos:Pos}
theorem c5:yA X (binaryOp .Mult) (rI fh λi j=>.int (i*j)):=S3 λ_ _ _ _ _ _ _ hc q=>mul_int q hc.ok
theorem jh {env:Env} {l:List Env} {N ps:List Str} {sc:Scope} (hs:X.stack=env :: l) (S:aP N ps sc) (he:env.scope=sc) (hb:env.builtins=builtinsNs) (hg:env.globals=mainGlobals) (ht:X.prog.given.tree=none) (hd:X.A.depth+Builtin.pylongFrames < recursionLimit):yA X (binaryOp .FloorDiv) (rI pW λi j=>.int (i.fdiv j)):=by
 intro pins s σ H x y v u Q I rx ry h;obtain ⟨i,j,rfl,rfl,hc,q⟩:=h;obtain ⟨t,rfl⟩:=rx;obtain ⟨t',rfl⟩:=ry;refine floordiv_int hc.1 ⟨.int _,H,I.tok _,⟨_,rfl⟩,q⟩ (.inr (PySem.PylongRoom.of I.nolimit hd (PySem.SeerAt.of (I.ok.mod.seer.keeps I.bk) ht (env:=env) (l:=l) (by rw[I.ok.frames,hs]) (by rw[he];exact S.gen) (by rw[he];exact S.co) hb hg)))
theorem vo {A:Around} {k:Nat} (hr:jQ k A):A.depth+Builtin.pylongFrames < recursionLimit:=by have:=hr.dp;show A.depth+100 < _;lia
def QZ (t u:TS):TS:=λD σ H=>∃N:St->Hp->Prop,t { D with nx:=N } σ H/\∀σ' H',N σ' H'->u D σ' H'
theorem iK {st:Stmt} {rest:List Stmt} {t u:TS} (h1:PS X st t) (h2:Ik X rest u):Ik X (st :: rest) (QZ t u):=by
 intro pins s σ H D I h;obtain ⟨N,h,k⟩:=h;refine wpAny_execs_cons (fO (h1 pins s σ H { D with nx:=N } I h) λf s1 q=>?_);cases f with
 | next =>
  obtain ⟨σ',H',I',q⟩:=q;exact h2 pins s1 σ' H' D I' (k _ _ q)
 | ret v=>exact q
 | brk=>exact q
 | cont=>exact q
def OJ (K:FG9):V->V->Hp->VK->Prop:=λo i H Q=>∃p xs k v,o=.ref p/\i=.int k/\bE K H p xs/\Ie xs k=some v/\Q v H
theorem Mc:Sm X (OJ X.K):=by
 intro pins s σ H o i ov iv Q I ro ri h;obtain ⟨p,xs,k,z,rfl,rfl,hq,he,q⟩:=h;cases ro;obtain ⟨t,rfl⟩:=ri;obtain ⟨its,r,pl,hz⟩:=I.list hq;obtain ⟨j,h1,h2,h3,h4,h5⟩:=Et he;obtain ⟨w,ew,rw'⟩:=r.get h2;have hl:=r.length;have hn:=Ax;have fin:EP X pins σ Q w s:=⟨z,H,I,rw',q⟩;by_cases h0:0<=k
 ·have hj:k.toNat=j:=by
   rw[seqIndex_of h0 h5] at h1;exact bU h1
  exact wpAny_getItem_list pl.isList h0 (by lia) (by rw[hj];simpa using ew) fin
 ·have hj:(k+(its.toArray.size:Int)).toNat=j:=by
   rw[seqIndex_neg (by lia) h4] at h1;rw[aQ,<- hl];exact bU h1
  exact wpAny_getItem_list_neg pl.isList (by lia) (by rw[aQ] <;> lia) (by lia) (by rw[hj];simpa using ew) fin
def Hq (K:FG9) (T:String):V->Hp->VK->Prop:=λx H Q=>∃t b,xy K H x t/\PySem.W.kitOne K t (.type T)=some b/\Q (.bl b) H
theorem uh {c:Str} {T:String} {p p2:Pos} (hg:Gl X "isinstance") (hm:X.mg "isinstance"=none) (hb:bootBuiltins c=some (.type T)) (hmc:X.mg c=none) (ha:PE X a ta) (hgc:Gl X c:=by rfl) (hn:c≠"__name__":=by decide)
  (hd:(c == ("__debug__":Str))=false:=by decide) (he:starEach [a,.Name c p2] X.env=[(false,eval a X.env),(false,eval (.Name c p2) X.env)]:=by rfl)
  (hpl:(backTo pos (starEach [.Name c p2] X.env)).any (·.1)=false:=by rfl) (he2:starEach [.Name c p2] X.env=[(false,eval (.Name c p2) X.env)]:=by rfl):PE X (.Call (.Name "isinstance" p) [a,.Name c p2] [] pos) (SG (Hq X.K T) ta):=by
 intro pins s σ H Q I h;refine wpAny_Call_Name_kw (lQ I hg hm PyProof.Rows.boot_isinstance ?_);have hA:PA X [a,.Name c p2] (qi ta (qi (tC (.ty T)) GK)):=ae ha (ae (IJ hgc hmc hb rfl hn hd) aj he2) (by rw[he,he2])
 have hq:qi ta (qi (tC (.ty T)) GK) σ H (λvs H1=>∃x,vs=[x,.ty T]/\Hq X.K T x H1 Q):=by
  show ta σ H λx H1=>∃x',[x,V.ty T]=[x',V.ty T]/\Hq X.K T x' H1 Q
  have e:(λx H1=>∃x',[x,V.ty T]=[x',V.ty T]/\Hq X.K T x' H1 Q)=λx H1=>Hq X.K T x H1 Q:=by
   funext x H1;apply propext;constructor
   ·rintro ⟨x',e,q⟩;cases e;exact q
   ·intro q;exact ⟨x,rfl,q⟩
  rw[e];exact h
 refine PyProof.Rows.callWith_builtin1 (fO (hA pos pins s σ H _ I hq) λus s1 ⟨vs,H1,I1,r1,x,e,q1⟩=>?_) (by rw[he,he2]) hpl;subst e;obtain ⟨u,w',rfl,ru,rt⟩:=vals2 r1;cases rt;obtain ⟨t,bb,ty,ek,q⟩:=q1;exact CB I1 ru ty ek λtk=>⟨.bl bb,H1,I1.tok tk,rfl,q⟩
end
structure Kind (α:Type) [DecidableEq α] where
 R:FG9->Hp->V->α->Prop
 d:Nat
 inj:∀{X:Cx} {pins:List (Addr×Obj)} {σ:St} {H:Hp} {s:Shared} {x:V} {a b:α},Inv X pins σ H s->R X.K H x a->R X.K H x b->a=b
 rc:∀{X:Cx} {pins:List (Addr×Obj)} {σ:St} {H:Hp} {s:Shared} {x y:V} {v u:Value} {a b:α} {A:Around},Inv X pins σ H s->RelV x v->RelV y u->R X.K H x a->R X.K H y b->A.units+d < cLine->SeqAt.RcAt A s v u (decide (a=b))
 ne:∀{X:Cx} {pins:List (Addr×Obj)} {σ:St} {H:Hp} {s:Shared} {x y:V} {v u:Value} {a b:α} {A:Around},Inv X pins σ H s->RelV x v->RelV y u->R X.K H x a->R X.K H y b->A.units+d < cLine->SeqAt.RcNeAt A s v u (!decide (a=b))
 eq:∀{X:Cx} {pins:List (Addr×Obj)} {σ:St} {H:Hp} {s:Shared} {x y:V} {v u:Value} {a b:α} {A:Around},Inv X pins σ H s->RelV x v->RelV y u->R X.K H x a->R X.K H y b->A.units+d < cLine->SeqAt.EqAt A s v u (decide (a=b))
def S8:Kind Int where
 R:=λ_ _ x i=>x=.int i
 d:=0
 inj:=λ_ h1 h2=>by rw[h1] at h2;cases h2;rfl
 rc:=λ{X pins σ H s x y v u a b A} I rx ry h1 h2 _=>by
  subst h1 h2;obtain ⟨t,rfl⟩:=rx;obtain ⟨t',rfl⟩:=ry;have q:=SeqAt.RcAt.int_int (A:=A) (s:=s) a t b t';rwa [Bj] at q
 ne:=λ{X pins σ H s x y v u a b A} I rx ry h1 h2 _=>by
  subst h1 h2;obtain ⟨t,rfl⟩:=rx;obtain ⟨t',rfl⟩:=ry;have q:=SeqAt.RcNeAt.int_int (A:=A) (s:=s) a t b t';rwa [Bj] at q
 eq:=λ{X pins σ H s x y v u a b A} I rx ry h1 h2 _=>by
  subst h1 h2;obtain ⟨t,rfl⟩:=rx;obtain ⟨t',rfl⟩:=ry;have q:=SeqAt.EqAt.int_int (A:=A) (s:=s) a t b t';rwa [Bj] at q
theorem iF {α β:Type} {F:α->β->Prop}:∀{l1:List α} {l2:List β} {i:Nat} (_:Paired F l1 l2) (h1:i < l1.length) (h2:i < l2.length),F l1[i] l2[i]
 | _,_,_,.nil,h1,_=>absurd h1 (cX _)
 | _,_,0,.cons r _,_,_=>r
 | _,_,i+1,.cons _ t,h1,h2=>iF (i:=i) t (Nat.lt_of_succ_lt_succ h1) (Nat.lt_of_succ_lt_succ h2)
theorem lh {α β:Type} {F:α->β->Prop} (hF:∀a b x,F a x->F b x->a=b):∀{l1 l2:List α} {l:List β},Paired F l1 l->Paired F l2 l->l1=l2
 | _,_,_,.nil,.nil=>rfl
 | _,_,_,.cons r t,.cons r' t'=>by rw[hF _ _ _ r r',lh hF t t']
theorem vp {α:Type} [DecidableEq α] (as bs:List α) (h:as.length=bs.length):(List.range as.length).all (λj=>decide (as[j]?=bs[j]?))=decide (as=bs):=by
 rw[kO,oh,decide_eq_true_iff];constructor
 ·intro q;apply jC;intro i;by_cases hi:i < as.length
  ·exact of_decide_eq_true (q i (fJ.mpr hi))
  ·rw[aO (by lia),aO (by lia)]
 ·rintro rfl i _;simp
section
variable {α:Type} [DecidableEq α] (k:Kind α)
theorem Kind.items {X:Cx} {pins:List (Addr×Obj)} {σ:St} {H:Hp} {s:Shared} {A:Around} (I:Inv X pins σ H s) (hA:A.units+k.d < cLine) {xs ys:List V} {us ws:List Value} {as bs:List α}
  (rx:cZ xs us) (ry:cZ ys ws) (ha:Paired (λa x=>k.R X.K H x a) as xs) (hb:Paired (λa x=>k.R X.K H x a) bs ys) :
  ∀j (h1:j < us.toArray.size) (h2:j < ws.toArray.size),SeqAt.EqAt A s us.toArray[j] ws.toArray[j] (decide (as[j]?=bs[j]?)):=λj h1 h2=>by
 have l1:j < us.length:=by simpa using h1
 have l2:j < ws.length:=by simpa using h2
 have e1:=rx.length;have e2:=ry.length;have e3:=ha.length;have e4:=hb.length;obtain ⟨u,hu,ru⟩:=rx.get (i:=j) (x:=xs[j]'(by lia)) (by simp);obtain ⟨w,hw,rw'⟩:=ry.get (i:=j) (x:=ys[j]'(by lia)) (by simp);have q:=k.eq (A:=A) I ru rw' (iF ha (by lia) (by lia)) (iF hb (by lia) (by lia)) hA
 have eu:us.toArray[j]=u:=by
  have:=hu;rw[ag l1] at this;simpa using this
 have ew:ws.toArray[j]=w:=by
  have:=hw;rw[ag l2] at this;simpa using this
 rw[eu,ew,ag (show j < as.length by lia),ag (show j < bs.length by lia)];have e5:decide (some as[j]=some bs[j])=decide (as[j]=bs[j]):=by simp
 rw[e5];exact q
theorem Ds {α:Type} [DecidableEq α] (as bs:List α) {n m:Nat} (h1:as.length=n) (h2:bs.length=m):((List.range (min n m)).all (λj=>decide (as[j]?=bs[j]?)) && n == m)=decide (as=bs):=by
 subst h1 h2;by_cases e:as.length=bs.length
 ·rw[show min as.length bs.length=as.length by lia,vp as bs e];simp [e]
 ·have h1:(as.length == bs.length)=false:=by simpa using e
  rw[h1,Bool.and_false];exact (decide_eq_false λz=>e (by rw[z])).symm
def S6:Kind (List α) where
 R:=λK H x as=>∃p xs,x=.ref p/\nY K H p xs/\Paired (λa x=>k.R K H x a) as xs
 d:=k.d+1
 inj:=λ{X pins σ H s x a b} I h1 h2=>by
  obtain ⟨p,xs,rfl,hp,pa⟩:=h1;obtain ⟨q,ys,e,hq,pb⟩:=h2;cases e;have e:=I.tuple_inj hp hq;subst e;exact lh (F:=λa x=>k.R X.K H x a) (λa b x=>k.inj I) pa pb
 rc:=λ{X pins σ H s x y v u a b A} I rx ry h1 h2 hA=>by
  obtain ⟨p,xs,rfl,hp,pa⟩:=h1;obtain ⟨q,ys,rfl,hq,pb⟩:=h2;cases rx;cases ry;obtain ⟨us,r1,t1,_⟩:=I.tuple hp;obtain ⟨ws,r2,t2,_⟩:=I.tuple hq;have z:=SeqAt.RcAt.tuples (A:=A) (e:=λj=>decide (a[j]?=b[j]?)) (show s.heap.IsTuple p us.toArray from t1) (show s.heap.IsTuple q ws.toArray from t2) (by lia) (k.items (A:=A.in1) I (by show A.units+1+k.d < cLine;lia) r1 r2 pa pb);rwa [Ds a b (by rw[pa.length,r1.length];simp) (by rw[pb.length,r2.length];simp)] at z
 ne:=λ{X pins σ H s x y v u a b A} I rx ry h1 h2 hA=>by
  obtain ⟨p,xs,rfl,hp,pa⟩:=h1;obtain ⟨q,ys,rfl,hq,pb⟩:=h2;cases rx;cases ry;obtain ⟨us,r1,t1,_⟩:=I.tuple hp;obtain ⟨ws,r2,t2,_⟩:=I.tuple hq;have z:=SeqAt.RcNeAt.tuples (A:=A) (e:=λj=>decide (a[j]?=b[j]?)) (show s.heap.IsTuple p us.toArray from t1) (show s.heap.IsTuple q ws.toArray from t2) (by lia) (k.items (A:=A.in1) I (by show A.units+1+k.d < cLine;lia) r1 r2 pa pb);rwa [Ds a b (by rw[pa.length,r1.length];simp) (by rw[pb.length,r2.length];simp)] at z
 eq:=λ{X pins σ H s x y v u a b A} I rx ry h1 h2 hA=>by
  obtain ⟨p,xs,rfl,hp,pa⟩:=h1;obtain ⟨q,ys,rfl,hq,pb⟩:=h2;cases rx;cases ry;by_cases e:p=q
  ·subst e;have e:=I.tuple_inj hp hq;subst e;rw[lh (F:=λa x=>k.R X.K H x a) (λa b x=>k.inj I) pa pb,decide_eq_true rfl];exact SeqAt.EqAt.same _
  ·obtain ⟨us,r1,t1,_⟩:=I.tuple hp;obtain ⟨ws,r2,t2,_⟩:=I.tuple hq;have z:=SeqAt.RcAt.tuples (A:=A) (e:=λj=>decide (a[j]?=b[j]?)) (show s.heap.IsTuple p us.toArray from t1) (show s.heap.IsTuple q ws.toArray from t2) (by lia) (k.items (A:=A.in1) I (by show A.units+1+k.d < cLine;lia) r1 r2 pa pb);rw[Ds a b (by rw[pa.length,r1.length];simp) (by rw[pb.length,r2.length];simp)] at z;exact .of_refs e z
theorem HR {X:Cx} {pins:List (Addr×Obj)} {σ:St} {H:Hp} {s:Shared} {p q:Addr} {xs ys:List V} {a b:List α} {A:Around} (I:Inv X pins σ H s) (hp:bE X.K H p xs) (hq:bE X.K H q ys)
  (pa:Paired (λa x=>k.R X.K H x a) a xs) (pb:Paired (λa x=>k.R X.K H x a) b ys) (hA:A.units+(k.d+1) < cLine) :
  SeqAt.RcAt A s (.ref p) (.ref q) (decide (a=b))/\SeqAt.RcNeAt A s (.ref p) (.ref q) (!decide (a=b)):=by
 obtain ⟨us,r1,t1,_⟩:=I.list hp;obtain ⟨ws,r2,t2,_⟩:=I.list hq;have l1:=r1.length;have l2:=r2.length;have l3:=pa.length;have l4:=pb.length;by_cases e:us.length=ws.length
 ·have it:=k.items (A:=A.in1) I (by show A.units+1+k.d < cLine;lia) r1 r2 pa pb;have z:=SeqAt.RcAt.lists (A:=A) (e:=λj=>decide (a[j]?=b[j]?)) t1.isList t2.isList (by simpa using e) (by lia) it;have z2:=SeqAt.RcNeAt.lists (A:=A) (e:=λj=>decide (a[j]?=b[j]?)) t1.isList t2.isList (by simpa using e) (by lia) it;have e1:us.toArray.size=a.length:=by rw[aQ];lia
  rw[e1,vp a b (by lia)] at z z2;exact ⟨z,z2⟩
 ·have hne:¬a=b:=λz=>e (by have:=congrArg List.length z;lia)
  rw[decide_eq_false hne];exact ⟨SeqAt.RcAt.lists_lengths t1.isList t2.isList (by simpa using e) (by lia),SeqAt.RcNeAt.lists_lengths t1.isList t2.isList (by simpa using e) (by lia)⟩
def RY:Kind (List α) where
 R:=λK H x as=>∃p xs,x=.ref p/\bE K H p xs/\Paired (λa x=>k.R K H x a) as xs
 d:=k.d+1
 inj:=λ{X pins σ H s x a b} I h1 h2=>by
  obtain ⟨p,xs,rfl,hp,pa⟩:=h1;obtain ⟨q,ys,e,hq,pb⟩:=h2;cases e;have e:=I.list_inj hp hq;subst e;exact lh (F:=λa x=>k.R X.K H x a) (λa b x=>k.inj I) pa pb
 rc:=λ{X pins σ H s x y v u a b A} I rx ry h1 h2 hA=>by
  obtain ⟨p,xs,rfl,hp,pa⟩:=h1;obtain ⟨q,ys,rfl,hq,pb⟩:=h2;cases rx;cases ry;exact (HR k I hp hq pa pb hA).1
 ne:=λ{X pins σ H s x y v u a b A} I rx ry h1 h2 hA=>by
  obtain ⟨p,xs,rfl,hp,pa⟩:=h1;obtain ⟨q,ys,rfl,hq,pb⟩:=h2;cases rx;cases ry;exact (HR k I hp hq pa pb hA).2
 eq:=λ{X pins σ H s x y v u a b A} I rx ry h1 h2 hA=>by
  obtain ⟨p,xs,rfl,hp,pa⟩:=h1;obtain ⟨q,ys,rfl,hq,pb⟩:=h2;cases rx;cases ry;by_cases e:p=q
  ·subst e;have e:=I.list_inj hp hq;subst e;rw[lh (F:=λa x=>k.R X.K H x a) (λa b x=>k.inj I) pa pb,decide_eq_true rfl];exact SeqAt.EqAt.same _
  ·exact .of_refs e (HR k I hp hq pa pb hA).1
def Kind.via {β:Type} [DecidableEq β] (f:β->α) (fi:∀a b,f a=f b->a=b) (R':FG9->Hp->V->β->Prop) (im:∀{K H x b},R' K H x b->k.R K H x (f b)):Kind β where
 R:=R'
 d:=k.d
 inj:=λI h1 h2=>fi _ _ (k.inj I (im h1) (im h2))
 rc:=λ{X pins σ H s x y v u a b A} I rx ry h1 h2 hA=>by
  have z:=k.rc (A:=A) I rx ry (im h1) (im h2) hA;rwa [decide_eq_decide.mpr (show f a=f b↔a=b from ⟨fi a b,λe=>by rw[e]⟩)] at z
 ne:=λ{X pins σ H s x y v u a b A} I rx ry h1 h2 hA=>by
  have z:=k.ne (A:=A) I rx ry (im h1) (im h2) hA;rwa [decide_eq_decide.mpr (show f a=f b↔a=b from ⟨fi a b,λe=>by rw[e]⟩)] at z
 eq:=λ{X pins σ H s x y v u a b A} I rx ry h1 h2 hA=>by
  have z:=k.eq (A:=A) I rx ry (im h1) (im h2) hA;rwa [decide_eq_decide.mpr (show f a=f b↔a=b from ⟨fi a b,λe=>by rw[e]⟩)] at z
end
def F3 (K:FG9) (H:Hp) (x:V) (n:Int×Int):Prop:=∃p,x=.ref p/\nY K H p [.int n.1,.int n.2]
def RX:Kind (Int×Int):=(S6 S8).via (λn=>[n.1,n.2]) (λa b e=>by cases a;cases b;simp at e;rw[e.1,e.2]) F3 λ⟨p,e,h⟩=>⟨p,_,e,h,.cons rfl (.cons rfl .nil)⟩
def SY (K:FG9):R2:=λx y H Q=>∃(α:Type) (_:DecidableEq α) (k:Kind α) (a b:α),k.d<=50/\k.R K H x a/\k.R K H y b/\Q (.bl (decide (a=b))) H
def RP (K:FG9):R2:=λx y H Q=>∃(α:Type) (_:DecidableEq α) (k:Kind α) (a b:α),k.d<=50/\k.R K H x a/\k.R K H y b/\Q (.bl (!decide (a=b))) H
theorem Lx {X:Cx} (hu:X.A.units+50 < cLine):yA X (compareOp .Eq) (SY X.K):=by
 intro pins s σ H x y v u Q I rx ry h;obtain ⟨α,_,k,a,b,hd,ha,hb,q⟩:=h;exact k.rc (A:=X.A) I rx ry ha hb (by lia) _ _ _ _ ⟨.bl (decide (a=b)),H,I,rfl,q⟩
theorem xi {X:Cx} (hu:X.A.units+50 < cLine):yA X (compareOp .NotEq) (RP X.K):=by
 intro pins s σ H x y v u Q I rx ry h;obtain ⟨α,_,k,a,b,hd,ha,hb,q⟩:=h;exact k.ne (A:=X.A) I rx ry ha hb (by lia) _ _ _ _ ⟨.bl (!decide (a=b)),H,I,rfl,q⟩
theorem AB {A:Around} {k:Nat} (hr:jQ k A):A.units+50 < cLine:=by have:=hr.units;lia
def Inner (H:Hp) (p q:Addr):Prop:=∃a b c:Int,H p=some (.lst [.int a,.int b,.int c,.ref q])
def c6 (p:Addr) (H H':Hp):Prop:=(∀b o,H b=some o->b≠p->H' b=some o)/\∀q,Inner H p q->Inner H' p q
theorem c6.refl {p:Addr} (H:Hp):c6 p H H:=⟨λ_ _ h _=>h,λ_ h=>h⟩
theorem c6.trans {p:Addr} {H H1 H2:Hp} (a:c6 p H H1) (b:c6 p H1 H2):c6 p H H2:=⟨λc o h n=>b.1 c o (a.1 c o h n) n,λq h=>b.2 q (a.2 q h)⟩
theorem Inner.inj {H:Hp} {p q q':Addr} (h:Inner H p q) (h':Inner H p q'):q=q':=by
 obtain ⟨a,b,c,e⟩:=h;obtain ⟨a',b',c',e'⟩:=h';rw[e] at e';have:=HO.lst.inj (bU e');simp at this;exact this.2.2.2
theorem c6.set {p q:Addr} {H:Hp} {a b c a' b' c':Int} (h:H p=some (.lst [.int a,.int b,.int c,.ref q])):c6 p H (upd H p (.lst [.int a',.int b',.int c',.ref q])) :=
 ⟨λb u h n=>by rw[bf n];exact h,λq' h'=>by
  rw[(Inner.inj ⟨a,b,c,h⟩ h').symm];exact ⟨a',b',c',aE⟩⟩
theorem aF.upto {p:Addr} {H H':Hp} (h:aF H H'):c6 p H H':=⟨λb o e _=>h b o e,λq ⟨a,b,c,e⟩=>⟨a,b,c,h _ _ e⟩⟩
theorem aF.new {H:Hp} {p:Addr} {o:HO} (h:H p=Option.none):aF H (upd H p o):=λb u e=>by rw[bf (fe e h)];exact e
theorem aF.sqt {K:FG9} {H H':Hp} {a:Addr} {xs:List V} (e:aF H H') (h:nY K H a xs):nY K H' a xs:=by
 rcases h with (h | ⟨o,h⟩) | h
 ·exact .inl (.inl (e _ _ h))
 ·exact .inl (.inr ⟨o,e _ _ h⟩)
 ·exact .inr h
theorem aF.num {K:FG9} {H H':Hp} {x:V} {n:Int×Int} (e:aF H H') (h:F3 K H x n):F3 K H' x n:=by obtain ⟨p,q,r⟩:=h;exact ⟨p,q,e.sqt r⟩
section
variable {σ:St} {H:Hp} {D:Ends}
theorem aM {t:TS} {σ0 σ:St} {D:Ends} {H:Hp} (e:σ0=σ) (h:t D σ H):t D σ0 H:=by rw[e];exact h
theorem Px {t u:TS} (h:t { D with nx:=u D } σ H):Q0 t u D σ H:=h
theorem Ny (h:D.nx σ H):Oy D σ H:=h
theorem PZ {te:TE} {g:TG} (h:te σ H λx H1=>g x σ H1 D.nx):M7 te g D σ H:=h
theorem Lo {i:Nat} {v:V} {Q:St->Hp->Prop} (h:Q (σ.set i (some v)) H):IZ i v σ H Q:=h
theorem Py {te:TE} (h:te σ H D.rt):Q1 te D σ H:=h
theorem PN {c:TT} {t u:TS} (h:c σ H λb H1=>if b=true then t D σ H1 else u D σ H1):Q6 c t u D σ H:=h
theorem NI {te:TE} (h:te σ H λ_ H1=>D.nx σ H1):OA te D σ H:=h
theorem Pz {i j:Nat} {ta:TA} (h:ta σ H λvs H1=>∃v w,vs=[v,w]/\D.nx ((σ.set i (some v)).set j (some w)) H1):Q2 i j ta D σ H:=h
theorem NM {to ti te:TE} {tget:V->V->Hp->VK->Prop} {tip:Sj} {tset:Ih}
  (h:to σ H λo H1=>ti σ H1 λi H2=>tget o i H2 λx H3=>te σ H3 λy H4=>tip x y H4 λz H5=>tset o i z H5 λH6=>D.nx σ H6):OB to ti te tget tip tset D σ H:=h
theorem PM {f:Int->Int->Int} {i j:Int} {Q:VK} (h:Q (.int (f i j)) H):ipI f (.int i) (.int j) H Q:=⟨i,j,rfl,rfl,h⟩
theorem PU {wi:TI} {g:TG} {tb:TS} (h:wi σ H λJ H1=>∃W:Nat->Nat->St->Hp->Prop,(∃m,W 0 m σ H1)/\∀i m σ H,W i m σ H →
  (J.stop i H/\D.nx σ H)\/(J.go i H/\∃N:St->Hp->Prop,(∀σ' H',N σ' H'->∃m',m' < m/\W (i+1) m' σ' H')/\∀x H',J.yld i H x H'->g x σ H' λσ2 H2=>tb { D with nx:=N,ct:=N,bk:=D.nx } σ2 H2)):Q7 wi g tb D σ H:=h
variable {Q:VK} {QA:List V->Hp->Prop} {QB:Bool->Hp->Prop}
theorem Pu {i:Nat} {v:V} (e:σ[i]?=some (some v)) (h:Q v H):Pg i σ H Q:=⟨v,e,h⟩
theorem SS {v:V} (h:Q v H):tC v σ H Q:=h
theorem RJ {r:R2} {ta tb:TE} (h:ta σ H λx H1=>tb σ H1 λy H2=>r x y H2 Q):Q3 r ta tb σ H Q:=h
theorem Ry {r:V->Hp->VK->Prop} {ta:TE} (h:ta σ H λx H1=>r x H1 Q):SG r ta σ H Q:=h
theorem RM {g:Int->Int->V} {i j:Int} (h:Q (g i j) H):NQ g (.int i) (.int j) H Q:=⟨i,j,rfl,rfl,h⟩
theorem fj {C:Int->Int->Prop} {g:Int->Int->V} {i j:Int} (hc:C i j) (h:Q (g i j) H):rI C g (.int i) (.int j) H Q:=⟨i,j,rfl,rfl,hc,h⟩
theorem SU {g:Int->V} {i:Int} (h:Q (g i) H):rU g (.int i) H Q:=⟨i,rfl,h⟩
theorem PY {i j:Int} (h:Q (.bl (decide (i=j))) H):S0 (.int i) (.int j) H Q:=⟨rfl,by
 have e:decide (V.int i=V.int j)=decide (i=j):=by simp
 rw[e];exact h⟩
theorem PH {i j:Int} (h:Q (.bl (!decide (i=j))) H):SW (.int i) (.int j) H Q:=⟨rfl,by
 have e:decide (V.int i=V.int j)=decide (i=j):=by simp
 rw[e];exact h⟩
theorem PX {i j:Str} (h:Q (.bl (decide (i=j))) H):S0 (.str i) (.str j) H Q:=⟨rfl,by
 have e:decide (V.str i=V.str j)=decide (i=j):=by simp
 rw[e];exact h⟩
theorem PD {i j:Str} (h:Q (.bl (!decide (i=j))) H):SW (.str i) (.str j) H Q:=⟨rfl,by
 have e:decide (V.str i=V.str j)=decide (i=j):=by simp
 rw[e];exact h⟩
theorem Nu {t:TE} (h:t σ H λx H'=>∃k,x=.bl k/\QB k H'):Ov t σ H QB:=h
theorem RA {t:TE} (h:t σ H λx H'=>∃k,x=.bl k/\QB k H'):tB t σ H QB:=h
theorem P0 {t u:TT} (h:t σ H λc H1=>if c=true then u σ H1 QB else QB false H1):Q8 t u σ H QB:=h
theorem RI {t u:TT} (h:t σ H λc H1=>if c=true then QB true H1 else u σ H1 QB):tOr t u σ H QB:=h
theorem PB {t:TT} (h:t σ H λc H1=>QB (!c) H1):Q4 t σ H QB:=h
theorem NO {t u:TE} (h:t σ H λx H1=>∃c,x=.bl c/\if c=true then u σ H1 Q else Q (.bl false) H1):OC t u σ H Q:=h
theorem Nx {t:TE} (h:t σ H λx H1=>∃c,x=.bl c/\Q (.bl (!c)) H1):Ox t σ H Q:=h
theorem PR {c:TT} {ta tb:TE} (h:c σ H λb H1=>if b=true then ta σ H1 Q else tb σ H1 Q):tIf c ta tb σ H Q:=h
theorem Pt (h:QB true H):QX σ H QB:=h
theorem PC (h:QA [] H):GK σ H QA:=h
theorem NJ {ta:TE} {tr:TA} (h:ta σ H λx H1=>tr σ H1 λxs H2=>QA (x :: xs) H2):qi ta tr σ H QA:=h
theorem NL {sp:Sp} {E:XK} {t:TA} (h:t σ H λvs H1=>sp vs H1 Q E):KY sp [] E t σ H Q:=by
 have e:(λvs H1=>sp (vs++[]) H1 Q E)=λvs H1=>sp vs H1 Q E:=by funext vs H1;rw[qe]
 show t σ H λvs H1=>sp (vs++[]) H1 Q E
 rw[e];exact h
theorem RK {r:List V->Hp->VK->Prop} {t:TA} (h:t σ H λvs H1=>r vs H1 Q):SR r t σ H Q:=h
theorem PK {K:FG9} {p:Addr} {xs:List V} {i:Int} {v:V} (hx:nY K H p xs) (e:Ie xs i=some v) (h:Q v H):P1 K (.ref p) (.int i) H Q:=⟨p,xs,i,v,rfl,rfl,hx,e,h⟩
theorem b9 {K:FG9} {p:Addr} {xs:List V} {i:Int} (hx:bE K H p xs) {v:V} (e:Ie xs i=some v) (h:Q v H):P6 K (.ref p) (.int i) H Q:=⟨p,xs,i,v,rfl,rfl,hx,e,h⟩
theorem NH {K:FG9} {p:Addr} {xs:List V} {i:Int} (hx:bE K H p xs) {v:V} (e:Ie xs i=some v) (h:Q v H):OJ K (.ref p) (.int i) H Q:=⟨p,xs,i,v,rfl,rfl,hx,e,h⟩
theorem eN {QH:Hp->Prop} {p:Addr} {xs:List V} {i:Int} {v:V} {j:Nat} {ys:List V} (hx:H p=some (.lst xs)) (e:Kz xs.length i=some j) (ey:xs.set j v=ys) (h:QH (upd H p (.lst ys))):OI (.ref p) (.int i) v H QH:=⟨p,xs,i,j,rfl,rfl,hx,e,by rw[ey];exact h⟩
theorem NF {to ti:TE} {t:Ih} {v:V} {QS:St->Hp->Prop} (h:to σ H λo H1=>ti σ H1 λi H2=>t o i v H2 λH3=>QS σ H3):Sb to ti t v σ H QS:=h
theorem Lp {t:TG} {u:ML} {v:V} {r:List V} {QS:St->Hp->Prop} (h:t v σ H λσ' H'=>u r σ' H' QS):OT t u (v :: r) σ H QS:=⟨v,r,rfl,h⟩
theorem NG {QS:St->Hp->Prop} (h:QS σ H):Sd [] σ H QS:=⟨rfl,h⟩
theorem ND {K:FG9} {n:Nat} {t:ML} {a:Addr} {xs:List V} {QS:St->Hp->Prop} (hx:nY K H a xs) (hl:xs.length=n) (h:t xs σ H QS):Qu K n t (.ref a) σ H QS:=⟨a,xs,rfl,hx,hl,h⟩
theorem RD {r:V->Option Int->Option Int->Hp->VK->Prop} {te:TE} {tl th:TO} (h:te σ H λx H1=>tl σ H1 λl H2=>th σ H2 λu H3=>r x l u H3 Q):tSl r te tl th σ H Q:=h
theorem JP {QO:Option Int->Hp->Prop} (h:QO none H):Iu σ H QO:=h
theorem Nw {t:TE} {QO:Option Int->Hp->Prop} (h:t σ H λx H1=>∃i,x=.int i/\QO (some i) H1):Ow t σ H QO:=h
variable {R:It->Hp->Prop} {K:FG9}
theorem Lm {tl:TE} (h:tl σ H λx H1=>∃a,x=.ref a/\(∃xs,bE K H1 a xs)/\R (O6 K a) H1):L6 K tl σ H R:=h
theorem NC {tl:TE} (h:tl σ H λx H1=>∃a,x=.ref a/\(∃xs,nY K H1 a xs)/\R (QP K a) H1):R9 K tl σ H R:=h
theorem Ll {ta:TA} (h:ta σ H λvs H1=>∃j:Int,vs=[.int j]/\-(2^62)<=j/\j < 2^62/\R (F5 0 j.toNat) H1):OQ ta σ H R:=h
theorem Lk {ta:TA} (h:ta σ H λvs H1=>∃i j:Int,vs=[.int i,.int j]/\(-(2^62)<=i/\i < 2^62/\-(2^62)<=j/\j < 2^62)/\R (F5 i (j - i).toNat) H1):OP ta σ H R:=h
theorem NK {wi:TI} {k:Nat} {cap:List Nat} {g:TG} {tf:TT} {te:TE} {σ₀:St} (e:Kx k cap σ=σ₀) (h:wi σ H λJ H1=>pU J σ₀ g tf te Q H1):EU wi k cap g tf te σ H Q:=by
 unfold EU;rw[e];exact h
theorem Nt {g:TG} {tf:TT} {te:TE} {x:V} {NY:V->Hp->Prop} {NN:Hp->Prop} (h:g x σ H λσ2 H2=>tf σ2 H2 λb H3=>if b=true then te σ2 H3 NY else NN H3):pI σ g tf te x H NY NN:=h
theorem RL {T:String} {r:V->List V->Hp->VK->Prop} {to:TE} {t:TA} (h:to σ H λx H1=>SQ K T x H1/\t σ H1 λxs H2=>r x xs H2 Q):tBM K T r to t σ H Q:=h
def Sq (Q:VK) (xs:List V) (H:Hp):Prop:=xs.length<=sizeLine/\∀p,H p=none->Q (.ref p) (upd H p (.tup xs))
def Sr (Q:VK) (xs:List V) (H:Hp):Prop:=xs.length<=sizeLine/\∀p,H p=none->Q (.ref p) (upd H p (.lst xs))
theorem Pw {t:TA} (h:t σ H (Sq Q)):QY t σ H Q:=h
theorem PJ {t:TA} (h:t σ H (Sr Q)):Q5 t σ H Q:=h
theorem iU {n:Nat} (h:Nat.ble n 1000=true):n<=sizeLine:=bc (bC (Nat.le_of_ble_eq_true h))
theorem cD {xs:List V} (h:∀p H',aF H H'->H' p=some (.tup xs)->Q (.ref p) H') (hl:Nat.ble xs.length 1000=true:=by rfl):Sq Q xs H :=
 ⟨iU hl,λp hp=>h p _ (aF.new hp) aE⟩
theorem dd {xs:List V} (h:∀p H',aF H H'->H p=none->H' p=some (.lst xs)->Q (.ref p) H') (hl:Nat.ble xs.length 1000=true:=by rfl):Sr Q xs H :=
 ⟨iU hl,λp hp=>h p _ (aF.new hp) hp aE⟩
theorem R6 {A B:Prop} (h:B):if (!true)=true then A else B:=L4 h
theorem R8 {A B:Prop} (h:A):if (!false)=true then A else B:=RZ h
def WB (tb:TS) (D:Ends) (Pv:St->Hp->Prop) (μ:St->Hp->Nat) (n:Nat) (σ:St) (H:Hp):Prop:=∃N:St->Hp->Prop,(∀σ' H',N σ' H'->∃m',m' < n/\(m'=μ σ' H'/\Pv σ' H'))/\tb { D with nx:=N,ct:=N,bk:=D.nx } σ H
theorem OH {tb:TS} {Pv:St->Hp->Prop} {μ:St->Hp->Nat} {n:Nat} (h:tb { D with nx:=λσ' H'=>Pv σ' H'/\μ σ' H' < n,ct:=λσ' H'=>Pv σ' H'/\μ σ' H' < n,bk:=D.nx } σ H):WB tb D Pv μ n σ H :=
 ⟨_,λσ' H' ⟨p,l⟩=>⟨_,l,rfl,p⟩,h⟩
theorem Dp {c:TT} {tb:TS} (Pv:St->Hp->Prop) (μ:St->Hp->Nat) (h0:Pv σ H) (hs:∀σ H,Pv σ H->c σ H λb H1=>if b=true then WB tb D Pv μ (μ σ H) σ H1 else D.nx σ H1):KU c tb D σ H:=by
 refine ⟨λm σ H=>m=μ σ H/\Pv σ H,⟨_,rfl,h0⟩,?_⟩;rintro m σ H ⟨rfl,p⟩;exact hs σ H p
end
def ib (H:Hp) (p:Addr):Prop:=∃(q:Addr) (a b c:Int) (cs:List Int),H p=some (.lst [.int a,.int b,.int c,.ref q])/\H q=some (.lst (cs.map V.int))/\0<=a/\0<=c/\c<=(cs.length:Int)/\∀x∈cs,(0:Int)<=x
theorem Kp {H:Hp} {p q:Addr} {a b c:Int} {cs:List Int} (hp:H p=some (.lst [.int a,.int b,.int c,.ref q])) (hq:H q=some (.lst (cs.map V.int))):q≠p:=λe=>by
 rw[e,hp] at hq;have h:=HO.lst.inj (bU hq);cases cs with
 | nil=>cases h
 | cons x1 cs=>cases cs with
  | nil=>cases h
  | cons x2 cs=>cases cs with
   | nil=>cases h
   | cons x3 cs=>cases cs with
    | nil=>cases h
    | cons x4 cs=>simp at h
theorem ib.same {H H':Hp} {p:Addr} (h:ib H p) (e:aF H H'):ib H' p:=by obtain ⟨q,a,b,c,cs,h1,h2,r⟩:=h;exact ⟨q,a,b,c,cs,e _ _ h1,e _ _ h2,r⟩
theorem c6.tup {H H':Hp} {p r:Addr} {xs:List V} (u:c6 p H H') (B:ib H p) (h:H r=some (.tup xs)):H' r=some (.tup xs):=by
 obtain ⟨q,a,b,c,cs,h1,_⟩:=B;exact u.1 r _ h λe=>by rw[e,h1] at h;cases h
theorem c6.other {H H':Hp} {p r:Addr} {o:HO} (u:c6 p H H') (n:r≠p) (h:H r=some o):H' r=some o:=u.1 r _ h n
theorem ib.inner {H:Hp} {p:Addr} (h:ib H p):∃q,Inner H p q/\∃xs,H q=some (.lst xs):=by obtain ⟨q,a,b,c,cs,h1,h2,_⟩:=h;exact ⟨q,⟨a,b,c,h1⟩,_,h2⟩
theorem ib.upd {H:Hp} {p q r:Addr} {o:HO} (h:ib H p) (hi:Inner H p q) (n1:r≠p) (n2:r≠q):ib (L2.upd H r o) p:=by
 obtain ⟨q',a,b,c,cs,h1,h2,z⟩:=h;have e:q'=q:=Inner.inj ⟨a,b,c,h1⟩ hi;subst e;exact ⟨q',a,b,c,cs,by rw[bf n1.symm];exact h1,by rw[bf n2.symm];exact h2,z⟩
theorem Inner.upd {H:Hp} {p q r:Addr} {o:HO} (hi:Inner H p q) (n1:r≠p):Inner (L2.upd H r o) p q:=by obtain ⟨a,b,c,h⟩:=hi;exact ⟨a,b,c,by rw[bf n1.symm];exact h⟩
def Nc:Sp:=λvs H Q _=>∃p n,vs=[.ref p,.int n]/\ib H p/\0 < n/\n < 2^64/\∀v H',0<=v->v < n->ib H' p->c6 p H H'->Q (.int v) H'
inductive K8 (K:FG9) (vs:List V) (H:Hp) (Q:VK) (E9:XK):Prop
 | mk (a:Addr) (ns:List Int):vs=[.ref a]->bE K H a (ns.map V.int)->ns.length<=63->(∀p H',H p=none->ib H' p->aF H H'->Q (.ref p) H')->K8 K vs H Q E9
inductive zG (K:FG9) (vs:List V) (H:Hp) (Q:VK) (E9:XK):Prop
 | mk (a:Addr) (ns:List Int):vs=[.ref a]->bE K H a (ns.map V.int)->ns.length<=63->(∀H',Q (.bl true) H')->zG K vs H Q E9
def Pn:Sp:=λvs H Q _=>∃t b,vs=[.int t,.int b]/\0 < b/\Sz 449950 b/\∀r H',aF H H'->H' r=some (.tup [.int (lo t b),.int (hi t b)])->Q (.ref r) H'
def Rh:Sp:=λvs H Q _=>∃a b,vs=[.int a,.int b]/\Q (.int (g a b)) H
def JH:Sp:=λvs H Q _=>∃t b,vs=[.int t,.int b]/\b≠0/\Sz 449950 b/\∀r H',aF H H'->H' r=some (.tup [.int (lo (if b < 0 then -t else t) (if b < 0 then -b else b)),.int (hi (if b < 0 then -t else t) (if b < 0 then -b else b))])->Q (.ref r) H'
def OU (a b c d:Int):Int:=a*d+c*b
def Ml (a b c d:Int):Int:=a*d - c*b
def Mj (a _b c _d:Int):Int:=a*c
def IC (K:FG9) (f:Int->Int->Int->Int->Int):Sp:=λvs H Q _=>∃p q a b c d,vs=[.ref p,.ref q]/\nY K H p [.int a,.int b]/\nY K H q [.int c,.int d]/\0 < b/\0 < d/\Sz 200000 a/\Sz 200000 b/\Sz 200000 c/\Sz 200000 d /\
 ∀r H',aF H H'->H' r=some (.tup [.int (lo (f a b c d) (b*d)),.int (hi (f a b c d) (b*d))])->Q (.ref r) H'
def Nf (K:FG9):Sp:=λvs H Q _=>∃p q a b c d,vs=[.ref p,.ref q]/\nY K H p [.int a,.int b]/\nY K H q [.int c,.int d]/\0 < b/\0 < d/\c≠0/\Sz 200000 a/\Sz 200000 b/\Sz 200000 c/\Sz 200000 d /\
 ∀r H',aF H H'->H' r=some (.tup [.int (lo (if c < 0 then 0 - a*d else a*d) (if c < 0 then 0 - b*c else b*c)),.int (hi (if c < 0 then 0 - a*d else a*d) (if c < 0 then 0 - b*c else b*c))])->Q (.ref r) H'
theorem cp {α β:Type} {F:α->β->Prop}:∀{l1 l1':List α} {l2 l2':List β},Paired F l1 l2->Paired F l1' l2'->Paired F (l1++l1') (l2++l2')
 | _,_,_,_,.nil,h=>h
 | _,_,_,_,.cons r t,h=>.cons r (cp t h)
theorem dc {h:Heap} {a b:Addr} {o u:Obj} (ha:h.get? a=some o) (hb:h.get? b=some u) (hc:o.cls≠u.cls):a≠b:=λe=>by
 subst e;rw[ha] at hb;cases hb;exact hc rfl
theorem kS {a b:String} (h:a≠b):Value.type a≠Value.type b:=λe=>h (by injection e)
theorem BS {h:Heap} {z TI TO i1 i2 l1 l2:Addr} {f0 a b:Value} {k1 k2:Nat} {xs ys:Array Value} (hz:IsZip h z TI TO f0) (hTI:IsPair h TI (.ref i1) (.ref i2)) (hTO:IsPair h TO a b)
  (h1:h.IsListIter i1 l1 k1) (h2:h.IsListIter i2 l2 k2) (hl1:h.IsList l1 xs) (hl2:h.IsList l2 ys) (hT:TI≠TO) (hi:i1≠i2):ZipApart z TI TO i1 i2 l1 l2:=by
 obtain ⟨o1,g1,c1,_⟩:=h1;obtain ⟨o2,g2,c2,_⟩:=h2;obtain ⟨p1,q1,d1,_⟩:=hl1;obtain ⟨p2,q2,d2,_⟩:=hl2;refine ⟨dc hTI hz ?_,dc hTO hz ?_,dc g1 hz ?_,dc g2 hz ?_,hT,dc hTI g1 ?_,dc hTI g2 ?_,dc hTO g1 ?_,dc hTO g2 ?_,hi,dc q1 hz ?_,dc q1 hTO ?_,dc q1 g1 ?_,dc q1 g2 ?_,dc q2 hz ?_,dc q2 hTO ?_,dc q2 g1 ?_,dc q2 g2 ?_⟩
 all_goals first
  | (rw[d1];first | (rw[c1];exact kS (by decide)) | (rw[c2];exact kS (by decide)) | exact kS (by decide))
  | (rw[d2];first | (rw[c1];exact kS (by decide)) | (rw[c2];exact kS (by decide)) | exact kS (by decide))
  | (rw[c1];exact kS (by decide))
  | (rw[c2];exact kS (by decide))
  | exact kS (by decide)
def O5 (K : FG9) (l1 l2 : Addr) : It :=
  ⟨λi H => ∃ xs ys x y, bE K H l1 xs /\ bE K H l2 ys /\ xs[i]? = some x /\ ys[i]? = some y,
   λi H v H' => ∃ p x y, v = .ref p /\ H p = none /\ H' = upd H p (.tup [x, y]) /\ (∀ xs, bE K H l1 xs → xs[i]? = some x) /\ ∀ ys, bE K H l2 ys → ys[i]? = some y,
   λi H => ∃ xs ys, bE K H l1 xs /\ bE K H l2 ys /\ (xs.length ≤ i \/ ys.length ≤ i)⟩
def tnZ (z TI TO i1 i2 l1 l2:Addr) (i:Nat) (h:Heap):Prop:=IsZip h z TI TO .none/\IsPair h TI (.ref i1) (.ref i2)/\(∃a b,IsPair h TO a b)/\h.IsListIter i1 l1 i/\h.IsListIter i2 l2 i
theorem KP {P:Program} {w:World} {K:FG9} {elts:List Expr} {kk:Nat} {tpos:Pos} (z TI TO i1 i2 l1 l2:Addr) (hT:TI≠TO) (hi:i1≠i2):Turn P w K (.Tuple elts kk tpos) (O5 K l1 l2) [z,TI,TO,i1,i2] z (tnZ z TI TO i1 i2 l1 l2) where
 mem:=by simp
 obj:=λi h st b hb=>by
  obtain ⟨hz,hTI,⟨a,c,hTO⟩,⟨o1,g1,c1,d1⟩,⟨o2,g2,c2,d2⟩⟩:=st;simp only[aG,br,or_false] at hb;rcases hb with rfl | rfl | rfl | rfl | rfl
  ·exact ⟨_,hz,λv q=>nomatch q⟩
  ·exact ⟨_,hTI,λv q=>nomatch q⟩
  ·exact ⟨_,hTO,λv q=>nomatch q⟩
  ·exact ⟨o1,g1,λv q=>by rw[d1] at q;cases q⟩
  ·exact ⟨o2,g2,λv q=>by rw[d2] at q;cases q⟩
 keep:=λi h h' st k=>by
  obtain ⟨hz,hTI,⟨a,c,hTO⟩,h1,h2⟩:=st;exact ⟨k z (by simp) _ hz,k TI (by simp) _ hTI,⟨a,c,k TO (by simp) _ hTO⟩,h1.at λo e=>k i1 (by simp) o e,h2.at λo e=>k i2 (by simp) o e⟩
 item:=by
  intro X hP hw hK hc i pins s σ H E I hf st hg;subst hP hw hK;obtain ⟨hz,hTI,⟨a,c,hTO⟩,h1,h2⟩:=st;obtain ⟨xs,ys,x,y,qx,qy,ex,ey⟩:=hg;obtain ⟨us,rx,px,_⟩:=I.list qx;obtain ⟨ws,ry,py,_⟩:=I.list qy;obtain ⟨u,eu,ru⟩:=rx.get ex;obtain ⟨v,ev,rv⟩:=ry.get ey;have D:=BS hz hTI hTO h1 h2 px.isList py.isList hT hi;refine wpAny_pyNext_zip_item D hz hTI hTO h1 h2 px.isList py.isList (x:=u) (y:=v) (by simpa using eu) (by simpa using ev) λh' a1 a2 a3 a4 a5 a6 hk=>?_
  refine ⟨_,rfl,wpAny_letOwnedTupleGo_zip a1 λh'' hz'' hs=>?_⟩;have hT0:H s.heap.objs.size=none:=I.hok.fresh (aw _);have zne:s.heap.objs.size≠z:=Jy (Heap.lt_size hz)
  have up:∀b o,b∉[z,TO,i1,i2]->s.heap.get? b=some o->h''.get? b=some o:=λb o hb e=>by
   simp only[aG,br,or_false,not_or] at hb;exact (hs.2 b hb.1).trans (hk b o hb.1 hb.2.1 hb.2.2.1 hb.2.2.2 e)
  have fx:∀b∈[z,TO,i1,i2],jT X pins H b:=λb hb=>hf b (by
   simp only[aG,br,or_false] at hb ⊢;rcases hb with rfl | rfl | rfl | rfl <;> simp)
  have nx:∀b o,H b=some o->b∉[z,TO,i1,i2]:=λb o e hb=>by
   have:=(fx b hb).1;rw[this] at e;cases e
  have nT:∀{b:Addr} {o:HO},H b=some o->b≠s.heap.objs.size:=λe q=>by rw[q,hT0] at e;cases e
  have tup:h''.get? s.heap.objs.size=some { cls:=.type "tuple",data:=.seq #[u,v] }:=(hs.2 _ zne).trans a5
  have I2:Inv X pins σ (upd H s.heap.objs.size (.tup [x,y])) { s with heap:=h'' }:=by
   refine I.step (g':=s.gens) (d':=s.drawn) (t':=s.toks) (ch:=[z,TO,i1,i2]) (λb hb=>?_) (λb o _ _ hb e _=>up b o hb e) (λb o _ _ hb e _=>⟨o.slots,up b o hb e⟩) (λb o hb e n=>?_)
    (λb o hb e=>⟨o,up b o hb e⟩) (λb q e=>by rw[bf (nT e)];exact e) (λb o q e=>by rw[bf (nT e)];exact e) (λb q e=>⟨#[],by rw[bf (nT e),e];simp⟩) (λm hm=>?_) (λb o e=>?_) I.bare
   ·obtain ⟨_,f1,_,f3,f4,f5⟩:=fx b hb;exact ⟨f3,f1,f4,f5⟩
   ·rw[bf (cQ (Heap.lt_size e))];exact n
   ·obtain ⟨o,es,ep,ho,r⟩:=hm;exact ⟨o,es,ep,up _ o (λz=>(fx _ z).2.1 rfl) ho,r⟩
   ·by_cases hb:b=s.heap.objs.size
    ·subst hb;rw[aE] at e;cases e;exact ⟨iU rfl,[u,v],.cons ru (.cons rv .nil),⟨_,tup,rfl,_,rfl⟩⟩
    ·rw[bf hb] at e;refine (I.hok b o e).stay (λc v' hc q=>up c v' ?_ q) (λc q=>by rw[bf (nT q)];exact q) λc xs q=>by rw[bf (nT q)];exact q
     rcases hc with rfl | hc
     ·exact nx _ _ e
     ·exact nx _ _ hc
  refine ⟨.ref s.heap.objs.size,_,I2,rfl,⟨_,x,y,rfl,hT0,rfl,λxs' q=>by rw[I.list_inj q qx];exact ex,λys' q=>by rw[I.list_inj q qy];exact ey⟩,?_,λb hb=>?_⟩
  ·refine ⟨hz'',(hs.2 _ D.TIz).trans (hk _ _ D.TIz D.TITO D.TIi1 D.TIi2 hTI),⟨_,_,(hs.2 _ D.TOz).trans a2⟩,a3.at λo e=>(hs.2 _ D.i1z).trans e,a4.at λo e=>(hs.2 _ D.i2z).trans e⟩
  ·obtain ⟨o,e,_⟩:∃o,s.heap.get? b=some o/\True:=by
    obtain ⟨o1,g1,_⟩:=h1;obtain ⟨o2,g2,_⟩:=h2;simp only[aG,br,or_false] at hb;rcases hb with rfl | rfl | rfl | rfl | rfl
    ·exact ⟨_,hz,trivial⟩
    ·exact ⟨_,hTI,trivial⟩
    ·exact ⟨_,hTO,trivial⟩
    ·exact ⟨_,g1,trivial⟩
    ·exact ⟨_,g2,trivial⟩
   rw[bf (cQ (Heap.lt_size e))];exact (hf b hb).1
 done:=by
  intro X hP hw hK hc i pins s σ H E I hf st hg;subst hP hw hK;obtain ⟨hz,hTI,⟨a,c,hTO⟩,h1,h2⟩:=st;obtain ⟨xs,ys,qx,qy,hend⟩:=hg;obtain ⟨us,rx,px,_⟩:=I.list qx;obtain ⟨ws,ry,py,_⟩:=I.list qy;have lx:=rx.length;have ly:=ry.length;have D:=BS hz hTI hTO h1 h2 px.isList py.isList hT hi
  refine wpAny_pyNext_zip_end (I.ok.hd hc) D hz hTI hTO h1 h2 px.isList py.isList (by
   rcases hend with q | q
   ·exact .inl (by simp;lia)
   ·exact .inr (by simp;lia)) λh' hk=>⟨rfl,?_⟩
  have up:∀b o,b∉[z,TO,i1,i2]->s.heap.get? b=some o->h'.get? b=some o:=λb o hb e=>by
   simp only[aG,br,or_false,not_or] at hb;exact hk b o hb.1 hb.2.1 hb.2.2.1 hb.2.2.2 e
  have fx:∀b∈[z,TO,i1,i2],jT X pins H b:=λb hb=>hf b (by
   simp only[aG,br,or_false] at hb ⊢;rcases hb with rfl | rfl | rfl | rfl <;> simp)
  have nx:∀b o,H b=some o->b∉[z,TO,i1,i2]:=λb o e hb=>by
   have:=(fx b hb).1;rw[this] at e;cases e
  refine I.step (g':=s.gens) (d':=s.drawn) (t':=s.toks) (ch:=[z,TO,i1,i2]) (λb hb=>?_) (λb o _ _ hb e _=>up b o hb e) (λb o _ _ hb e _=>⟨o.slots,up b o hb e⟩) (λb o hb e n=>n)
   (λb o hb e=>⟨o,up b o hb e⟩) (λb q e=>e) (λb o q e=>e) (λb q e=>⟨#[],by rw[e];simp⟩) (λm hm=>?_) (λb o e=>?_) I.bare
  ·obtain ⟨_,f1,_,f3,f4,f5⟩:=fx b hb;exact ⟨f3,f1,f4,f5⟩
  ·obtain ⟨o,es,ep,ho,r⟩:=hm;exact ⟨o,es,ep,up _ o (λz=>(fx _ z).2.1 rfl) ho,r⟩
  ·refine (I.hok b o e).stay (λc v' hc q=>up c v' ?_ q) (λc q=>q) λc xs q=>q
   rcases hc with rfl | hc
   ·exact nx _ _ e
   ·exact nx _ _ hc
 self:=λ_ _ _ _ _ st h=>wpAny_pyIter_zip st.1 h
section
variable {X:Cx}
def Qq (K:FG9) (ta:TA):TI:=λσ H R=>ta σ H λvs H1=>∃l1 l2,vs=[.ref l1,.ref l2]/\(∃xs,bE K H1 l1 xs)/\(∃ys,bE K H1 l2 ys)/\R (O5 K l1 l2) H1
theorem kE {a b:Expr} {ta:TA} {p pos tpos:Pos} {elts:List Expr} {kk:Nat} (hg:Gl X "zip") (hm:X.mg "zip"=none) (ha:PA X [a,b] ta) (hs:starEach [a,b] X.env=[(false,eval a X.env),(false,eval b X.env)]:=by rfl) (hs2:starEach [b] X.env=[(false,eval b X.env)]:=by rfl) :
  PI X (.Tuple elts kk tpos) (.Call (.Name "zip" p) [a,b] [] pos) (Qq X.K ta):=by
 intro pins s σ H R I h;refine Call_ (lQ I hg hm boot_zip (PyProof.Rows.callWith_type1 (fO (ha pos pins s σ H _ I h) λus s1 ⟨vs,H1,I1,r1,q1⟩=>?_) (by rw[hs,hs2]) (by rw[hs2];rfl)));obtain ⟨l1,l2,e,⟨xs,qx⟩,⟨ys,qy⟩,q⟩:=q1;subst e;obtain ⟨u,v,rfl,ru,rv⟩:=vals2 r1;cases ru;cases rv;obtain ⟨us,rx,px,_⟩:=I1.list qx;obtain ⟨ws,ry,py,_⟩:=I1.list qy;refine call_zip_2 px.isList py.isList λh' a1 a2 a3 a4 a5 a6 hk=>wpAny_pyIter_zip a1 ?_
 have I2:Inv X pins σ H1 { s1 with heap:=h' }:=I1.kept (t':=s1.toks) hk;refine ⟨_,[s1.heap.objs.size+4,s1.heap.objs.size+2,s1.heap.objs.size+3,s1.heap.objs.size,s1.heap.objs.size+1],_,_,H1,rfl,I2,KP (s1.heap.objs.size+4) (s1.heap.objs.size+2) (s1.heap.objs.size+3) s1.heap.objs.size (s1.heap.objs.size+1) l1 l2 (cQ (gZ _)) (cQ (gZ _)),⟨a1,a2,⟨_,_,a3⟩,a4,a5⟩,λb hb=>?_,q⟩
 have hb':s1.heap.objs.size<=b:=by
  simp only[aG,br,or_false] at hb;rcases hb with rfl | rfl | rfl | rfl | rfl <;> first | exact Nat.le_add_right _ _ | exact aw _
 exact I1.fpOk hb' (I1.hok.fresh hb')
theorem AW (hc:X.calm=true):pV X (.builtin "all") (λxs H Q=>∃(p:Addr) (bs:List Bool),xs=[.ref p]/\bE X.K H p (bs.map V.bl)/\Q (.bl (bs.all id)) H):=by
 intro pins s σ H xs us Q I r h;obtain ⟨p,bs,rfl,hp,q⟩:=h;obtain ⟨u,rfl,ru⟩:=vals1 r;cases ru;obtain ⟨vs,rv,pl,hz⟩:=I.list hp
 have hb:PyProof.Rows.LSm.BoolsAre vs bs:=by
  clear q hp pl hz
  induction bs generalizing vs with
  | nil=>cases rv;exact .nil
  | cons b bs ih =>
   rw[fI] at rv;cases rv with
   | cons r1 r2=>cases r1;exact .cons b (ih _ r2)
 have hlt:p < s.heap.objs.size:=by obtain ⟨_,e,_⟩:=pl.isList;exact Heap.lt_size e
 refine call_all_walk (wpAny_pyIter_list pl.isList ?_)
 refine ⟨s.heap.objs.size,[s.heap.objs.size,p],[s.heap.objs.size],vs.toArray.size,_,_,λi=>(bs[i]?).getD true,rfl,Walks.list (A:=X.A.in1) (I.ok.hd hc) _ p (cQ hlt) vs.toArray,
  ⟨⟨_,Heap.get?_push_size _ rfl,rfl,rfl⟩,pl.isList.push _⟩,λi v s' Q' E' hP hQ=>?_,λh' tk hk=>?_⟩
 ·obtain ⟨b,e,rfl⟩:=hb.get i v (by simpa using hP);simp only[e,KG] at hQ;exact wpAny_truthy_bool hQ
 ·have e:((List.range vs.toArray.size).all λi=>(bs[i]?).getD true)=bs.all id:=by
   rw[aQ,hb.length];exact PyProof.Rows.LSm.range_all bs
  rw[e];exact ⟨.bl _,H,I.kept (t':=tk) (PyProof.Rows.LSm.kept_iter hk),rfl,q⟩
theorem MB (hc:X.calm=true):pV X (.builtin "sum") (λxs H Q=>∃(p:Addr) (ns:List Int),xs=[.ref p]/\bE X.K H p (ns.map V.int)/\Q (.int ns.sum) H):=by
 intro pins s σ H xs us Q I r h;obtain ⟨p,ns,rfl,hp,q⟩:=h;obtain ⟨u,rfl,ru⟩:=vals1 r;cases ru;obtain ⟨vs,rv,pl,_⟩:=I.list hp;have hi:IntsAre vs ns:=intsAre_of rv;obtain ⟨xs,hx⟩:=hi.allInts.items;have hl':s.heap.IsList p (intItems xs):=hx ▸ pl.isList;refine sum_intListG (I.ok.hd hc) hl' λh' tk t' hk=>?_
 have e1:ns=xs.toList.map (·.1):=by
  rw[<- nums_intItems,<- hx];exact (show numsOf vs.toArray.toList=ns from hi.numsOf).symm
 have e2:preSum (numAt xs) xs.size=ns.sum:=by
  rw[preSum_eq,aI (by simp),e1]
 rw[e2];exact ⟨.int _,H,I.kept (t':=tk) hk,⟨_,rfl⟩,q⟩
end
section
variable {K:FG9} {l1 l2:Addr} {xs ws:List V} {g:TG} {tf:TT} {te:TE} {Q:VK} {σ₀:St} {H:Hp}
theorem rN (Pv:Nat->List V->Hp->Prop) (hz:xs.length<=sizeLine) (hw:ws.length=xs.length) (h0:Pv 0 [] H) (hl:∀i ys H,i<=xs.length->Pv i ys H->bE K H l1 xs/\bE K H l2 ws)
  (hs:∀i x y ys H p,xs[i]?=some x->ws[i]?=some y->ys.length<=i->Pv i ys H->H p=none->pI σ₀ g tf te (.ref p) (upd H p (.tup [x,y])) (λy H'=>Pv (i+1) (ys++[y]) H') (λH'=>Pv (i+1) ys H'))
  (hd:∀ys H,ys.length<=xs.length->Pv xs.length ys H->∀p,H p=none->Q (.ref p) (upd H p (.lst ys))):pU (O5 K l1 l2) σ₀ g tf te Q H:=by
 refine ⟨λi m ys H=>m=xs.length - i/\i<=xs.length/\ys.length<=i/\Pv i ys H,⟨xs.length,by simp,aZ _,aZ _,h0⟩,?_⟩;rintro i m ys H ⟨rfl,hi,hy,p⟩;obtain ⟨q1,q2⟩:=hl i ys H hi p;by_cases hlt:i < xs.length
 ·refine .inr ⟨⟨xs,ws,xs[i],ws[i]'(by lia),q1,q2,by simp [hlt],by simp⟩,by lia,λy H'=>Pv (i+1) (ys++[y]) H',λH'=>Pv (i+1) ys H',λy H' p'=>⟨xs.length - (i+1),by lia,rfl,hlt,by rw[ao,aX];lia,p'⟩,λH' p'=>⟨xs.length - (i+1),by lia,rfl,hlt,by lia,p'⟩,λx H' y=>?_⟩;obtain ⟨r,x',y',rfl,hr,rfl,e1,e2⟩:=y;exact hs i x' y' ys _ r (e1 xs q1) (e2 ws q2) hy p hr
 ·have e:i=xs.length:=by lia
  subst e;exact .inl ⟨⟨xs,ws,q1,q2,.inl (aw _)⟩,by lia,hd ys H hy p⟩
theorem El {tb:TS} {D:Ends} {σ:St} (Pv:Nat->St->Hp->Prop) (hw:ws.length=xs.length) (h0:Pv 0 σ H) (hl:∀i σ H,i<=xs.length->Pv i σ H->bE K H l1 xs/\bE K H l2 ws)
  (hs:∀i x y σ H p,xs[i]?=some x->ws[i]?=some y->Pv i σ H->H p=none->g (.ref p) σ (upd H p (.tup [x,y])) λσ2 H2=>tb { D with nx:=Pv (i+1),ct:=Pv (i+1),bk:=D.nx } σ2 H2) (hd:∀σ H,Pv xs.length σ H->D.nx σ H) :
  ∃W:Nat->Nat->St->Hp->Prop,(∃m,W 0 m σ H)/\∀i m σ H,W i m σ H →
   ((O5 K l1 l2).stop i H/\D.nx σ H)\/((O5 K l1 l2).go i H/\∃N:St->Hp->Prop,(∀σ' H',N σ' H'->∃m',m' < m/\W (i+1) m' σ' H')/\∀x H',(O5 K l1 l2).yld i H x H'->g x σ H' λσ2 H2=>tb { D with nx:=N,ct:=N,bk:=D.nx } σ2 H2):=by
 refine ⟨λi m σ H=>m=xs.length - i/\i<=xs.length/\Pv i σ H,⟨xs.length,by simp,aZ _,h0⟩,?_⟩;rintro i m σ H ⟨rfl,hi,p⟩;obtain ⟨q1,q2⟩:=hl i σ H hi p;by_cases hlt:i < xs.length
 ·refine .inr ⟨⟨xs,ws,xs[i],ws[i]'(by lia),q1,q2,by simp [hlt],by simp⟩,Pv (i+1),λσ' H' p'=>⟨xs.length - (i+1),by lia,rfl,hlt,p'⟩,λx H' y=>?_⟩;obtain ⟨r,x',y',rfl,hr,rfl,e1,e2⟩:=y;exact hs i x' y' σ _ r (e1 xs q1) (e2 ws q2) p hr
 ·have e:i=xs.length:=by lia
  subst e;exact .inl ⟨⟨xs,ws,q1,q2,.inl (aw _)⟩,hd σ H p⟩
end
section
variable {X:Cx}
theorem l9 (K:FG9) (n:Nat) {es:List Expr} {k:Nat} {pos:Pos} {t:ML} (h:Sl X es t) (hK:X.K=K:=by rfl) (hc:X.calm=true:=by rfl)
  (hn:(assignEach es X.env).length=n:=by rfl) (hst:(assignEach es X.env).findIdx? (·.1)=none:=by rfl):PG X (.Tuple es k pos) (Qu K n t):=by subst hK;exact mS hc h hn hst
theorem yY (K:FG9) (hK:X.K=K):Ss X (P1 K):=by subst hK;exact bI
theorem fE (K:FG9) (hK:X.K=K):Ss X (P6 K):=by subst hK;exact bL
theorem DU (K:FG9) (hK:X.K=K) (hu:X.A.units+50 < cLine):yA X (compareOp .NotEq) (RP K):=by subst hK;exact xi hu
theorem Fq (K:FG9) {tg l:Expr} {tl:TE} (hl:PE X l tl) (hK:X.K=K:=by rfl):PI X tg l (L6 K tl):=by subst hK;exact cu hl
end
theorem dR {X:Cx} {e e':Expr} {es:List Expr} {te:TE} {t:TA} (h:e=e') (ha:PE X e' te) (hr:PA X es t) (hs:∀l,starEach (e' :: l) X.env=(false,eval e' X.env) :: starEach l X.env:=by intro _;rfl):PA X (e :: es) (qi te t):=by subst h;exact ae ha hr (hs _)
section
variable {σ:St} {H:Hp} {D:Ends} {Q:VK}
theorem fz {l:Addr} {xs:List V} {y:V} (hl:H l=some (.lst xs)) (hz:xs.length < sizeLine) (h:Q .non (upd H l (.lst (xs++[y])))):IE (.ref l) [y] H Q:=⟨l,xs,y,rfl,rfl,hl,hz,h⟩
theorem NB {K:FG9} {ta:TA} {R:It->Hp->Prop} (h:ta σ H λvs H1=>∃l1 l2,vs=[.ref l1,.ref l2]/\(∃xs,bE K H1 l1 xs)/\(∃ys,bE K H1 l2 ys)/\R (O5 K l1 l2) H1):Qq K ta σ H R:=h
theorem xa {l b:Addr} {xs zs:List V} (h1:H l=some (.lst xs)) (h2:H b=some (.lst zs)) (hz:xs.length+zs.length<=sizeLine) (h:∀p H',aF H H'->H p=none->H' p=some (.lst (xs++zs))->Q (.ref p) H'):RQ (.ref l) (.ref b) H Q :=
 ⟨l,b,xs,zs,rfl,rfl,h1,h2,hz,λp hp=>h p _ (aF.new hp) hp aE⟩
theorem Lj {K:FG9} {a:Addr} {xs:List V} {lo hi:Option Int} (h1:bE K H a xs) (h:∀p H',aF H H'->H p=none->H' p=some (.lst (sI xs lo hi))->Q (.ref p) H'):RO K (.ref a) lo hi H Q :=
 ⟨a,xs,rfl,h1,λp hp=>h p _ (aF.new hp) hp aE⟩
theorem nQ {α:Type} {xs:List α} {i:Int} (h0:0<=i) (h1:i < xs.length):∃v,Ie xs i=some v/\v∈xs/\xs[i.toNat]?=some v:=by
 have hj:i.toNat < xs.length:=by lia
 refine ⟨xs[i.toNat],?_,aL hj,by simp [hj]⟩;have:=dX (xs:=xs) (j:=i.toNat) (v:=xs[i.toNat]) (by simp [hj]);rwa [Int.toNat_of_nonneg h0] at this
end
inductive Kn (H:Hp):V->Prop where
 | non:Kn H .non
 | bl (b:Bool):Kn H (.bl b)
 | int (i:Int):Kn H (.int i)
 | str (x:Str):Kn H (.str x)
 | lst {a:Addr} {xs:List V} (e:H a=some (.lst xs)):Kn H (.ref a)
 | tup {a:Addr} {xs:List V} (e:H a=some (.tup xs)):Kn H (.ref a)
 | dic {a:Addr} {kvs:List (Key×V)} (e:H a=some (.dK kvs)):Kn H (.ref a)
def tyB (T:String) (x:V) (H:Hp):Bool:=match x with
 | .int _=>T == "int"
 | .bl _=>T == "int" || T == "bool"
 | .ref a=>(match H a with
  | some (.lst _)=>T == "list"
  | some (.tup _)=>T == "tuple"
  | _=>false)
 | _=>false
def OkT (T:String):Prop:=T="int"\/T="bool"\/T="list"\/T="tuple"
theorem PL {K:FG9} {H:Hp} {Q:VK} {x:V} {T:String} (h:Kn H x) (hT:OkT T) (q:Q (.bl (tyB T x H)) H):Hq K T x H Q:=by
 cases h with
 | non=>rcases hT with rfl | rfl | rfl | rfl <;> exact ⟨_,_,.non,rfl,q⟩
 | bl b=>rcases hT with rfl | rfl | rfl | rfl <;> exact ⟨_,_,.bl b,rfl,q⟩
 | int i=>rcases hT with rfl | rfl | rfl | rfl <;> exact ⟨_,_,.int i,rfl,q⟩
 | str x=>rcases hT with rfl | rfl | rfl | rfl <;> exact ⟨_,_,.str x,rfl,q⟩
 | lst e =>
  simp only[tyB,e] at q;rcases hT with rfl | rfl | rfl | rfl <;> exact ⟨_,_,.lst e,rfl,q⟩
 | tup e =>
  simp only[tyB,e] at q;rcases hT with rfl | rfl | rfl | rfl <;> exact ⟨_,_,.tup e,rfl,q⟩
 | dic e =>
  simp only[tyB,e] at q;rcases hT with rfl | rfl | rfl | rfl <;> exact ⟨_,_,.dK e,rfl,q⟩
theorem dn {α β:Type} {F:α->β->Prop}:∀{l1:List α} {l2:List β} {y:β},Paired F l1 l2->y∈l2->∃x∈l1,F x y
 | _,_,_,.nil,h=>nomatch h
 | _,_,_,.cons r t,h=>by
  rcases aG.mp h with rfl | h
  ·exact ⟨_,de,r⟩
  ·obtain ⟨x,hx,q⟩:=dn t h;exact ⟨x,bZ _ hx,q⟩
theorem bY {α β:Type} {F:α->β->Prop} {l1:List α} {l2:List β} {i:Nat} {y:β} (h:Paired F l1 l2) (e:l2[i]?=some y):∃x,l1[i]?=some x/\F x y:=by
 have hl:=h.length;have hi:i < l2.length:=(aB.mp e).1;refine ⟨l1[i]'(by lia),by simp,?_⟩;have:=iF h (i:=i) (by lia) hi;have e2:l2[i]=y:=(aB.mp e).2;rwa [e2] at this
def yB (n:Int×Int):Prop:=0 < n.2/\Int.gcd n.1 n.2=1/\Sz 400000 n.1/\Sz 400000 n.2
theorem take_snoc {α:Type} {l:List α} {i:Nat} {v:α} (h:l[i]?=some v):l.take (i+1)=l.take i++[v]:=by rw[List.take_add_one,h];rfl
theorem aF.after {H H':Hp} {r:Addr} {o:HO} (s:aF H H') (h:H r=Option.none):aF H (upd H' r o):=λb u e=>by rw[bf (fe e h)];exact s b u e
theorem c6.after {H H':Hp} {b r:Addr} {o:HO} (s:c6 b H H') (h:H r=Option.none):c6 b H (upd H' r o):=⟨λc u e n=>by rw[bf (fe e h)];exact s.1 c u e n,λq hi=>(s.2 q hi).upd λz=>by obtain ⟨_,_,_,e⟩:=hi;rw[<- z,h] at e;cases e⟩
theorem c6.same {H H' H'':Hp} {b:Addr} (s:c6 b H H') (e:aF H' H''):c6 b H H'':=s.trans e.upto
theorem Jn {α:Type} {Pr:α->Prop} {l:List α} {a:α} (h:∀n∈l,Pr n) (ha:Pr a):∀n∈l++[a],Pr n:=λn hn=>by
 rcases ax.mp hn with hn | hn
 ·exact h n hn
 ·have e:n=a:=by simpa using hn
  rw[e];exact ha
abbrev A7 (h:Heap) (z TI TO:Addr) (f0 f1:Value):Prop:=h.get? z=some { cls:=.type "zip",dict:=none,data:=.fields #[f0,f1,.bool false,.ref TI,.ref TO],slots:=#[] }
section
variable {prog:Program} {w:World} {A:Around} {E:Value->Shared->Prop} {s:Shared}
theorem Ig {a:Addr} {o:Obj} {Q:Option Obj->Shared->Prop} (e:s.heap.get? a=some o) (h:Q (some o) s):wpAny (model prog w) A (loadIfAlive a) Q E s:=by
 intro Γ p hp;show Sem.wp _ _ (.loadIfAlive a .pure) _ _ _ _
 simp only[Sem.wp_loadIfAlive,e];exact wpAny_pure h Γ p hp
theorem Ac {z TI TO T:Addr} {b1:Bool} {o:Obj} {Q:Bool->Shared->Prop} (zr:A7 s.heap z TI TO (rawInt T) (.bool b1)) (al:s.heap.get? T=some o)
  (h:∀h',A7 h' z TI TO (rawInt T) (.bool true)->Heap.SameBut z s.heap h'->Q false { s with heap:=h' }):wpAny (model prog w) A (Builtin.SmallTypes.ownedTupleIsFree (.ref z)) Q E s:=by
 unfold Builtin.SmallTypes.ownedTupleIsFree;refine wpAny_bind (wpAny_field zr rfl (x:=rawInt T) rfl ?_);refine wpAny_bind (Ig (a:=T) al ?_);refine wpAny_bind (wpAny_field zr rfl (x:=.bool b1) rfl ?_);cases b1 with
 | true=>exact wpAny_pure (h _ zr (.refl ..))
 | false=>exact wpAny_bind (wpAny_setField_rec zr (by simp) λh' zr' sb=>wpAny_pure (h h' zr' sb))
theorem J9 {z TI TO T i1 i2 l1 l2:Addr} {k1 k2:Nat} {us ws:Array Value} {u v:Value} {b1:Bool} {o:Obj} {Q:Value->Shared->Prop} (D:ZipApart z TI TO i1 i2 l1 l2) (zr:A7 s.heap z TI TO (rawInt T) (.bool b1)) (al:s.heap.get? T=some o)
  (pt:IsPair s.heap TI (.ref i1) (.ref i2)) (j1:s.heap.IsListIter i1 l1 k1) (j2:s.heap.IsListIter i2 l2 k2) (m1:s.heap.IsList l1 us) (m2:s.heap.IsList l2 ws) (eu:us[k1]?=some u) (ev:ws[k2]?=some v)
  (hQ:∀h',A7 h' z TI TO (rawInt T) (.bool true)->h'.IsListIter i1 l1 (k1+1)->h'.IsListIter i2 l2 (k2+1)->IsPair h' s.heap.objs.size u v->(∀c o,c≠z->c≠i1->c≠i2->s.heap.get? c=some o->h'.get? c=some o)->Q (.ref s.heap.objs.size) { s with heap:=h' }) :
  wpAny (model prog w) A (Builtin.«zip.__next__» ⟨[.ref z],[]⟩) (λfin s'=>∃v,fin=.done (.ret v)/\Q v s') E s:=by
 change wpAny _ _ (field (Value.ref z) 2 >>= _) _ _ s
 refine wpAny_bind (wpAny_field zr rfl (x:=.bool false) rfl ?_)
 change wpAny _ _ (field (Value.ref z) 3 >>= _) _ _ s
 refine wpAny_bind (wpAny_field zr rfl (x:=.ref TI) rfl (wpAny_bind (wpAny_seqItems pt rfl ?_)))
 change wpAny _ _ (Builtin.SmallTypes.ownedTupleIsFree (Value.ref z) >>= _) _ _ s
 refine wpAny_bind (Ac zr al λg1 zr1 sb1=>?_);simp only[iD,if_false];refine wpAny_bind ?_;rw[<- Array.forIn_toList];simp only[MV,Dm];have j1':=j1.extBut sb1.extBut D.i1z;have m1':=m1.extBut sb1.extBut D.l1z;refine wpAny_bind (wpAny_bind (wpAny_holding ?_))
 change wpAny _ _ (Builtin.SmallTypes.nextOf (Value.ref i1) >>= _) _ _ _
 refine wpAny_bind (wpAny_nextOf_list_item j1' m1' eu λg2 j1a sb2=>wpAny_pure ?_);refine wpAny_pure ?_;have j2':=(j2.extBut sb1.extBut D.i2z).extBut sb2.extBut D.i12.symm;have m2':=(m2.extBut sb1.extBut D.l2z).extBut sb2.extBut D.l2i1;refine wpAny_bind (wpAny_bind (wpAny_holding ?_))
 change wpAny _ _ (Builtin.SmallTypes.nextOf (Value.ref i2) >>= _) _ _ _
 refine wpAny_bind (wpAny_nextOf_list_item j2' m2' ev λg3 j2a sb3=>wpAny_pure ?_);refine wpAny_pure (wpAny_pure ?_);refine wpAny_bind (wpAny_newTuple (hsz:=iU rfl) ?_);have sz:g3.objs.size=s.heap.objs.size:=by rw[sb3.1,sb2.1,sb1.1]
 have up:∀c o,c≠z->c≠i1->c≠i2->s.heap.get? c=some o->g3.get? c=some o:=λc o c1 c2 c3 e=>sb3.extBut _ _ c3 (sb2.extBut _ _ c2 (sb1.extBut _ _ c1 e))
 have zr3:A7 g3 z TI TO (rawInt T) (.bool true):=sb3.extBut _ _ D.i2z.symm (sb2.extBut _ _ D.i1z.symm zr1);refine wpAny_pure ⟨_,rfl,?_⟩
 change Q (.ref g3.objs.size) { s with heap:=g3.push { cls:=.type "tuple",data:=.seq #[u,v] } }
 have last:=hQ (g3.push { cls:=.type "tuple",data:=.seq #[u,v] }) (Heap.get?_push_of_some _ zr3) ((j1a.extBut sb3.extBut D.i12).at λo e=>Heap.get?_push_of_some _ e) (j2a.at λo e=>Heap.get?_push_of_some _ e)
  (by rw[<- sz];exact Heap.get?_push_size _ rfl) λc o c1 c2 c3 e=>Heap.get?_push_of_some _ (up c o c1 c2 c3 e)
 rw[sz];exact last
theorem LN {z TI TO T i1 i2 l1 l2:Addr} {k1:Nat} {us:Array Value} {b1:Bool} {o:Obj} {Q:PySem.Fin->Shared->Prop} (hh:A.handled=none) (D:ZipApart z TI TO i1 i2 l1 l2) (zr:A7 s.heap z TI TO (rawInt T) (.bool b1)) (al:s.heap.get? T=some o)
  (pt:IsPair s.heap TI (.ref i1) (.ref i2)) (j1:s.heap.IsListIter i1 l1 k1) (m1:s.heap.IsList l1 us) (eu:us[k1]?=none)
  (hE:∀h' e,(∀c o,c≠z->c≠i1->c≠i2->s.heap.get? c=some o->h'.get? c=some o)->(∃o,h'.get? e=some o/\o.cls=.type "StopIteration")->E (.ref e) { s with heap:=h' }) :
  wpAny (model prog w) A (Builtin.«zip.__next__» ⟨[.ref z],[]⟩) Q E s:=by
 change wpAny _ _ (field (Value.ref z) 2 >>= _) _ _ s
 refine wpAny_bind (wpAny_field zr rfl (x:=.bool false) rfl ?_)
 change wpAny _ _ (field (Value.ref z) 3 >>= _) _ _ s
 refine wpAny_bind (wpAny_field zr rfl (x:=.ref TI) rfl (wpAny_bind (wpAny_seqItems pt rfl ?_)))
 change wpAny _ _ (Builtin.SmallTypes.ownedTupleIsFree (Value.ref z) >>= _) _ _ s
 refine wpAny_bind (Ac zr al λg1 zr1 sb1=>?_);simp only[iD,if_false];refine wpAny_bind ?_;rw[<- Array.forIn_toList];simp only[MV,Dm];refine wpAny_bind (wpAny_bind (wpAny_holding ?_))
 change wpAny _ _ (Builtin.SmallTypes.nextOf (Value.ref i1) >>= _) _ _ _
 exact wpAny_bind (wpAny_nextOf_list_end hh (j1.extBut sb1.extBut D.i1z) (m1.extBut sb1.extBut D.l1z) eu λg2 e xb he=>hE g2 e (λc o c1 c2 _ q=>xb _ _ c2 (sb1.extBut _ _ c1 q)) he)
theorem J5 {z TI TO T i1 i2 l1 l2:Addr} {k1 k2:Nat} {us ws:Array Value} {u v:Value} {b1:Bool} {o:Obj} {Q:Option Value->Shared->Prop} (D:ZipApart z TI TO i1 i2 l1 l2) (zr:A7 s.heap z TI TO (rawInt T) (.bool b1)) (al:s.heap.get? T=some o)
  (pt:IsPair s.heap TI (.ref i1) (.ref i2)) (j1:s.heap.IsListIter i1 l1 k1) (j2:s.heap.IsListIter i2 l2 k2) (m1:s.heap.IsList l1 us) (m2:s.heap.IsList l2 ws) (eu:us[k1]?=some u) (ev:ws[k2]?=some v)
  (hQ:∀h',A7 h' z TI TO (rawInt T) (.bool true)->h'.IsListIter i1 l1 (k1+1)->h'.IsListIter i2 l2 (k2+1)->IsPair h' s.heap.objs.size u v->(∀c o,c≠z->c≠i1->c≠i2->s.heap.get? c=some o->h'.get? c=some o)->Q (some (.ref s.heap.objs.size)) { s with heap:=h' }) :
  wpAny (model prog w) A (pyNext (.ref z)) Q E s:=by
 have ty:s.TypeIs (.ref z) "zip":=⟨_,zr,rfl⟩;unfold pyNext;refine wpAny_bind (wpAny_attempt (wpAny_callSpecial?_slot (name:=Str.ofString "__next__") ty og (wpAny_call_entry og ty PySem.F.entry_zip_next ?_ (Sx _))));exact J9 D zr al pt j1 j2 m1 m2 eu ev λh' a1 a2 a3 a4 a5=>wpAny_pure (hQ h' a1 a2 a3 a4 a5)
theorem J0 {z TI TO T i1 i2 l1 l2:Addr} {k1:Nat} {us:Array Value} {b1:Bool} {o:Obj} {Q:Option Value->Shared->Prop} (hh:A.handled=none) (D:ZipApart z TI TO i1 i2 l1 l2) (zr:A7 s.heap z TI TO (rawInt T) (.bool b1)) (al:s.heap.get? T=some o)
  (pt:IsPair s.heap TI (.ref i1) (.ref i2)) (j1:s.heap.IsListIter i1 l1 k1) (m1:s.heap.IsList l1 us) (eu:us[k1]?=none)
  (hQ:∀h',(∀c o,c≠z->c≠i1->c≠i2->s.heap.get? c=some o->h'.get? c=some o)->Q none { s with heap:=h' }):wpAny (model prog w) A (pyNext (.ref z)) Q E s:=by
 have ty:s.TypeIs (.ref z) "zip":=⟨_,zr,rfl⟩;unfold pyNext;refine wpAny_bind (wpAny_attempt (wpAny_callSpecial?_slot (name:=Str.ofString "__next__") ty og (wpAny_call_entry og ty PySem.F.entry_zip_next ?_ (Sx _))));refine LN hh D zr al pt j1 m1 eu λh' e kk ⟨oe,he,hc⟩=>?_
 exact wpAny_bind (wpAny_isInstance (T:="StopIteration") (b:=true) ⟨oe,he,hc⟩ isSubtype_stop (wpAny_pure (hQ _ kk)))
end
section
variable {X:Cx} {pins:List (Addr×Obj)} {σ:St} {H:Hp} {s:Shared}
theorem Inv.moved {h':Heap} {ch:List Addr} {g':Array GenState} {d':Drawn} {t':Nat} (I:Inv X pins σ H s) (fx:∀b∈ch,jT X pins H b) (up:∀b o,b∉ch->s.heap.get? b=some o->h'.get? b=some o) (hg:AllBare g') :
  Inv X pins σ H { s with heap:=h',gens:=g',drawn:=d',toks:=t' }:=by
 have nx:∀b o,H b=some o->b∉ch:=λb o e hb=>by have:=(fx b hb).1;rw[this] at e;cases e
 refine I.step (ch:=ch) (λb hb=>?_) (λb o _ _ hb e _=>up b o hb e) (λb o _ _ hb e _=>⟨o.slots,up b o hb e⟩) (λb o hb e n=>n) (λb o hb e=>⟨o,up b o hb e⟩) (λb q e=>e) (λb o q e=>e) (λb q e=>⟨#[],by rw[e];simp⟩) (λm hm=>?_) (λb o e=>?_) hg
 ·obtain ⟨_,f1,_,f3,f4,f5⟩:=fx b hb;exact ⟨f3,f1,f4,f5⟩
 ·obtain ⟨o,es,ep,ho,r⟩:=hm;exact ⟨o,es,ep,up _ o (λz=>(fx _ z).2.1 rfl) ho,r⟩
 ·refine (I.hok b o e).stay (λc v' hc q=>up c v' ?_ q) (λc q=>q) λc xs q=>q
  rcases hc with rfl | hc
  ·exact nx _ _ e
  ·exact nx _ _ hc
theorem Inv.track {p:Addr} {o:HO} (I:Inv X pins σ H s) (fp:jT X pins H p) (new:iQ X.prog X.w (upd H p o) s.heap p o):Inv X pins σ (upd H p o) s:=by
 have nt:∀{b:Addr} {u:HO},H b=some u->b≠p:=λe z=>by rw[z,fp.1] at e;cases e
 refine I.step (h':=s.heap) (g':=s.gens) (d':=s.drawn) (t':=s.toks) (ch:=[p]) (λb hb=>?_) (λb o _ _ _ e _=>e) (λb o _ _ _ e _=>⟨o.slots,e⟩) (λb o hb e n=>?_) (λb o _ e=>⟨o,e⟩) (λb q e=>by rw[bf (nt e)];exact e) (λb o q e=>by rw[bf (nt e)];exact e)
  (λb q e=>⟨#[],by rw[bf (nt e),e];simp⟩) (λm hm=>hm) (λb u e=>?_) I.bare
 ·have e:b=p:=by simpa using hb
  subst e;obtain ⟨_,f1,_,f3,f4,f5⟩:=fp;exact ⟨f3,f1,f4,f5⟩
 ·rw[bf λz=>hb (by simp [z])];exact n
 ·by_cases hb:b=p
  ·subst hb;rw[aE] at e;cases e;exact new
  ·rw[bf hb] at e;exact (I.hok b u e).stay (λc v _ q=>q) (λc q=>by rw[bf (nt q)];exact q) λc xs q=>by rw[bf (nt q)];exact q
end
def O3 (H:Hp) (p:V×V) (x:V):Prop:=∃T,x=.ref T/\H T=some (.tup [p.1,p.2])
theorem O3.same {H H':Hp} {p:V×V} {x:V} (h:O3 H p x) (e:aF H H'):O3 H' p x:=by obtain ⟨T,q,g⟩:=h;exact ⟨T,q,e _ _ g⟩
def Zst (h:Heap) (z TI TO:Addr) (base:Nat):Prop:=(∃a b,IsPair h TO a b)/\(IsZip h z TI TO .none\/∃(T:Addr) (b1:Bool) (o:Obj),A7 h z TI TO (rawInt T) (.bool b1)/\h.get? T=some o/\@LE.le Nat instLENat base T)
theorem Dn {h:Heap} {z TI TO i1 i2 l1 l2:Addr} {f0 f1 a b:Value} {k1 k2:Nat} {xs ys:Array Value} (hz:A7 h z TI TO f0 f1) (hTI:IsPair h TI (.ref i1) (.ref i2)) (hTO:IsPair h TO a b) (h1:h.IsListIter i1 l1 k1) (h2:h.IsListIter i2 l2 k2) (hl1:h.IsList l1 xs) (hl2:h.IsList l2 ys) (hT:TI≠TO) (hi:i1≠i2):ZipApart z TI TO i1 i2 l1 l2:=by
 obtain ⟨o1,g1,c1,_⟩:=h1;obtain ⟨o2,g2,c2,_⟩:=h2;obtain ⟨p1,q1,d1,_⟩:=hl1;obtain ⟨p2,q2,d2,_⟩:=hl2;have zt:Value.type "zip"≠.type "tuple":=kS (by decide);have it:Value.type "list_iterator"≠.type "tuple":=kS (by decide);have iz:Value.type "list_iterator"≠.type "zip":=kS (by decide);have lz:Value.type "list"≠.type "zip":=kS (by decide);have lt:Value.type "list"≠.type "tuple":=kS (by decide);have li:Value.type "list"≠.type "list_iterator":=kS (by decide)
 exact ⟨dc hTI hz zt.symm,dc hTO hz zt.symm,dc g1 hz (by rw[c1];exact iz),dc g2 hz (by rw[c2];exact iz),hT,dc hTI g1 (by rw[c1];exact it.symm),dc hTI g2 (by rw[c2];exact it.symm),dc hTO g1 (by rw[c1];exact it.symm),dc hTO g2 (by rw[c2];exact it.symm),hi,
  dc q1 hz (by rw[d1];exact lz),dc q1 hTO (by rw[d1];exact lt),dc q1 g1 (by rw[d1,c1];exact li),dc q1 g2 (by rw[d1,c2];exact li),dc q2 hz (by rw[d2];exact lz),dc q2 hTO (by rw[d2];exact lt),dc q2 g1 (by rw[d2,c1];exact li),dc q2 g2 (by rw[d2,c2];exact li)⟩
section
variable {X:Cx} {pins:List (Addr×Obj)} {σ:St}
theorem jT.heap {H H':Hp} {b:Addr} (f:jT X pins H b) (e:H' b=none):jT X pins H' b:=⟨e,f.2⟩
structure Eu where
 z:Addr
 TI:Addr
 TO:Addr
 i1:Addr
 i2:Addr
 S:Addr
 base:Nat
def Eu.all (a:Eu):List Addr:=[a.z,a.TI,a.TO,a.i1,a.i2,a.S]
structure Eu.Ok (a:Eu):Prop where
 tt:a.TI≠a.TO
 ii:a.i1≠a.i2
 Sz:a.S≠a.z
 STI:a.S≠a.TI
 STO:a.S≠a.TO
 Si1:a.S≠a.i1
 Si2:a.S≠a.i2
 lt:∀b∈a.all,@LT.lt Nat instLTNat b a.base
structure Oo (X:Cx) (pins:List (Addr×Obj)) (σ:St) (H1:Hp) (a:Eu) (l1 l2:Addr) (i:Nat) (H:Hp) (s:Shared):Prop where
 inv:Inv X pins σ H s
 same:aF H1 H
 fps:∀b∈a.all,jT X pins H b
 sz:a.base<=s.heap.objs.size
 zst:Zst s.heap a.z a.TI a.TO a.base
 pt:IsPair s.heap a.TI (.ref a.i1) (.ref a.i2)
 j1:s.heap.IsListIter a.i1 l1 i
 j2:s.heap.IsListIter a.i2 l2 i
variable {a:Eu} {l1 l2:Addr} {H1 H:Hp} {s:Shared} {i:Nat} {xs ys:List V}
theorem Oo.push {h':Heap} (L:Oo X pins σ H1 a l1 l2 i H s) (O:a.Ok) (k:∀b o,b≠a.S->s.heap.get? b=some o->h'.get? b=some o) (hz:h'.objs.size=s.heap.objs.size):Oo X pins σ H1 a l1 l2 i H { s with heap:=h' }:=by
 refine ⟨L.inv.moved (g':=s.gens) (d':=s.drawn) (t':=s.toks) (ch:=[a.S]) (λb hb=>?_) (λb o hb e=>k b o (λz=>hb (by simp [z])) e) L.inv.bare,L.same,L.fps,by show a.base<=h'.objs.size;rw[hz];exact L.sz,?_,k _ _ O.STI.symm L.pt,L.j1.at λo e=>k _ o O.Si1.symm e,L.j2.at λo e=>k _ o O.Si2.symm e⟩
 ·have e:b=a.S:=by simpa using hb
  rw[e];exact L.fps _ (by simp [Eu.all])
 ·obtain ⟨⟨c,d,z0⟩,z4⟩:=L.zst;refine ⟨⟨c,d,k _ _ O.STO.symm z0⟩,?_⟩;rcases z4 with z1 | ⟨T,b1,o,z1,z2,z3⟩
  ·exact .inl (k _ _ O.Sz.symm z1)
  ·refine .inr ⟨T,b1,o,k _ _ O.Sz.symm z1,k _ _ (λe=>?_) z2,z3⟩;have:=O.lt a.S (by simp [Eu.all]);rw[<- e] at this;exact absurd this (Nat.not_lt.mpr z3)
theorem KJ {A':Around} {E:Value->Shared->Prop} {Q:Option Value->Shared->Prop} (O:a.Ok) (q1:bE X.K H1 l1 xs) (q2:bE X.K H1 l2 ys) {x y:V} (ex:xs[i]?=some x) (ey:ys[i]?=some y) (L:Oo X pins σ H1 a l1 l2 i H s)
  (hQ:∀s',Oo X pins σ H1 a l1 l2 (i+1) (upd H s.heap.objs.size (.tup [x,y])) s'->(∀c o,c∉[a.z,a.TO,a.i1,a.i2]->s.heap.get? c=some o->s'.heap.get? c=some o)->H s.heap.objs.size=none->Q (some (.ref s.heap.objs.size)) s'):wpAny (model X.prog X.w) A' (pyNext (.ref a.z)) Q E s:=by
 obtain ⟨I,sm,fps,sz,zst,pt,j1,j2⟩:=id L;obtain ⟨us,ru,pu,_⟩:=I.list (sm.seq q1);obtain ⟨ws,rw',pw,_⟩:=I.list (sm.seq q2);obtain ⟨u,eu,r1⟩:=ru.get ex;obtain ⟨v,ev,r2⟩:=rw'.get ey;have fx:∀b∈[a.z,a.TO,a.i1,a.i2],jT X pins H b:=λb hb=>fps b (by simp only[Eu.all,aG,br,or_false] at hb ⊢;rcases hb with e | e | e | e <;> simp [e])
 have hT0:H s.heap.objs.size=none:=I.hok.fresh (aw _);have fT:jT X pins H s.heap.objs.size:=I.fpOk (aw _) hT0;have lt:∀b∈a.all,b≠s.heap.objs.size:=λb hb e=>by have:=O.lt b hb;rw[e] at this;exact absurd this (Nat.not_lt.mpr sz)
 have fin:∀h',(∀c o,c∉[a.z,a.TO,a.i1,a.i2]->s.heap.get? c=some o->h'.get? c=some o)->IsPair h' s.heap.objs.size u v->IsPair h' a.TI (.ref a.i1) (.ref a.i2)->h'.IsListIter a.i1 l1 (i+1)->h'.IsListIter a.i2 l2 (i+1)->Zst h' a.z a.TI a.TO a.base →
   Q (some (.ref s.heap.objs.size)) { s with heap:=h' }:=λh' up pr pt' j1' j2' zst'=>by
  have I2:Inv X pins σ H { s with heap:=h' }:=I.moved (g':=s.gens) (d':=s.drawn) (t':=s.toks) fx up I.bare;have I3:Inv X pins σ (upd H s.heap.objs.size (.tup [x,y])) { s with heap:=h' }:=I2.track fT ⟨iU rfl,[u,v],.cons r1 (.cons r2 .nil),⟨_,pr,rfl,_,rfl⟩⟩;refine hQ _ ⟨I3,sm.trans (aF.new hT0),λb hb=>(fps b hb).heap (by rw[bf (lt b hb)];exact (fps b hb).1),?_,zst',pt',j1',j2'⟩ up hT0;exact ai sz (bc (Heap.lt_size pr))
 obtain ⟨⟨c,d,z0⟩,z4⟩:=zst;rcases z4 with z1 | ⟨T,b1,o,z1,z2,z3⟩
 ·have D:=Dn z1 pt z0 j1 j2 pu.isList pw.isList O.tt O.ii;refine wpAny_pyNext_zip_item D z1 pt z0 j1 j2 pu.isList pw.isList (x:=u) (y:=v) (by simpa using eu) (by simpa using ev) λh' a1 a2 a3 a4 a5 a6 hk=>?_
  have up:∀c o,c∉[a.z,a.TO,a.i1,a.i2]->s.heap.get? c=some o->h'.get? c=some o:=λc o hc e=>by
   simp only[aG,br,or_false,not_or] at hc;exact hk c o hc.1 hc.2.1 hc.2.2.1 hc.2.2.2 e
  exact fin h' up a5 (hk _ _ D.TIz D.TITO D.TIi1 D.TIi2 pt) a3 a4 ⟨⟨_,_,a2⟩,.inr ⟨s.heap.objs.size,false,_,a1,a5,sz⟩⟩
 ·have D:=Dn z1 pt z0 j1 j2 pu.isList pw.isList O.tt O.ii;refine J5 D z1 z2 pt j1 j2 pu.isList pw.isList (u:=u) (v:=v) (by simpa using eu) (by simpa using ev) λh' a1 a3 a4 a5 hk=>?_
  have up:∀c o,c∉[a.z,a.TO,a.i1,a.i2]->s.heap.get? c=some o->h'.get? c=some o:=λc o hc e=>by
   simp only[aG,br,or_false,not_or] at hc;exact hk c o hc.1 hc.2.2.1 hc.2.2.2 e
  have Tn:∀b∈a.all,T≠b:=λb hb e=>by have:=O.lt b hb;rw[<- e] at this;exact absurd this (Nat.not_lt.mpr z3)
  exact fin h' up a5 (hk _ _ D.TIz D.TIi1 D.TIi2 pt) a3 a4 ⟨⟨_,_,hk _ _ D.TOz D.TOi1 D.TOi2 z0⟩,.inr ⟨T,true,o,a1,hk _ _ (Tn _ (by simp [Eu.all])) (Tn _ (by simp [Eu.all])) (Tn _ (by simp [Eu.all])) z2,z3⟩⟩
theorem KI {A':Around} {E:Value->Shared->Prop} {Q:Option Value->Shared->Prop} (hh:A'.handled=none) (O:a.Ok) (q1:bE X.K H1 l1 xs) (q2:bE X.K H1 l2 ys) (hi:xs.length<=i) (L:Oo X pins σ H1 a l1 l2 i H s)
  (hQ:∀s',Inv X pins σ H s'->(∀c o,c∉[a.z,a.TO,a.i1,a.i2]->s.heap.get? c=some o->s'.heap.get? c=some o)->Q none s'):wpAny (model X.prog X.w) A' (pyNext (.ref a.z)) Q E s:=by
 obtain ⟨I,sm,fps,sz,zst,pt,j1,j2⟩:=id L;obtain ⟨us,ru,pu,_⟩:=I.list (sm.seq q1);obtain ⟨ws,rw',pw,_⟩:=I.list (sm.seq q2);have lx:=ru.length;have none1:us.toArray[i]?=none:=by simp;lia
 have fx:∀b∈[a.z,a.TO,a.i1,a.i2],jT X pins H b:=λb hb=>fps b (by simp only[Eu.all,aG,br,or_false] at hb ⊢;rcases hb with e | e | e | e <;> simp [e])
 have fin:∀h',(∀c o,c∉[a.z,a.TO,a.i1,a.i2]->s.heap.get? c=some o->h'.get? c=some o)->Q none { s with heap:=h' }:=λh' up=>hQ _ (I.moved (g':=s.gens) (d':=s.drawn) (t':=s.toks) fx up I.bare) up
 obtain ⟨⟨c,d,z0⟩,z4⟩:=zst;rcases z4 with z1 | ⟨T,b1,o,z1,z2,z3⟩
 ·have D:=Dn z1 pt z0 j1 j2 pu.isList pw.isList O.tt O.ii;refine wpAny_pyNext_zip_end hh D z1 pt z0 j1 j2 pu.isList pw.isList (.inl none1) λh' hk=>fin h' λc o hc e=>?_
  simp only[aG,br,or_false,not_or] at hc;exact hk c o hc.1 hc.2.1 hc.2.2.1 hc.2.2.2 e
 ·have D:=Dn z1 pt z0 j1 j2 pu.isList pw.isList O.tt O.ii;refine J0 hh D z1 z2 pt j1 pu.isList none1 λh' hk=>fin h' λc o hc e=>?_
  simp only[aG,br,or_false,not_or] at hc;exact hk c o hc.1 hc.2.2.1 hc.2.2.2 e
theorem KN {A':Around} {R:Result->Shared->Prop} (hh:A'.handled=none) (O:a.Ok) (hz:xs.length<=sizeLine) (hl:ys.length=xs.length) (q1:bE X.K H1 l1 xs) (q2:bE X.K H1 l2 ys)
  (fin:∀s' H' ts acc c,Inv X pins σ H' s'->aF H1 H'->jT X pins H' a.S->s'.heap.get? a.S=some (lobj acc c)->cZ ts acc->Paired (O3 H') (xs.zip ys) ts->R (.ok (.ret .none)) s') :
  ∀(k i:Nat) (s:Shared) (H:Hp) (ts:List V) (acc:List Value) (c:Nat),xs.length - i=k->i<=xs.length->Oo X pins σ H1 a l1 l2 i H s->s.heap.get? a.S=some (lobj acc c)->cZ ts acc->Paired (O3 H) ((xs.zip ys).take i) ts →
   codeAny (model X.prog X.w) A' (.builtin "list.extend.loop" ⟨[.ref a.S,.ref a.z,.none],[]⟩) R s:=by
 have Sn:a.S∉[a.z,a.TO,a.i1,a.i2]:=λh=>by
  simp only[aG,br,or_false] at h;rcases h with e | e | e | e
  ·exact O.Sz e
  ·exact O.STO e
  ·exact O.Si1 e
  ·exact O.Si2 e
 intro k
 induction k with
 | zero =>
  intro i s H ts acc c hk hi L gS rv prs;have e:i=xs.length:=by lia
  refine codeAny_builtin QL ?_;rw[Around.under_plainId ke _]
  change wpAny _ A'.in1 (pyNext (Value.ref a.z) >>= _) _ _ s
  refine wpAny_bind (KI hh O q1 q2 (by lia) L λs' I' up=>wpAny_pure (fin s' H ts acc c I' L.same (L.fps _ (by simp [Eu.all])) (up _ _ Sn gS) rv ?_));rwa [aI (by rw[Bh];lia)] at prs
 | succ k ih =>
  intro i s H ts acc c hk hi L gS rv prs;have hlt:i < xs.length:=by lia
  have lt:=prs.length;have la:=rv.length;refine codeAny_builtin QL ?_;rw[Around.under_plainId ke _]
  change wpAny _ A'.in1 (pyNext (Value.ref a.z) >>= _) _ _ s
  refine wpAny_bind (KJ O q1 q2 (x:=xs[i]) (y:=ys[i]'(by lia)) (by simp [hlt]) (by simp) L λs' L' up hT=>?_);have gS':=up _ _ Sn gS
  change wpAny _ A'.in1 (updateSeq a.S (·.push (Value.ref s.heap.objs.size)) >>= _) _ _ s'
  have small:acc.length<=sizeLine:=by
   rw[bR,Bh] at lt
   lia
  refine wpAny_bind (wpAny_updateSeq gS' rfl (wpAny_pure ⟨plainId_quiet ke _,?_⟩) (by rw[aQ];exact small) (by
   show (acc.toArray.push (Value.ref s.heap.objs.size)).size<=sizeLine+1
   rw[Array.size_push,aQ]
   lia))
  have gS2:=j6 gS' (λb=>b.push (Value.ref s.heap.objs.size));have e2:(acc.toArray.push (Value.ref s.heap.objs.size))=(acc++[Value.ref s.heap.objs.size]).toArray:=by simp
  rw[e2] at gS2;refine ih (i+1) _ (upd H s.heap.objs.size (.tup [xs[i],ys[i]'(by lia)])) (ts++[.ref s.heap.objs.size]) (acc++[.ref s.heap.objs.size]) _ (by lia) hlt (L'.push O (λb o hb e=>(Heap.get?_update_other _ _ (Ne.symm hb)).trans e) (Heap.size_update ..)) gS2 (rv.append (show cZ [V.ref s.heap.objs.size] [Value.ref s.heap.objs.size] from .cons rfl .nil)) ?_;have zp:(xs.zip ys)[i]?=some (xs[i],ys[i]'(by lia)):=by simp [QM,hlt]
  rw[take_snoc zp];exact (Paired.imp' (λ_ _ z=>z.same (aF.new hT)) prs).snoc ⟨_,rfl,aE⟩
theorem Gz:typeLookup (.type "zip") "__len__"=pure Option.none:=by rw[typeLookup_type,builtinLookup_eq_fast];kernel_rfl
theorem EO:typeLookup (.type "zip") "__length_hint__"=pure Option.none:=by rw[typeLookup_type,builtinLookup_eq_fast];kernel_rfl
theorem KL {A':Around} {R:Result->Shared->Prop} (hh:A'.handled=none) (O:a.Ok) (hz:xs.length<=sizeLine) (hl:ys.length=xs.length) (q1:bE X.K H1 l1 xs) (q2:bE X.K H1 l2 ys) (L:Oo X pins σ H1 a l1 l2 0 H s) (gS:s.heap.get? a.S=some (lobj [] 0)) (z0:IsZip s.heap a.z a.TI a.TO .none)
  (fin:∀s' H' ts acc c,Inv X pins σ H' s'->aF H1 H'->jT X pins H' a.S->s'.heap.get? a.S=some (lobj acc c)->cZ ts acc->Paired (O3 H') (xs.zip ys) ts->R (.ok (.ret .none)) s') :
  wpAny (model X.prog X.w) A'.in1 (Builtin.«list.__init__» ⟨[.ref a.S,.ref a.z],[]⟩) (λfl s'=>match fl with | .done f=>R (.ok f) s' | .again c'=>c'.quiet=true/\codeAny (model X.prog X.w) A' c' R s') (λe s'=>R (.error e) s') s:=by
 change wpAny _ A'.in1 (do let old <- Builtin.List.listItems (Value.ref a.S);Builtin.List.listUpdate (Value.ref a.S) (λ_=>#[]);letGo old.toList.reverse;Builtin.List.listExtendWith (Value.ref a.S) (Value.ref a.z) Value.none) _ _ s
 refine wpAny_bind ?_;unfold Builtin.List.listItems;refine wpAny_bind (wpAny_seqItems gS rfl (wpAny_pure ?_))
 change wpAny _ A'.in1 (updateSeq a.S (λ_=>#[]) >>= λ_=>letGo (#[]:Array Value).toList.reverse >>= λ_=>Builtin.List.listExtendWith (Value.ref a.S) (Value.ref a.z) Value.none) _ _ s
 refine wpAny_bind (wpAny_updateSeq gS rfl ?_);have g1:=j6 gS (λ_=>(#[]:Array Value));obtain ⟨n1,g1⟩:∃n1,(s.heap.update a.S (Obj.mapSeq λ_=>(#[]:Array Value))).get? a.S=some (lobj [] n1):=⟨_,g1⟩;have L1:=L.push (h':=s.heap.update a.S (Obj.mapSeq λ_=>(#[]:Array Value))) O (λb o hb e=>(Heap.get?_update_other _ _ (Ne.symm hb)).trans e) (Heap.size_update ..);have z1:IsZip (s.heap.update a.S (Obj.mapSeq λ_=>(#[]:Array Value))) a.z a.TI a.TO .none:=(Heap.get?_update_other _ _ O.Sz).trans z0;refine wpAny_bind (wpAny_letGo ?_);unfold Builtin.List.listExtendWith;have ty:Shared.TypeIs { s with heap:=s.heap.update a.S (Obj.mapSeq λ_=>(#[]:Array Value)) } (.ref a.z) "zip":=⟨_,z1,rfl⟩;refine wpAny_bind (wpAny_typeOf ty ?_);have h1:Builtin.List.listSameRef (.ref a.S) (.ref a.z)=false:=by simp [Builtin.List.listSameRef,O.Sz]
 have h2:(Value.type "zip" == Value.type "list")=false:=by decide
 have h3:(Value.type "zip" == Value.type "tuple")=false:=by decide
 simp only[h1,h2,h3,Bool.or_false,iD,if_false];refine wpAny_bind (wpAny_pyIter_zip z1 (wpAny_bind (wpAny_holding ?_)));unfold Builtin.List.listLengthHint;refine wpAny_bind (wpAny_specialOf ty Gz ?_)
 change wpAny _ A'.in1 (specialOf (Value.ref a.z) (Str.ofString "__length_hint__") >>= _) _ _ _
 refine wpAny_bind (wpAny_specialOf ty EO (wpAny_pure ?_))
 change wpAny _ A'.in1 (rule "list.extend.makes-room" >>= λ_=>Builtin.List.listTouch (Value.ref a.S) >>= λ_=>again (.builtin "list.extend.loop" ⟨[Value.ref a.S,Value.ref a.z,Value.none],[]⟩)) _ _ _
 refine wpAny_bind (wpAny_rule (wpAny_bind ?_))
 change wpAny _ A'.in1 (updateSeq a.S (·.push Value.none) >>= λ_=>updateSeq a.S (·.pop)) _ _ _
 refine wpAny_bind (wpAny_updateSeq g1 rfl ?_);have g2:=j6 g1 (λb=>b.push Value.none);obtain ⟨n2,g2⟩:∃n2,((s.heap.update a.S (Obj.mapSeq λ_=>(#[]:Array Value))).update a.S (Obj.mapSeq λb=>b.push Value.none)).get? a.S=some (lobj [Value.none] n2):=⟨_,g2⟩;have L2:=L1.push (h':=(s.heap.update a.S (Obj.mapSeq λ_=>(#[]:Array Value))).update a.S (Obj.mapSeq λb=>b.push Value.none)) O (λb o hb e=>(Heap.get?_update_other _ _ (Ne.symm hb)).trans e) (Heap.size_update ..);refine wpAny_updateSeq g2 rfl ?_ (iU rfl);have g3:=j6 g2 (λb=>b.pop);have L3:=L2.push (h':=((s.heap.update a.S (Obj.mapSeq λ_=>(#[]:Array Value))).update a.S (Obj.mapSeq λb=>b.push Value.none)).update a.S (Obj.mapSeq λb=>b.pop)) O (λb o hb e=>(Heap.get?_update_other _ _ (Ne.symm hb)).trans e) (Heap.size_update ..);exact wpAny_pure ⟨plainId_quiet ke _,KN hh O hz hl q1 q2 fin _ 0 _ H [] [] _ rfl (aZ _) L3 g3 .nil .nil⟩
end
section
variable {X:Cx}
theorem Pa (n:Nat):Eu.Ok ⟨n+4,n+2,n+3,n,n+1,n+5,n+5+1⟩:=by
 have ne:∀p q:Nat,p≠q->@Ne Addr p q:=λ_ _ h=>h
 refine ⟨ne (n+2) (n+3) (by lia),ne n (n+1) (by lia),ne (n+5) (n+4) (by lia),ne (n+5) (n+2) (by lia),ne (n+5) (n+3) (by lia),ne (n+5) n (by lia),ne (n+5) (n+1) (by lia),λb hb=>?_⟩;have hb':b∈[n+4,n+2,n+3,n,n+1,n+5]:=hb;show @LT.lt Nat instLTNat b (n+5+1)
 simp only[aG,br,or_false] at hb';rcases hb' with e | e | e | e | e | e <;> (rw[e];exact bD (gZ _) (by lia))
def ET (K:FG9) (ta:TA):TE:=λσ H Q=>ta σ H λvs H1=>∃(l1 l2:Addr) (xs ys:List V),vs=[.ref l1,.ref l2]/\bE K H1 l1 xs/\bE K H1 l2 ys/\ys.length=xs.length /\
 ∀L ts H',aF H1 H'->H1 L=none->H' L=some (.lst ts)->Paired (O3 H') (xs.zip ys) ts->Q (.ref L) H'
theorem Ht {e1 e2:Expr} {ta:TA} {p p2 pos pos2:Pos} (hg:Gl X "list") (hm:X.mg "list"=none) (hg2:Gl X "zip") (hm2:X.mg "zip"=none) (ha:PA X [e1,e2] ta) (hc:X.calm=true:=by rfl)
  (hs:starEach [e1,e2] X.env=[(false,eval e1 X.env),(false,eval e2 X.env)]:=by rfl) (hs2:starEach [e2] X.env=[(false,eval e2 X.env)]:=by rfl)
  (hs3:starEach [Expr.Call (.Name "zip" p2) [e1,e2] [] pos2] X.env=[(false,eval (.Call (.Name "zip" p2) [e1,e2] [] pos2) X.env)]:=by rfl) :
  PE X (.Call (.Name "list" p) [.Call (.Name "zip" p2) [e1,e2] [] pos2] [] pos) (ET X.K ta):=by
 intro pins s σ H Q I h;refine wpAny_Call_Name_kw (lQ I hg hm boot_list ?_);refine PyProof.Rows.callWith_type1 ?_ (by rw[hs3];rfl) rfl;rw[hs3];show wpAny _ _ (spliced ((false,eval (.Call (.Name "zip" p2) [e1,e2] [] pos2) X.env) :: [])) _ _ s
 refine Calls.spliced_cons ?_;refine Call_ (lQ I hg2 hm2 boot_zip (PyProof.Rows.callWith_type1 (fO (ha pos2 pins s σ H _ I h) λus s1 ⟨vs,H1,I1,r1,q1⟩=>?_) (by rw[hs,hs2]) (by rw[hs2];rfl)));obtain ⟨l1,l2,xs,ys,e,qx,qy,hl,q⟩:=q1;subst e;obtain ⟨u,v,rfl,ru,rv⟩:=vals2 r1;cases ru;cases rv;obtain ⟨us,rx,px,hz⟩:=I1.list qx;obtain ⟨ws,ry,py,_⟩:=I1.list qy;refine call_zip_2 px.isList py.isList λh' a1 a2 a3 a4 a5 a6 hk=>?_
 refine Calls.spliced_nil ?_;have I2:Inv X pins σ H1 { s1 with heap:=h' }:=I1.kept (t':=s1.toks) hk;have up:∀b o,h'.get? b=some o->(h'.push { cls:=.type "list",data:=.seq #[] }).get? b=some o:=λb o e=>Heap.get?_push_of_some _ e
 have O:Eu.Ok ⟨s1.heap.objs.size+4,s1.heap.objs.size+2,s1.heap.objs.size+3,s1.heap.objs.size,s1.heap.objs.size+1,h'.objs.size,h'.objs.size+1⟩:=by
  rw[a6];exact Pa s1.heap.objs.size
 have old:∀b∈(Eu.mk (s1.heap.objs.size+4) (s1.heap.objs.size+2) (s1.heap.objs.size+3) s1.heap.objs.size (s1.heap.objs.size+1) h'.objs.size (h'.objs.size+1)).all,s1.heap.objs.size<=b:=λb hb=>by
  rw[a6] at hb;simp only[Eu.all,aG,br,or_false] at hb;rcases hb with rfl | rfl | rfl | rfl | rfl | rfl <;> first | exact Nat.le_add_right _ _ | exact aw _
 have gS:(h'.push { cls:=.type "list",data:=.seq #[] }).get? h'.objs.size=some (lobj [] 0):=Heap.get?_push_size _ rfl;refine callType_codes (Q₁:=λob t=>ob=.ref h'.objs.size/\t={ s1 with heap:=h'.push { cls:=.type "list",data:=.seq #[] } }) PySem.F.called_list (PySem.F.typeCall_list_1 _) PySem.F.entry_list_init (code_list_new _ ⟨rfl,rfl⟩) λob t ht=>?_
 obtain ⟨rfl,rfl⟩:=ht;refine ⟨⟨_,gS,rfl⟩,PySem.F.args_list_init_2 _ _,?_⟩
 have L:Oo X pins σ H1 ⟨s1.heap.objs.size+4,s1.heap.objs.size+2,s1.heap.objs.size+3,s1.heap.objs.size,s1.heap.objs.size+1,h'.objs.size,h'.objs.size+1⟩ l1 l2 0 H1 { s1 with heap:=h'.push { cls:=.type "list",data:=.seq #[] } } :=
  ⟨I2.kept (t':=s1.toks) up,aF.refl _,λb hb=>I1.fpOk (old b hb) (I1.hok.fresh (old b hb)),by rw[Heap.size_push];exact aw _,⟨⟨_,_,up _ _ a3⟩,.inl (up _ _ a1)⟩,up _ _ a2,a4.at λo e=>up _ o e,a5.at λo e=>up _ o e⟩
 refine KL (A':=X.A.in1) (I.ok.hd hc) O hz hl qx qy L gS (up _ _ a1) λs' H' ts acc c I' sm fS gS' vs' prs=>⟨rfl,?_⟩
 have nS:H1 h'.objs.size=none:=I1.hok.fresh (old _ (by simp [Eu.all]));have lt:=prs.length;rw[Bh] at lt;exact ⟨.ref h'.objs.size,_,I'.track (o:=.lst ts) fS ⟨by lia,acc,c,vs',gS'⟩,rfl,q _ ts _ (sm.trans (aF.new fS.1)) nS aE (Paired.imp' (λ_ _ z=>z.same (aF.new fS.1)) prs)⟩
end
end L2
namespace Nm
def xp:List Int->Int->Int
 | [],m=>m
 | b :: r,m=>xp r (m*(b / g m b))
theorem ve {m b:Int} (hm:0 < m) (hb:0 < b):0 < m*(b / g m b):=gD hm (Ei (t:=m) hb)
theorem Ef {m b:Int}:b∣m*(b / g m b):=by
 have h1:=Aw m b;refine ⟨lo m b,?_⟩;have h2:b / g m b*g m b=b:=xv m b
 calc m*(b / g m b)=lo m b*g m b*(b / g m b):=by rw[h1]
  _=lo m b*(b / g m b*g m b):=by rw[dt,fu (g m b)]
  _=b*lo m b:=by rw[h2,fu]
theorem Ay:∀{bs:List Int} {m:Int},0 < m->(∀b∈bs,0 < b)->0 < xp bs m
 | [],_,hm,_=>hm
 | b :: r,m,hm,h=>Ay (bs:=r) (ve hm (h b de)) λc hc=>h c (bZ _ hc)
theorem FD:∀{bs:List Int} {m:Int},m∣xp bs m
 | [],_=>JB _
 | b :: r,m=>Int.dvd_trans (Int.dvd_mul_right m _) (FD (bs:=r))
theorem FC:∀{bs:List Int} {m b:Int},b∈bs->b∣xp bs m
 | c :: r,m,b,h=>by
  rcases aG.mp h with rfl | h
  ·exact Int.dvd_trans Ef (FD (bs:=r))
  ·exact FC (bs:=r) h
end Nm
namespace L2
open PySem PySem.Spec PyProof.Rows Nm
def Ex (K:FG9) (H:Hp) (p:Addr) (ns:List (Int×Int)):Prop:=∃xs,H p=some (.lst xs)/\Paired (λn x=>F3 K H x n) ns xs
theorem Ex.same {K:FG9} {H H':Hp} {p:Addr} {ns:List (Int×Int)} (h:Ex K H p ns) (e:aF H H'):Ex K H' p ns:=by obtain ⟨xs,g,q⟩:=h;exact ⟨xs,e _ _ g,Paired.imp' (λ_ _ z=>e.num z) q⟩
def Fo (K:FG9) (T:String):V->Hp->VK->Prop:=λx H Q=>Hq K T x H Q\/∃a xs b,x=.ref a/\nY K H a xs/\PySem.W.kitOne K (.type "tuple") (.type T)=some b/\Q (.bl b) H
theorem Cy:∀{bs:List Int} {m b:Int},xp (bs++[b]) m=xp bs m*(b / g (xp bs m) b)
 | [],_,_=>rfl
 | c :: r,m,b=>Cy (bs:=r)
def fg (ns:List (Int×Int)) (B:Int):List Int:=ns.map λn=>n.1*(B / n.2)
def gG (ns:List (Int×Int)):Int:=xp (ns.map (·.2)) 1
def Ms (ns ms:List (Int×Int)):Int:=(List.zipWith (λx y=>x*y) (fg ns (gG ns)) (fg ms (gG ms))).sum
theorem nP {ns:List (Int×Int)} {n:Int×Int} (h:n∈ns):n.2∣gG ns:=FC (az.mpr ⟨n,h,rfl⟩)
theorem Ho {σ:St} {H:Hp} {Q:VK} {K:FG9} {ta:TA} (h:ta σ H λvs H1=>∃(l1 l2:Addr) (xs ys:List V),vs=[.ref l1,.ref l2]/\bE K H1 l1 xs/\bE K H1 l2 ys/\ys.length=xs.length /\
 ∀L ts H',aF H1 H'->H1 L=none->H' L=some (.lst ts)->Paired (O3 H') (xs.zip ys) ts->Q (.ref L) H'):ET K ta σ H Q:=h
theorem S9 {m b:Int} (hb:0 < b) {k:Nat} (h:Sz k b):Sz k (g m b):=h.le (by
 have h1:(g m b).natAbs=Int.gcd m b:=by unfold g;simp
 rw[h1];exact gI (by lia) (by have:=eZ (a:=m) (b:=b);exact d5.mpr this |> λz=>by simpa using z))
theorem MX {ts us:List Int} {i:Nat} {pq:V×V} (h:((ts.map V.int).zip (us.map V.int))[i]?=some pq):∃t u,ts[i]?=some t/\us[i]?=some u/\pq=(.int t,.int u):=by
 rw[QM,aD,aD] at h;obtain ⟨h1,h2⟩:=h;cases e1:ts[i]? with
 | none=>rw[e1] at h1;cases h1
 | some t =>
  cases e2:us[i]? with
  | none=>rw[e2] at h2;cases h2
  | some u =>
   rw[e1] at h1;rw[e2] at h2;refine ⟨t,u,rfl,rfl,?_⟩;cases pq;simp at h1 h2;rw[h1,h2]
def JK (K:FG9):Sp:=λvs H Q _=>∃x n,vs=[x]/\F3 K H x n/\yB n/\∀H',aF H H'->Q (.bl true) H'
inductive wI (K:FG9) (vs:List V) (H:Hp) (Q:VK) (E9:XK):Prop
 | mk (p:Addr) (ns:List (Int×Int)):vs=[.ref p,.int ns.length]->Ex K H p ns->ns.length<=1000->(∀n∈ns,yB n)->(∀H',aF H H'->Q (.bl true) H')->wI K vs H Q E9
theorem yU {X:Cx} {a:Expr} {ta:TE} {pos:Pos} {c:Str} {T:String} {p p2:Pos} (hg:Gl X "isinstance") (hm:X.mg "isinstance"=none) (hb:bootBuiltins c=some (.type T)) (hmc:X.mg c=none) (ha:PE X a ta) (hgc:Gl X c:=by rfl) (hn:c≠"__name__":=by decide)
  (hd:(c == ("__debug__":Str))=false:=by decide) (he:starEach [a,.Name c p2] X.env=[(false,eval a X.env),(false,eval (.Name c p2) X.env)]:=by rfl)
  (hpl:(backTo pos (starEach [.Name c p2] X.env)).any (·.1)=false:=by rfl) (he2:starEach [.Name c p2] X.env=[(false,eval (.Name c p2) X.env)]:=by rfl):PE X (.Call (.Name "isinstance" p) [a,.Name c p2] [] pos) (SG (Fo X.K T) ta):=by
 intro pins s σ H Q I h;refine wpAny_Call_Name_kw (lQ I hg hm PyProof.Rows.boot_isinstance ?_);have hA:PA X [a,.Name c p2] (qi ta (qi (tC (.ty T)) GK)):=ae ha (ae (IJ hgc hmc hb rfl hn hd) aj he2) (by rw[he,he2])
 have hq:qi ta (qi (tC (.ty T)) GK) σ H (λvs H1=>∃x,vs=[x,.ty T]/\Fo X.K T x H1 Q):=by
  show ta σ H λx H1=>∃x',[x,V.ty T]=[x',V.ty T]/\Fo X.K T x' H1 Q
  have e:(λx H1=>∃x',[x,V.ty T]=[x',V.ty T]/\Fo X.K T x' H1 Q)=λx H1=>Fo X.K T x H1 Q:=by
   funext x H1;apply propext;constructor
   ·rintro ⟨x',e,q⟩;cases e;exact q
   ·intro q;exact ⟨x,rfl,q⟩
  rw[e];exact h
 refine PyProof.Rows.callWith_builtin1 (fO (hA pos pins s σ H _ I hq) λus s1 ⟨vs,H1,I1,r1,x,e,q1⟩=>?_) (by rw[he,he2]) hpl;subst e;obtain ⟨u,w',rfl,ru,rt⟩:=vals2 r1;cases rt;rcases q1 with ⟨t,bb,ty,ek,q⟩ | ⟨ad,xs,bb,rfl,hs,ek,q⟩
 ·exact CB I1 ru ty ek λtk=>⟨.bl bb,H1,I1.tok tk,rfl,q⟩
 ·cases ru;obtain ⟨its,_,⟨o,g1,g2,_⟩,_⟩:=I1.tuple hs;exact dj PySem.W.kitx_tuple I1.kIn ⟨o,g1,g2⟩ ek (λz=>nomatch z) λtk=>⟨.bl bb,H1,I1.tok tk,rfl,q⟩
theorem QC {xs:List V} {k:Nat} (h:k<=xs.length):sI xs none (some (k:Int))=xs.take k:=by
 unfold sI;rw[HT.zW,HT.ID,MQ h];simp
theorem fo {n a:Nat} (h:a < n):Kz n (a:Int)=some a:=by
 unfold Kz;rw[if_pos (by lia),if_pos (by lia),Int.toNat_natCast]
theorem Mw {xs:List V} {k:Nat}:sI xs none (some (k:Int))=xs.take k:=by
 by_cases h:k<=xs.length
 ·exact QC h
 ·unfold sI;rw[HT.zW,HT.ID,Nat.min_eq_right (by lia),aI (by simp),aI (by lia)];rfl
theorem qW {α β:Type} {F:α->β->Prop}:∀{l1:List α} {l2:List β} (_:Paired F l1 l2) (k:Nat),Paired F (l1.take k) (l2.take k)
 | _,_,.nil,k=>by simp;exact .nil
 | _,_,.cons h r,0=>.nil
 | _,_,.cons h r,k+1=>.cons h (qW r k)
def NP (K:FG9):List V->Hp->VK->Prop:=λxs H Q=>∃p ys,xs=[.ref p]/\(bE K H p ys\/nY K H p ys)/\∀l,H l=none->Q (.ref l) (upd H l (.lst ys))
theorem ij {X:Cx} (K:FG9) (hK:X.K=K):pV X (.type "list") (NP K):=by subst hK;exact pB
theorem aF.none {H H':Hp} {l:Addr} (s:aF H H') (h:H' l=Option.none):H l=Option.none:=by
 cases e:H l with
 | none=>rfl
 | some o=>have:=s _ _ e;rw[h] at this;cases this
def O7 (K:FG9) (H:Hp) (p:Addr) (rows:List (List (Int×Int))):Prop:=∃xs,H p=some (.lst xs)/\Paired (λns x=>∃q,x=V.ref q/\Ex K H q ns) rows xs
theorem K3 {b:Int} (h:b.natAbs<=1000000):Sz 20 b:=bo h (by decide)
theorem c6.none {H H':Hp} {b l:Addr} (u:c6 b H H') (B:ib H' b) (h:H' l=Option.none):H l=Option.none:=by
 cases e:H l with
 | none=>rfl
 | some o =>
  by_cases z:l=b
  ·obtain ⟨_,_,_,_,_,e2,_⟩:=B;rw[<- z,h] at e2;cases e2
  ·have:=u.1 l o e z;rw[h] at this;cases this
inductive zH (K:FG9) (vs:List V) (H:Hp) (Q:VK) (E9:XK):Prop
 | mk (p:Addr) (rows:List (List (Int×Int))) (m:Nat):vs=[.ref p,.int rows.length,.int m]->O7 K H p rows->rows.length<=1000->m<=1000->((∀ns∈rows,ns.length=m/\∀n∈ns,yB n))->(∀H',aF H H'->Q (.bl true) H')->zH K vs H Q E9
end L2
namespace Nm
def nm (q:Rat):Int×Int:=(q.num,(q.den:Int))
theorem gM (q:Rat):0 < (nm q).2:=by have:=q.den_pos;show 0 < (q.den:Int);lia
theorem Ec (q:Rat):Int.gcd (nm q).1 (nm q).2=1:=q.reduced
theorem Qh {p q:Rat} (h:nm p=nm q):p=q:=by
 have h1:p.num=q.num:=congrArg Prod.fst h;have h2:(p.den:Int)=q.den:=congrArg Prod.snd h;exact Rat.ext h1 (by lia)
theorem kG (q:Rat):(q.num:Rat)=q*(q.den:Rat):=by
 have h:=Rat.num_divInt_den q;rw[Rat.divInt_eq_div] at h
 have hd:((q.den:Int):Rat)≠0:=by
  intro z;have z:=yE.mp z;have:=q.den_pos
  lia
 have e:((q.den:Int):Rat)=(q.den:Rat):=bh _
 calc (q.num:Rat)=(q.num:Rat) / ((q.den:Int):Rat)*((q.den:Int):Rat):=(Rat.div_mul_cancel hd).symm
  _=q*(q.den:Rat):=by rw[h,e]
theorem RW {a b:Int} {q:Rat} (hb:0 < b) (hg:Int.gcd a b=1) (e:q*(b:Rat)=(a:Rat)):(a,b)=nm q:=by
 have h1:a*(q.den:Int)=q.num*b:=by
  apply di.mp;rw[aS,aS,<- e,kG,bh];grind
 obtain ⟨e1,e2⟩:=uniq hb (gM q) hg (Ec q) h1;exact Prod.ext e1 e2
theorem kJ {t b:Int} {q:Rat} (hb:0 < b) (e:q*(b:Rat)=(t:Rat)):(lo t b,hi t b)=nm q:=by
 refine RW (Ei hb) (Au (by lia)) ?_;have h:=Av t b;have hb':(b:Rat)≠0:=λz=>by have:=yE.mp z;lia
 have h2:((lo t b:Int):Rat)*(b:Rat)=(t:Rat)*((hi t b:Int):Rat):=by rw[<- aS,h,aS]
 rw[<- e] at h2;have h3:(q*((hi t b:Int):Rat) - ((lo t b:Int):Rat))*(b:Rat)=0:=by grind
 rcases MP.mp h3 with h4 | h4
 ·grind
 ·exact absurd h4 hb'
def Fr (M V:Nat) (q:Rat):Prop:=∃z:Int,q*(M:Rat)=(z:Rat)/\z.natAbs<=V*M
theorem Fr.mono {M V V':Nat} {q:Rat} (h:Fr M V q) (l:V<=V'):Fr M V' q:=by obtain ⟨z,e,b⟩:=h;exact ⟨z,e,ai b (aA _ l)⟩
theorem Fr.scale {M V:Nat} {q:Rat} (h:Fr M V q) (k:Nat):Fr (M*k) V q:=by
 obtain ⟨z,e,b⟩:=h;refine ⟨z*k,?_,?_⟩
 ·rw[p9,aS,<- e,bh,Rat.mul_assoc]
 ·rw[dO,cT,<- cK];exact aA _ b
theorem Fr.scaleL {M V:Nat} {q:Rat} (h:Fr M V q) (k:Nat):Fr (k*M) V q:=by rw[cH];exact h.scale k
theorem Fr.dvd {M N V:Nat} {q:Rat} (h:Fr M V q) (d:M∣N):Fr N V q:=by obtain ⟨k,rfl⟩:=d;exact h.scale k
theorem Fr.add {M V W:Nat} {p q:Rat} (h:Fr M V p) (h':Fr M W q):Fr M (V+W) (p+q):=by
 obtain ⟨z,e,b⟩:=h;obtain ⟨z',e',b'⟩:=h';refine ⟨z+z',by rw[Bg,<- e,<- e',Rat.add_mul],?_⟩;rw[Di];have:=Int.natAbs_add_le z z'
 lia
theorem Fr.neg {M V:Nat} {q:Rat} (h:Fr M V q):Fr M V (-q):=by
 obtain ⟨z,e,b⟩:=h;exact ⟨-z,by rw[cP,<- e,Rat.neg_mul],by rw[jE];exact b⟩
theorem Fr.mul {M N V W:Nat} {p q:Rat} (h:Fr M V p) (h':Fr N W q):Fr (M*N) (V*W) (p*q):=by
 obtain ⟨z,e,b⟩:=h;obtain ⟨z',e',b'⟩:=h';refine ⟨z*z',?_,?_⟩
 ·rw[p9,aS,<- e,<- e'];grind
 ·rw[dO]
  calc z.natAbs*z'.natAbs<=(V*M)*(W*N):=aJ b b'
   _=V*W*(M*N):=by rw[cK,Nat.mul_left_comm M,<- cK]
theorem Fr.zero {M V:Nat}:Fr M V 0:=⟨0,by simp,by simp⟩
theorem Fr.int {M V:Nat} {i:Int} (h:i.natAbs<=V):Fr M V (i:Rat):=⟨i*M,by rw[aS,bh],by rw[dO,cT];exact aA _ h⟩
theorem Fr.den {M V:Nat} {q:Rat} (h:Fr M V q):(q.den:Int)∣(M:Int):=by
 obtain ⟨z,e,b⟩:=h
 have h1:q.num*(M:Int)=z*(q.den:Int):=by
  apply di.mp;rw[aS,aS,<- e,kG,bh,bh];grind
 have h2:(q.den:Int)∣q.num*(M:Int):=⟨z,by rw[h1,fu]⟩;exact o9 (by rw[j9];exact Ec q) h2
theorem Fr.den_le {M V:Nat} {q:Rat} (h:Fr M V q) (hM:0 < M):q.den<=M:=gI hM (lW.mp h.den)
theorem Fr.num_le {M V:Nat} {q:Rat} (h:Fr M V q) (hM:0 < M):q.num.natAbs<=V*M:=by
 have hd:=h.den;obtain ⟨z,e,b⟩:=h;obtain ⟨k,hk⟩:=lW.mp hd;have hk0:k≠0:=λz=>by rw[z,Jz] at hk;lia
 have h1:z=q.num*(k:Int):=by
  apply di.mp;rw[aS,<- e,kG,bh,hk,p9];grind
 rw[h1] at b;exact ai (mV (by lia)) b
theorem Fr.own (q:Rat) {V:Nat} (h:q.num.natAbs<=V):Fr q.den V q:=⟨q.num,(kG q).symm,ai h (dC _ q.den_pos)⟩
theorem Fr.sz {M V k j:Nat} {q:Rat} (h:Fr M V q) (hM:0 < M) (h1:M<=2^k) (h2:V<=2^j):Sz (j+k+1) (nm q).1/\Sz (k+1) (nm q).2:=by
 constructor
 ·show q.num.natAbs < 2^(j+k+1)
  have h3:=h.num_le hM;have h4:V*M<=2^j*2^k:=aJ h2 h1;rw[gi,aY];have:=Nat.two_pow_pos (j+k);rw[aY] at this
  lia
 ·show (q.den:Int).natAbs < 2^(k+1)
  have h3:=h.den_le hM;rw[cT,gi];have:=Nat.two_pow_pos k
  lia
theorem Fr.sum {M V:Nat}:∀{l:List Rat},(∀x∈l,Fr M V x)->Fr M (l.length*V) l.sum
 | [],_=>by simp;exact Fr.zero
 | x :: r,h=>by
  rw[List.sum_cons,bg,j7,sH];exact (h x (.head _)).add (Fr.sum λy hy=>h y (.tail _ hy))
def cG (xs ys:List Rat):Rat:=(List.zipWith (λx y=>x*y) xs ys).sum
theorem Fr.dot {M N V W:Nat} {xs ys:List Rat} (h:∀x∈xs,Fr M V x) (h':∀y∈ys,Fr N W y):Fr (M*N) (xs.length*(V*W)) (cG xs ys):=by
 have q:=Fr.sum (M:=M*N) (V:=V*W) (l:=List.zipWith (λx y=>x*y) xs ys) λz hz=>by
  obtain ⟨i,hi,e⟩:=bP hz;rw[pZ] at e;rw[<- e];exact (h _ (aL _)).mul (h' _ (aL _))
 exact q.mono (aA _ (by rw[bO];lia))
theorem yX:∀{bs:List Int} {m M:Int},0 < m->m∣M->(∀b∈bs,0 < b/\b∣M)->xp bs m∣M
 | [],_,_,_,h,_=>h
 | b :: r,m,M,hm,h,hb=>by
  have b1:=hb b de;refine yX (bs:=r) (ve hm b1.1) ?_ λc hc=>hb c (bZ _ hc)
  have gp:0 < g m b:=AF (by lia);have e1:=Aw m b;have e2:=xv m b;obtain ⟨u,hu⟩:=h;obtain ⟨v,hv⟩:=b1.2
  have h3:lo m b*u=hi m b*v:=by
   apply tU (show g m b≠0 by lia)
   calc lo m b*u*g m b=lo m b*g m b*u:=by rw[dt,fu u,<- dt]
    _=m*u:=by rw[e1]
    _=M:=hu.symm
    _=b*v:=hv
    _=hi m b*g m b*v:=by rw[e2]
    _=hi m b*v*g m b:=by rw[dt,fu (g m b),<- dt]
  have h4:hi m b∣lo m b*u:=⟨v,h3⟩;have h5:hi m b∣u:=o9 (by rw[j9];exact Au (by lia)) h4;obtain ⟨w,hw⟩:=h5;refine ⟨w,?_⟩;show M=m*hi m b*w
  rw[hu,hw,dt]
theorem Em {a b:Int} {k:Nat} (hb:0 < b) (d:a∣b) (h:Sz k b):Sz k a:=h.le (gI (by lia) (d5.mpr d))
end Nm
namespace Nm
def Dr (W:Nat) (x:Rat):Prop:=x.num.natAbs<=W/\x.den<=W
def uP:List Nat->Nat
 | []=>1
 | a :: r=>a*uP r
theorem xf:∀{l:List Nat},(∀a∈l,0 < a)->0 < uP l
 | [],_=>Nat.one_pos
 | a :: r,h=>b7 (h a (.head _)) (xf λb hb=>h b (.tail _ hb))
theorem xg:∀{l:List Nat} {a:Nat},a∈l->a∣uP l
 | b :: r,a,h=>by
  rcases aG.mp h with rfl | h
  ·exact Nat.dvd_mul_right ..
  ·exact wg (xg h) (hJ ..)
theorem z6 {k:Nat}:∀{l:List Nat},(∀a∈l,a<=2^k)->uP l<=2^(k*l.length)
 | [],_=>by simp [uP]
 | a :: r,h=>by
  rw[bg,Nat.mul_succ,aY,cH (2^(k*r.length))];exact aJ (h a (.head _)) (z6 λb hb=>h b (.tail _ hb))
def GF (M V:Nat) (rows:LR9):Prop:=∀xs∈rows,∀x∈xs,Fr M V x
def QJ (c n i:Nat) (rows:LR9):Prop:=∃M,0 < M/\M<=2^(i*(c*n+2))/\GF M (2^(20+2*i)) rows
theorem Qr {c n:Nat}:QJ c n 0 []:=⟨1,by decide,by simp,λ_ h=>nomatch h⟩
theorem Qs (c n i:Nat):(i+1)*(c*n+2)=i*(c*n+2)+(c*n+2):=j7 ..
theorem N8 {c n i:Nat} {rows:LR9} {xs:List Rat} (h:QJ c n i rows) (hl:xs.length=n) (hd:∀x∈xs,Dr (2^c) x) (hc:c<=20):QJ c n (i+1) (rows++[xs]):=by
 obtain ⟨M,h0,h1,h2⟩:=h
 have dp:0 < uP (xs.map (·.den)):=xf λa ha=>by
  obtain ⟨x,_,rfl⟩:=az.mp ha;exact x.den_pos
 have dl:uP (xs.map (·.den))<=2^(c*n):=by
  have:=z6 (k:=c) (l:=xs.map (·.den)) λa ha=>by
   obtain ⟨x,hx,rfl⟩:=az.mp ha;exact (hd x hx).2
  rwa [ah,hl] at this
 refine ⟨M*uP (xs.map (·.den)),b7 h0 dp,?_,λys hy x hx=>?_⟩
 ·rw[Qs,aY];exact aJ h1 (ai dl (av (by decide) (by lia)))
 ·rcases ax.mp hy with hy | hy
  ·exact ((h2 ys hy x hx).scale _).mono (av (by decide) (by lia))
  ·have e:ys=xs:=by simpa using hy
   subst e;have f:Fr x.den (2^c) x:=Fr.own x (hd x hx).1;have g:=(f.dvd (xg (az.mpr ⟨x,hx,rfl⟩))).scaleL M;exact g.mono (av (by decide) (by lia))
def bJ (rows:LR9) (w:Nat):LR9:=(List.range w).map λj=>rows.map λxs=>xs.getD j 0
theorem cW {rows:LR9} {w:Nat}:(bJ rows w).length=w:=by simp [bJ]
theorem wq {rows:LR9} {w:Nat}:∀ys∈bJ rows w,ys.length=rows.length:=λys hy=>by
 obtain ⟨j,_,rfl⟩:=az.mp hy;exact ah ..
theorem getD_map {α:Type} {l:List α} {f:α->Rat} {i:Nat} (h:i < l.length):(l.map f).getD i 0=f l[i]:=by
 rw[aa,aD,ag h];rfl
end Nm
namespace L2
open PySem PySem.Spec PyProof.Rows Nm
theorem c6.sqt {K:FG9} {H H':Hp} {b a:Addr} {xs:List V} (u:c6 b H H') (B:ib H b) (h:nY K H a xs):nY K H' a xs:=by
 rcases h with (h | ⟨o,h⟩) | h
 ·exact .inl (.inl (u.tup B h))
 ·exact .inl (.inr ⟨o,u.other (λz=>by obtain ⟨_,_,_,_,_,e,_⟩:=B;rw[z,e] at h;cases h) h⟩)
 ·exact .inr h
theorem K5 {K:FG9} {H:Hp} {a l:Addr} {xs ys:List V} {o:HO} (h:nY K H a xs) (hl:H l=some (.lst ys)):nY K (upd H l o) a xs:=by
 rcases h with (h | ⟨o,h⟩) | h
 ·exact .inl (.inl (by rw[bf λz=>by rw[z,hl] at h;cases h];exact h))
 ·exact .inl (.inr ⟨o,by rw[bf λz=>by rw[z,hl] at h;cases h];exact h⟩)
 ·exact .inr h
def cA (K:FG9) (H:Hp) (q:Rat) (x:V):Prop:=F3 K H x (nm q)
section
variable {K:FG9} {H H':Hp} {q:Rat} {x:V} {b l p:Addr} {qs:List Rat}
theorem cA.same (h:cA K H q x) (e:aF H H'):cA K H' q x:=e.num h
theorem cA.upto (h:cA K H q x) (u:c6 b H H') (B:ib H b):cA K H' q x:=by obtain ⟨p,e,s⟩:=h;exact ⟨p,e,u.sqt B s⟩
theorem cA.updL {ys:List V} {o:HO} (h:cA K H q x) (hl:H l=some (.lst ys)):cA K (upd H l o) q x:=by obtain ⟨p,e,s⟩:=h;exact ⟨p,e,K5 s hl⟩
theorem cA.mk {r:Addr} {a c:Int} (h:H r=some (.tup [.int a,.int c])) (e:(a,c)=nm q):cA K H q (.ref r):=⟨r,rfl,by rw[<- e];exact nY.of h⟩
def cL (K:FG9) (H:Hp) (p:Addr) (qs:List Rat):Prop:=∃xs,H p=some (.lst xs)/\Paired (cA K H) qs xs
theorem cL.same (h:cL K H p qs) (e:aF H H'):cL K H' p qs:=by obtain ⟨xs,g,r⟩:=h;exact ⟨xs,e _ _ g,Paired.imp' (λ_ _ z=>z.same e) r⟩
theorem cL.upto (h:cL K H p qs) (u:c6 b H H') (B:ib H b) (n:p≠b):cL K H' p qs:=by obtain ⟨xs,g,r⟩:=h;exact ⟨xs,u.other n g,Paired.imp' (λ_ _ z=>z.upto u B) r⟩
theorem cL.updL {ys:List V} {o:HO} (h:cL K H p qs) (hl:H l=some (.lst ys)) (n:p≠l):cL K (upd H l o) p qs:=by obtain ⟨xs,g,r⟩:=h;exact ⟨xs,by rw[bf n];exact g,Paired.imp' (λ_ _ z=>z.updL hl) r⟩
theorem qX {α β γ:Type} {F:α->β->Prop} {f:γ->α}:∀{l:List γ} {l2:List β},Paired (λc x=>F (f c) x) l l2->Paired F (l.map f) l2
 | _,_,.nil=>.nil
 | _,_,.cons r t=>.cons r (qX t)
theorem cL.rowK (h:cL K H p qs):Ex K H p (qs.map nm):=by obtain ⟨xs,g,r⟩:=h;exact ⟨xs,g,qX (F:=λn x=>F3 K H x n) r⟩
def cO (K:FG9) (H0 H:Hp) (qs:List Rat) (x:V):Prop:=∃q,x=V.ref q/\H0 q=none/\cL K H q qs
def bA (K:FG9) (H0 H:Hp) (p:Addr) (rows:LR9):Prop:=∃xs,H p=some (.lst xs)/\Paired (cO K H0 H) rows xs/\V.ref p∉xs
theorem ka {H0:Hp} {K:FG9} {p:Addr} {rows:LR9} {ys:List V} (h:∃H2,H2 p=none/\Paired (cO K H0 H2) rows ys):V.ref p∉ys:=λhm=>by
 obtain ⟨H2,e,pr⟩:=h;obtain ⟨qs,_,q,z,_,xs,g,_⟩:=dn pr hm;cases z;rw[e] at g;cases g
variable {H0:Hp} {rows:LR9}
theorem cO.same (h:cO K H0 H qs x) (e:aF H H'):cO K H0 H' qs x:=by obtain ⟨q,a,b,c⟩:=h;exact ⟨q,a,b,c.same e⟩
theorem cO.upto (h:cO K H0 H qs x) (u:c6 b H H') (B:ib H b) (nb:H0 b≠none):cO K H0 H' qs x:=by obtain ⟨q,a,c,d⟩:=h;exact ⟨q,a,c,d.upto u B λz=>nb (by rw[<- z];exact c)⟩
theorem cO.weak (h:cO K H0 H qs x) {H1:Hp} (e:aF H1 H0):cO K H1 H qs x:=by obtain ⟨q,a,b,c⟩:=h;exact ⟨q,a,e.none b,c⟩
theorem bA.same (h:bA K H0 H p rows) (e:aF H H'):bA K H0 H' p rows:=by obtain ⟨xs,g,r,n⟩:=h;exact ⟨xs,e _ _ g,Paired.imp' (λ_ _ z=>z.same e) r,n⟩
theorem bA.upto (h:bA K H0 H p rows) (u:c6 b H H') (B:ib H b) (n:p≠b) (nb:H0 b≠none):bA K H0 H' p rows:=by obtain ⟨xs,g,r,nn⟩:=h;exact ⟨xs,u.other n g,Paired.imp' (λ_ _ z=>z.upto u B nb) r,nn⟩
theorem bA.weak (h:bA K H0 H p rows) {H1:Hp} (e:aF H1 H0):bA K H1 H p rows:=by obtain ⟨xs,g,r,n⟩:=h;exact ⟨xs,g,Paired.imp' (λ_ _ z=>z.weak e) r,n⟩
theorem bA.gridK (h:bA K H0 H p rows):O7 K H p (rows.map (List.map nm)):=by obtain ⟨xs,g,r,_⟩:=h;exact ⟨xs,g,qX (F:=λns x=>∃q,x=V.ref q/\Ex K H q ns) (Paired.imp' (λ_ _ ⟨q,a,_,c⟩=>⟨q,a,c.rowK⟩) r)⟩
end
def CA:Kind Rat:=RX.via nm (λ_ _ e=>Qh e) (λK H x q=>cA K H q x) id
def LZ:Kind (List Rat):=RY CA
def AA:Kind (LR9):=RY LZ
theorem cL.kind {K:FG9} {H:Hp} {p:Addr} {qs:List Rat} (h:cL K H p qs):LZ.R K H (.ref p) qs:=by obtain ⟨xs,g,q⟩:=h;exact ⟨p,xs,rfl,bE.of g,q⟩
theorem bA.kind {K:FG9} {H0 H:Hp} {p:Addr} {rows:LR9} (h:bA K H0 H p rows):AA.R K H (.ref p) rows:=by obtain ⟨xs,g,q,_⟩:=h;exact ⟨p,xs,rfl,bE.of g,Paired.imp' (λ_ _ ⟨q,a,_,c⟩=>by rw[a];exact c.kind) q⟩
def kK (x:Rat):Prop:=Sz 200000 (nm x).1/\Sz 200000 (nm x).2
def Fits (l:List Rat):Prop:=∃M V:Nat,0 < M/\M<=2^900/\V<=2^900/\∀x∈l,Fr M V x
theorem Fits.szn {l:List Rat} (h:Fits l) {x:Rat} (hx:x∈l):kK x:=by
 obtain ⟨M,V,h0,h1,h2,h3⟩:=h;obtain ⟨a,b⟩:=(h3 x hx).sz h0 h1 h2;exact ⟨a.mono (by decide),b.mono (by decide)⟩
theorem Fits.ok {l:List Rat} (h:Fits l) {x:Rat} (hx:x∈l):yB (nm x):=⟨gM x,Ec x,(h.szn hx).1.mono (by decide),(h.szn hx).2.mono (by decide)⟩
theorem HX {M V:Nat} {x:Rat} (h0:0 < M) (h1:M<=2^1800) (h2:V<=2^1810) (h:Fr M V x):kK x:=by
 obtain ⟨a,b⟩:=h.sz h0 h1 h2;exact ⟨a.mono (by decide),b.mono (by decide)⟩
theorem K2 {x:Rat} (h:kK x):yB (nm x):=⟨gM x,Ec x,h.1.mono (by decide),h.2.mono (by decide)⟩
inductive mF (K:FG9) (f:Rat->Rat->Rat) (vs:List V) (H:Hp) (Q:VK) (E9:XK):Prop
 | mk (u v:V) (x y:Rat):vs=[u,v]->cA K H x u->cA K H y v->kK x->kK y->(∀r H',aF H H'->cA K H' (f x y) (.ref r)->Q (.ref r) H')->mF K f vs H Q E9
section
variable {K:FG9} {vs:List V} {H:Hp} {Q:VK} {E:XK}
theorem Hv {f:Rat->Rat->Rat} {F:Int->Int->Int->Int->Int} (hf:∀x y:Rat,(f x y)*(((nm x).2*(nm y).2:Int):Rat)=((F (nm x).1 (nm x).2 (nm y).1 (nm y).2:Int):Rat)) (h:mF K f vs H Q E):IC K F vs H Q E:=by
 obtain ⟨u,v,x,y,rfl,⟨p,rfl,hp⟩,⟨q,rfl,hq⟩,⟨s1,s2⟩,⟨s3,s4⟩,k⟩:=h;refine ⟨p,q,_,_,_,_,rfl,hp,hq,gM x,gM y,s1,s2,s3,s4,λr H' s g=>k r H' s (cA.mk g ?_)⟩;exact kJ (gD (gM x) (gM y)) (hf x y)
theorem oQ (x:Rat):(((nm x).1:Int):Rat)=x*(((nm x).2:Int):Rat):=by
 show (x.num:Rat)=x*(((x.den:Nat):Int):Rat)
 rw[kG,bh]
theorem Jo (h:mF K (λx y=>x+y) vs H Q E):IC K OU vs H Q E:=Hv (λx y=>by
 unfold OU;rw[Bg,aS,aS,aS,oQ,oQ];grind) h
theorem yT (h:mF K (λx y=>x - y) vs H Q E):IC K Ml vs H Q E:=Hv (λx y=>by
 unfold Ml;rw[Bf,aS,aS,aS,oQ,oQ];grind) h
theorem yV (h:mF K (λx y=>x*y) vs H Q E):IC K Mj vs H Q E:=Hv (λx y=>by
 unfold Mj;rw[aS,aS,oQ,oQ];grind) h
end
def Ii (M:Int) (ns:List (Int×Int)):Prop:=0 < M/\Sz 220000 M/\∀n∈ns,0 < n.2/\n.2∣M/\Sz 220000 n.1
theorem Ii.bot {M:Int} {ns:List (Int×Int)} (h:Ii M ns):0 < gG ns/\Sz 220000 (gG ns):=by
 have hb:∀b∈ns.map (·.2),0 < b/\b∣M:=λb hb=>by
  obtain ⟨n,hn,rfl⟩:=az.mp hb;exact ⟨(h.2.2 n hn).1,(h.2.2 n hn).2.1⟩
 exact ⟨Ay (by decide) λb q=>(hb b q).1,Em h.1 (yX (by decide) (Int.one_dvd _) hb) h.2.1⟩
inductive K6 (K:FG9) (vs:List V) (H:Hp) (Q:VK) (E9:XK):Prop
 | mk (p:Addr) (bs:List Int) (M:Int):vs=[.ref p]->bE K H p (bs.map V.int)->0 < M->Sz 220000 M->((∀b∈bs,0 < b/\b∣M))->Q (.int (xp bs 1)) H->K6 K vs H Q E9
inductive K7 (K:FG9) (vs:List V) (H:Hp) (Q:VK) (E9:XK):Prop
 | mk (p:Addr) (ns:List (Int×Int)) (M:Int):vs=[.ref p]->Ex K H p ns->ns.length<=1000->Ii M ns->(∀H',aF H H'->Q (.int (gG ns)) H')->K7 K vs H Q E9
inductive EY (K:FG9) (vs:List V) (H:Hp) (Q:VK) (E9:XK):Prop
 | mk (p:Addr) (ns:List (Int×Int)) (M:Int) (B:Int):vs=[.ref p,.int B]->Ex K H p ns->ns.length<=1000->Ii M ns->0 < B->Sz 220000 B->(∀r H',H r=none->aF H H'->H' r=some (.lst ((fg ns B).map V.int))->Q (.ref r) H')->EY K vs H Q E9
theorem ES {M:Int} {ns:List (Int×Int)} {B t:Int} (h:Ii M ns) (hB:0 < B) (sB:Sz 220000 B) (ht:t∈fg ns B):Sz 440000 t:=by
 obtain ⟨n,hn,rfl⟩:=az.mp ht;have hp:=h.2.2 n hn
 have sq:Sz 220000 (B / n.2):=sB.le (by
  rw[QN (by lia)];exact Nat.div_le_self ..)
 exact (hp.2.2.mul sq).mono (by lia)
theorem qh {x:Rat} {B:Int} (h:(nm x).2∣B):(((nm x).1*(B / (nm x).2):Int):Rat)=x*(B:Rat):=by
 obtain ⟨k,rfl⟩:=h;have hp:=gM x;rw[Int.mul_ediv_cancel_left _ (by lia),aS,aS,oQ];grind
theorem FI {B C:Int}:∀{xs ys:List Rat},(∀x∈xs,(nm x).2∣B)->(∀y∈ys,(nm y).2∣C)->(((List.zipWith (λx y=>x*y) (fg (xs.map nm) B) (fg (ys.map nm) C)).sum:Int):Rat)=cG xs ys*((B:Rat)*(C:Rat))
 | [],ys,_,_=>by simp [fg,cG]
 | x :: xs,[],_,_=>by simp [fg,cG]
 | x :: xs,y :: ys,h1,h2=>by
  have ih:=FI (B:=B) (C:=C) (xs:=xs) (ys:=ys) (λz hz=>h1 z (.tail _ hz)) (λz hz=>h2 z (.tail _ hz));have e1:=qh (h1 x (.head _));have e2:=qh (h2 y (.head _));have e3:(List.zipWith (λx y=>x*y) (fg ((x :: xs).map nm) B) (fg ((y :: ys).map nm) C)).sum=((nm x).1*(B / (nm x).2))*((nm y).1*(C / (nm y).2))+(List.zipWith (λx y=>x*y) (fg (xs.map nm) B) (fg (ys.map nm) C)).sum:=rfl;have e4:cG (x :: xs) (y :: ys)=x*y+cG xs ys:=rfl;rw[e3,e4,Bg,aS,ih,e1,e2];grind
theorem Oe {xs ys:List Rat} (h1:0 < gG (xs.map nm)) (h2:0 < gG (ys.map nm)):(lo (Ms (xs.map nm) (ys.map nm)) (gG (xs.map nm)*gG (ys.map nm)),hi (Ms (xs.map nm) (ys.map nm)) (gG (xs.map nm)*gG (ys.map nm)))=nm (cG xs ys):=by
 refine kJ (gD h1 h2) ?_;unfold Ms;rw[FI (λx hx=>nP (az.mpr ⟨x,hx,rfl⟩)) (λx hx=>nP (az.mpr ⟨x,hx,rfl⟩)),aS]
inductive EX (K:FG9) (vs:List V) (H:Hp) (Q:VK) (E9:XK):Prop
 | mk (p:Addr) (w:Nat) (H0:Hp) (rows:LR9):vs=[.ref p,.int w]->bA K H0 H p rows->rows.length<=1000->w<=1000->(∀xs∈rows,xs.length=w)->(∀r H',H r=none->aF H H'->bA K H H' r (bJ rows w)->Q (.ref r) H')->EX K vs H Q E9
def Pc (m:Nat) (a:Int):List Rat:=(List.range m).map λ(i:Nat)=>if ((i:Nat):Int)=a then 1 else 0
inductive EW (K:FG9) (vs:List V) (H:Hp) (Q:VK) (E9:XK):Prop
 | mk (m:Nat) (a:Int):vs=[.int m,.int a]->m<=1000->(∀r H',H r=none->aF H H'->cL K H' r (Pc m a)->Q (.ref r) H')->EW K vs H Q E9
inductive zD (K:FG9) (vs:List V) (H:Hp) (Q:VK) (E9:XK):Prop
 | mk (b:Addr) (w:Nat):vs=[.ref b,.int w]->ib H b->1<=w->w<=1000000->(∀r x H',Dr (max w 6) x->cA K H' x (.ref r)->ib H' b->c6 b H H'->Q (.ref r) H')->zD K vs H Q E9
inductive Fb (K:FG9) (vs:List V) (H:Hp) (Q:VK) (E9:XK):Prop
 | mk (b:Addr) (m w:Nat):vs=[.ref b,.int m,.int w]->ib H b->m<=1000->1<=w->w<=1000000->(∀r xs H',H r=none->cL K H' r xs->xs.length=m->(∀x∈xs,Dr (max w 6) x)->ib H' b->c6 b H H'->Q (.ref r) H')->Fb K vs H Q E9
inductive E2 (K:FG9) (vs:List V) (H:Hp) (Q:VK) (E9:XK):Prop
 | mk (p q:Addr) (xs ys:List Rat):vs=[.ref p,.ref q]->cL K H p xs->cL K H q ys->ys.length=xs.length->xs.length<=1000->(∀x∈xs,kK x)->(∀y∈ys,kK y)->(∀r H',H r=none->aF H H'->cL K H' r (List.zipWith (λx y=>x+y) xs ys)->Q (.ref r) H')->E2 K vs H Q E9
inductive GP (K:FG9) (vs:List V) (H:Hp) (Q:VK) (E9:XK):Prop
 | mk (u:V) (q:Addr) (c:Rat) (ys:List Rat):vs=[u,.ref q]->cA K H c u->kK c->cL K H q ys->ys.length<=1000->(∀y∈ys,kK y)->(∀r H',H r=none->aF H H'->cL K H' r (ys.map λy=>c*y)->Q (.ref r) H')->GP K vs H Q E9
inductive zJ (K:FG9) (vs:List V) (H:Hp) (Q:VK) (E9:XK):Prop
 | mk (p:Addr) (H0:Hp) (rows:LR9):vs=[.ref p]->bA K H0 H p rows->rows.length<=1000->(∀xs∈rows,xs.length<=1000)->(∀r H',H r=none->aF H H'->bA K H H' r rows->Q (.ref r) H')->zJ K vs H Q E9
section
variable {K:FG9} {a:Addr} {xs:List V} {g:TG} {tf:TT} {te:TE} {Q:VK} {σ₀:St} {H:Hp} {α β:Type}
theorem dw {as:List α} {F:Hp->α->V->Prop} (G:Hp->β->V->Prop) (f:α->β) (hx:H a=some (.lst xs)) (pf:Paired (F H) as xs) (hl:as.length<=1000)
  (hF:∀{H H' c x},F H c x->aF H H'->F H' c x) (hG:∀{H H' c x},G H c x->aF H H'->G H' c x)
  (hs:∀(i:Nat) c x H' NY NN,as[i]?=some c->aF H H'->F H' c x->(∀y H2,aF H' H2->G H2 (f c) y->NY y H2)->pI σ₀ g tf te x H' NY NN)
  (hd:∀ys H' p,H p=none->aF H H'->H' p=some (.lst ys)->Paired (G H') (as.map f) ys->(∃H2,H2 p=none/\Paired (G H2) (as.map f) ys)->Q (.ref p) H'):pU (O6 K a) σ₀ g tf te Q H:=by
 have lx:=pf.length;refine d6 (K:=K) (xs:=xs) (λi ys H'=>aF H H'/\Paired (G H') ((as.take i).map f) ys) (bc (bC (by lia))) ⟨aF.refl _,.nil⟩ (λi ys H' _ ⟨s,_⟩=>bE.of (s _ _ hx)) ?_ ?_
 ·rintro i x ys H' hx' hlen ⟨s,pr⟩;obtain ⟨c,ec,hc⟩:=bY pf hx';refine hs i c x H' _ _ ec s (hF hc s) λy H2 s2 gy=>⟨s.trans s2,?_⟩
  rw[take_snoc ec,cE];exact cp (Paired.imp' (λ_ _ z=>hG z s2) pr) (.cons gy .nil)
 ·rintro ys H' hy ⟨s,pr⟩ p hp;rw[aI (by lia)] at pr;exact hd ys _ p (s.none hp) (s.trans (aF.new hp)) aE (Paired.imp' (λ_ _ z=>hG z (aF.new hp)) pr) ⟨H',hp,pr⟩
theorem fR {n:Nat} (G:Hp->β->V->Prop) (f:Nat->β) (hl:n<=1000) (hG:∀{H H' c x},G H c x->aF H H'->G H' c x)
  (hs:∀(i:Nat) H' NY NN,i < n->aF H H'->(∀y H2,aF H' H2->G H2 (f i) y->NY y H2)->pI σ₀ g tf te (.int i) H' NY NN)
  (hd:∀ys H' p,H p=none->aF H H'->H' p=some (.lst ys)->Paired (G H') ((List.range n).map f) ys->(∃H2,H2 p=none/\Paired (G H2) ((List.range n).map f) ys)->Q (.ref p) H'):pU (F5 0 n) σ₀ g tf te Q H:=by
 refine jP (λi ys H'=>aF H H'/\Paired (G H') ((List.range i).map f) ys) (bc (bC (by lia))) ⟨aF.refl _,.nil⟩ ?_ ?_
 ·rintro i ys H' hi hlen ⟨s,pr⟩;rw[mE];refine hs i H' _ _ hi s λy H2 s2 gy=>⟨s.trans s2,?_⟩
  rw[iT,cE];exact cp (Paired.imp' (λ_ _ z=>hG z s2) pr) (.cons gy .nil)
 ·rintro ys H' hy ⟨s,pr⟩ p hp;exact hd ys _ p (s.none hp) (s.trans (aF.new hp)) aE (Paired.imp' (λ_ _ z=>hG z (aF.new hp)) pr) ⟨H',hp,pr⟩
theorem CU {n:Nat} {b:Addr} (G:Hp->β->V->Prop) (C:β->Prop) (hB:ib H b) (hl:n<=1000) (hG:∀{H' H'' c x},G H' c x->c6 b H' H''->ib H' b->G H'' c x)
  (hs:∀(i:Nat) H' NY NN,i < n->c6 b H H'->ib H' b->(∀y c H2,c6 b H' H2->ib H2 b->C c->G H2 c y->NY y H2)->pI σ₀ g tf te (.int i) H' NY NN)
  (hd:∀ys cs H' p,H p=none->c6 b H H'->ib H' b->H' p=some (.lst ys)->cs.length=n->(∀c∈cs,C c)->Paired (G H') cs ys->(∃H2,H2 p=none/\Paired (G H2) cs ys)->Q (.ref p) H'):pU (F5 0 n) σ₀ g tf te Q H:=by
 refine jP (λi ys H'=>c6 b H H'/\ib H' b/\∃cs,cs.length=i/\(∀c∈cs,C c)/\Paired (G H') cs ys) (bc (bC (by lia))) ⟨(aF.refl _).upto,hB,[],rfl,(λ_ z=>nomatch z),.nil⟩ ?_ ?_
 ·rintro i ys H' hi hlen ⟨u,B,cs,lc,hc,pr⟩;rw[mE];refine hs i H' _ _ hi u B λy c H2 u2 B2 cc gy=>⟨u.trans u2,B2,cs++[c],by simp [lc],Jn hc cc,cp (Paired.imp' (λ_ _ z=>hG z u2 B) pr) (.cons gy .nil)⟩
 ·rintro ys H' hy ⟨u,B,cs,lc,hc,pr⟩ p hp;have s:aF H' (upd H' p (.lst ys)):=aF.new hp;exact hd ys cs _ p (u.none B hp) (u.same s) (B.same s) aE lc hc (Paired.imp' (λ_ _ z=>hG z s.upto B) pr) ⟨H',hp,pr⟩
end
section
variable {X:Cx}
theorem eF {n:Nat} {g:TG} {tb:TS} {D:Ends} {σ:St} {H:Hp} (Pv:Nat->St->Hp->Prop) (h0:Pv 0 σ H)
  (hs:∀(i:Nat) σ H,i < n->Pv i σ H->g (.int i) σ H λσ2 H2=>tb { D with nx:=Pv (i+1),ct:=Pv (i+1),bk:=D.nx } σ2 H2) (hd:∀σ H,Pv n σ H->D.nx σ H) :
  ∃W:Nat->Nat->St->Hp->Prop,(∃m,W 0 m σ H)/\∀i m σ H,W i m σ H →
   ((F5 0 n).stop i H/\D.nx σ H)\/((F5 0 n).go i H/\∃N:St->Hp->Prop,(∀σ' H',N σ' H'->∃m',m' < m/\W (i+1) m' σ' H')/\∀x H',(F5 0 n).yld i H x H'->g x σ H' λσ2 H2=>tb { D with nx:=N,ct:=N,bk:=D.nx } σ2 H2) :=
 CF (lo:=0) Pv h0 (λi σ H hi p=>by rw[mE];exact hs i σ H hi p) hd
theorem nN:pV X (.type "int") (λxs H Q=>∃b:Bool,xs=[.bl b]/\Q (.int (if b=true then 1 else 0)) H):=by
 intro pins s σ H xs us Q I r h;obtain ⟨b,rfl,q⟩:=h;obtain ⟨u,rfl,ru⟩:=vals1 r;cases ru;exact call_int_bool ⟨.int _,H,I.tok _,⟨_,rfl⟩,q⟩
theorem BG (K:FG9) (hK:X.K=K):pV X (.builtin "len") (λxs H Q=>∃p ys,xs=[.ref p]/\(bE K H p ys\/nY K H p ys)/\Q (.int ys.length) H):=by subst hK;exact a7
theorem Lr {st:Stmt}:PS X st (λ_ _ _=>False):=λ_ _ _ _ _ _ h=>h.elim
end
theorem LR {t b:Int} {W:Nat} (hb:0 < b) (h1:t.natAbs<=W) (h2:b.natAbs<=W):∃q:Rat,(lo t b,hi t b)=nm q/\Dr W q/\q*(b:Rat)=(t:Rat):=by
 have hb':(b:Rat)≠0:=λz=>by have:=yE.mp z;lia
 have e:(t:Rat) / (b:Rat)*(b:Rat)=t:=Rat.div_mul_cancel hb';have h:=kJ hb e;refine ⟨_,h,⟨?_,?_⟩,e⟩
 ·have:=congrArg Prod.fst h;have z:=lo_le (t:=t) (b:=b) (by lia);show ((nm ((t:Rat) / (b:Rat))).1).natAbs<=W
  rw[<- this];exact ai z h1
 ·have:=congrArg Prod.snd h;have z:=OS (t:=t) (b:=b) (by lia);have hd:(((t:Rat) / (b:Rat)).den:Int)=hi t b:=this.symm;have hp:=Ei (t:=t) hb
  lia
theorem BF {K:FG9} {H:Hp} {qs:List Rat} {xs:List V} (h:Paired (cA K H) qs xs) {j:Nat} (hj:j < qs.length):∃v,Ie xs (j:Int)=some v/\cA K H (qs.getD j 0) v:=by
 have hl:=h.length;refine ⟨xs[j]'(by lia),dX (by simp),?_⟩;have:=iF h (i:=j) hj (by lia);rwa [aa,ag hj]
theorem CI {xs ys:List Rat} {i:Nat} (h1:i < xs.length) (h2:i < ys.length):cG (xs.take (i+1)) (ys.take (i+1))=cG (xs.take i) (ys.take i)+xs.getD i 0*ys.getD i 0:=by
 have e1:xs[i]?=some (xs.getD i 0):=by rw[aa,ag h1];rfl
 have e2:ys[i]?=some (ys.getD i 0):=by rw[aa,ag h2];rfl
 unfold cG;rw[take_snoc e1,take_snoc e2,List.zipWith_append (by simp;lia),List.sum_append];simp [sG]
theorem getD_mem {xs:List Rat} {i:Nat} (h:i < xs.length):xs.getD i 0∈xs:=by
 rw[aa,ag h];exact aL h
theorem BR {xs ys:List Rat} (h:ys.length=xs.length):List.zipWith (λx y=>x+y) xs ys=(List.range xs.length).map λi=>xs.getD i 0+ys.getD i 0:=by
 apply jC;intro i;rw[bS,aD];by_cases hi:i < xs.length
 ·rw[cV hi,ag hi,ag (show i < ys.length by lia)];simp [aa,ag hi,ag (show i < ys.length by lia)]
 ·rw[aO (show (List.range xs.length).length<=i by simp;lia),aO (show xs.length<=i by lia)];rfl
theorem cO.updL {K:FG9} {H0 H:Hp} {qs:List Rat} {x:V} {l:Addr} {ys:List V} {o:HO} (h:cO K H0 H qs x) (hl:H l=some (.lst ys)) (nl:H0 l≠none):cO K H0 (upd H l o) qs x:=by obtain ⟨q,a,b,c⟩:=h;exact ⟨q,a,b,c.updL hl λz=>nl (by rw[<- z];exact b)⟩
theorem ib.at {H:Hp} {b:Addr} (B:ib H b):H b≠none:=by obtain ⟨_,_,_,_,_,e,_⟩:=B;rw[e];simp
theorem Inner.at {H:Hp} {b q:Addr} (B:ib H b) (i:Inner H b q):H q≠none:=by
 obtain ⟨q',i',xs,e⟩:=B.inner;rw[<- Inner.inj i' i,e];simp
theorem gL {α β:Type} {F:α->β->Prop} {l1:List α} {l2:List β} {i:Nat} (h:Paired F l1 l2) (hi:i < l1.length):∃x y,l1[i]?=some x/\l2[i]?=some y/\x∈l1/\F x y:=by
 have hl:=h.length;exact ⟨l1[i],l2[i]'(by lia),by simp,by simp,aL _,iF h hi (by lia)⟩
theorem Jl {i j:Int} (h1:-(2^64) < i) (h2:i < 2^64):fh i j:=.inl (.inl ⟨h1,h2⟩)
theorem Og {i j:Int} (h1:-(2^64) < j) (h2:j < 2^64):fh i j:=.inl (.inr ⟨h1,h2⟩)
def QI (K : FG9) (l : Addr) : It :=
  ⟨λi H => ∃ xs x, bE K H l xs /\ xs[i]? = some x,
   λi H v H' => ∃ p x, v = .ref p /\ H p = none /\ H' = upd H p (.tup [.int i, x]) /\ ∀ xs, bE K H l xs → xs[i]? = some x,
   λi H => ∃ xs, bE K H l xs /\ xs.length ≤ i⟩
def tnE (e it l:Addr) (i:Nat) (h:Heap):Prop:=(∃old,IsEnum h e it i old)/\h.IsListIter it l i
theorem JD {P:Program} {w:World} {K:FG9} {elts:List Expr} {kk:Nat} {tpos:Pos} (e it l:Addr) (hei:e≠it):Turn P w K (.Tuple elts kk tpos) (QI K l) [e,it] e (tnE e it l) where
 mem:=by simp
 obj:=λi h st b hb=>by
  obtain ⟨⟨old,he⟩,⟨o1,g1,c1,d1⟩⟩:=st;simp only[aG,br,or_false] at hb;rcases hb with rfl | rfl
  ·exact ⟨_,he,λv q=>nomatch q⟩
  ·exact ⟨o1,g1,λv q=>by rw[d1] at q;cases q⟩
 keep:=λi h h' st k=>by
  obtain ⟨⟨old,he⟩,h1⟩:=st;exact ⟨⟨old,k e (by simp) _ he⟩,h1.at λo q=>k it (by simp) o q⟩
 item:=by
  intro X hP hw hK hc i pins s σ H E I hf st hg;subst hP hw hK;obtain ⟨⟨old,he⟩,h1⟩:=st;obtain ⟨xs,x,qx,ex⟩:=hg;obtain ⟨us,rx,px,_⟩:=I.list qx;obtain ⟨u,eu,ru⟩:=rx.get ex;refine wpAny_pyNext_enum_item he h1 px.isList (x:=u) (by simpa using eu) hei λh' a1 a2 a3 a4 hk=>?_
  refine ⟨_,rfl,wpAny_letOwnedTupleGo_enum a1 λh'' he'' hs=>?_⟩;have hT0:H s.heap.objs.size=none:=I.hok.fresh (aw _);have ene:s.heap.objs.size≠e:=Jy (Heap.lt_size he)
  have up:∀b o,b∉[e,it]->s.heap.get? b=some o->h''.get? b=some o:=λb o hb q=>by
   simp only[aG,br,or_false,not_or] at hb;exact (hs.2 b hb.1).trans (hk b o hb.1 hb.2 q)
  have tup:h''.get? s.heap.objs.size=some { cls:=.type "tuple",data:=.seq #[.int i s.toks,u] }:=(hs.2 _ ene).trans a3;have I1:Inv X pins σ H { s with heap:=h'',toks:=s.toks+1 }:=I.moved (g':=s.gens) (d':=s.drawn) (t':=s.toks+1) (ch:=[e,it]) hf up I.bare;have fT:jT X pins H s.heap.objs.size:=I.fpOk (aw _) hT0;have I2:=I1.track (o:=.tup [.int i,x]) fT ⟨iU rfl,[.int i s.toks,u],.cons ⟨_,rfl⟩ (.cons ru .nil),⟨_,tup,rfl,_,rfl⟩⟩;refine ⟨.ref s.heap.objs.size,_,I2,rfl,⟨_,x,rfl,hT0,rfl,λxs' q=>by rw[I.list_inj q qx];exact ex⟩,?_,λb hb=>?_⟩
  ·exact ⟨⟨_,by simpa using he''⟩,a2.at λo q=>(hs.2 _ hei.symm).trans q⟩
  ·rw[bf]
   ·exact (hf b hb).1
   ·obtain ⟨o1,g1,_⟩:=h1;simp only[aG,br,or_false] at hb;rcases hb with rfl | rfl
    ·exact ene.symm
    ·exact cQ (Heap.lt_size g1)
 done:=by
  intro X hP hw hK hc i pins s σ H E I hf st hg;subst hP hw hK;obtain ⟨⟨old,he⟩,h1⟩:=st;obtain ⟨xs,qx,hend⟩:=hg;obtain ⟨us,rx,px,_⟩:=I.list qx;have lx:=rx.length;refine wpAny_pyNext_enum_end (I.ok.hd hc) he h1 px.isList (by simp;lia) λh' hk=>⟨rfl,?_⟩
  exact I.moved (g':=s.gens) (d':=s.drawn) (t':=s.toks) (ch:=[e,it]) hf (λb o hb q=>hk b o (λz=>hb (by simp [z])) q) I.bare
 self:=λ_ _ _ _ _ st h=>let ⟨⟨_,he⟩,_⟩:=st;wpAny_pyIter_enum he h
section
variable {X:Cx}
def OR (K:FG9) (ta:TA):TI:=λσ H R=>ta σ H λvs H1=>∃l,vs=[.ref l]/\(∃xs,bE K H1 l xs)/\R (QI K l) H1
theorem IG {a:Expr} {ta:TA} {p pos tpos:Pos} {elts:List Expr} {kk:Nat} (hg:Gl X "enumerate") (hm:X.mg "enumerate"=none) (ha:PA X [a] ta) (hs:starEach [a] X.env=[(false,eval a X.env)]:=by rfl) :
  PI X (.Tuple elts kk tpos) (.Call (.Name "enumerate" p) [a] [] pos) (OR X.K ta):=by
 intro pins s σ H R I h;refine Call_ (lQ I hg hm boot_enumerate (PyProof.Rows.callWith_type1 (fO (ha pos pins s σ H _ I h) λus s1 ⟨vs,H1,I1,r1,q1⟩=>?_) (by rw[hs];rfl) rfl));obtain ⟨l,e,⟨xs,qx⟩,q⟩:=q1;subst e;obtain ⟨u,rfl,ru⟩:=vals1 r1;cases ru;obtain ⟨us,rx,px,_⟩:=I1.list qx;refine call_enumerate_list px.isList λh' a1 a2 a3 hk=>wpAny_pyIter_enum a1 ?_
 have I2:Inv X pins σ H1 { s1 with heap:=h' }:=I1.kept (t':=s1.toks) hk;refine ⟨_,[s1.heap.objs.size+1,s1.heap.objs.size],_,_,H1,rfl,I2,JD (s1.heap.objs.size+1) s1.heap.objs.size l (Nat.succ_ne_self _),⟨⟨_,a1⟩,a2⟩,λb hb=>?_,q⟩
 have hb':s1.heap.objs.size<=b:=by
  simp only[aG,br,or_false] at hb;rcases hb with rfl | rfl <;> first | exact wd _ | exact aw _
 exact I1.fpOk hb' (I1.hok.fresh hb')
end
theorem Ln {K:FG9} {ta:TA} {R:It->Hp->Prop} {σ:St} {H:Hp} (h:ta σ H λvs H1=>∃l,vs=[.ref l]/\(∃xs,bE K H1 l xs)/\R (QI K l) H1):OR K ta σ H R:=h
theorem Mh {K:FG9} {l:Addr} {xs:List V} {g:TG} {tb:TS} {D:Ends} {σ:St} {H:Hp} (Pv:Nat->St->Hp->Prop) (h0:Pv 0 σ H) (hl:∀i σ H,i<=xs.length->Pv i σ H->bE K H l xs)
  (hs:∀i x σ H p,xs[i]?=some x->Pv i σ H->H p=none->g (.ref p) σ (upd H p (.tup [.int i,x])) λσ2 H2=>tb { D with nx:=Pv (i+1),ct:=Pv (i+1),bk:=D.nx } σ2 H2) (hd:∀σ H,Pv xs.length σ H->D.nx σ H) :
  ∃W:Nat->Nat->St->Hp->Prop,(∃m,W 0 m σ H)/\∀i m σ H,W i m σ H →
   ((QI K l).stop i H/\D.nx σ H)\/((QI K l).go i H/\∃N:St->Hp->Prop,(∀σ' H',N σ' H'->∃m',m' < m/\W (i+1) m' σ' H')/\∀x H',(QI K l).yld i H x H'->g x σ H' λσ2 H2=>tb { D with nx:=N,ct:=N,bk:=D.nx } σ2 H2):=by
 refine ⟨λi m σ H=>m=xs.length - i/\i<=xs.length/\Pv i σ H,⟨xs.length,by simp,aZ _,h0⟩,?_⟩;rintro i m σ H ⟨rfl,hi,p⟩;have q1:=hl i σ H hi p;by_cases hlt:i < xs.length
 ·refine .inr ⟨⟨xs,xs[i],q1,by simp [hlt]⟩,Pv (i+1),λσ' H' p'=>⟨xs.length - (i+1),by lia,rfl,hlt,p'⟩,λx H' y=>?_⟩;obtain ⟨r,x',rfl,hr,rfl,e1⟩:=y;exact hs i x' σ _ r (e1 xs q1) p hr
 ·have e:i=xs.length:=by lia
  subst e;exact .inl ⟨⟨xs,q1,aw _⟩,hd σ H p⟩
section
variable {X:Cx}
theorem NU (K:FG9) {e:Expr} {f:Str} {pos:Pos} {ta:TE} (he:PE X e ta) (hb:attributeBase e f X.env (eval e X.env)=eval e X.env) (hK:X.K=K:=by rfl):PE X (.Attribute e f pos) (Ph K ta f):=by subst hK;exact eJ he hb
end
theorem PV {K:FG9} {ta:TE} {f:Str} {σ:St} {H:Hp} {Q:VK} (h:ta σ H λx H1=>∃a C dx fs v,x=.ref a/\H1 a=some (.ins C dx fs)/\Kw K C/\jx K C f/\fs.lookup f=some v/\Q v H1):Ph K ta f σ H Q:=h
theorem Nv {K:FG9} {ta tv:TE} {f:Str} {D:Ends} {σ:St} {H:Hp} (h:tv σ H λy H1=>ta σ H1 λx H2=>∃a C dx fs,x=.ref a/\H2 a=some (.ins C dx fs)/\Kw K C/\jx K C f/\fs.length < 1000 /\
 D.nx σ (upd H2 a (.ins C dx (cz f y fs)))):Rp K ta tv f D σ H:=h
theorem Nz {C:Addr} {m:Str} {sp:Sp} {E:XK} {ta:TE} {t:TA} {σ:St} {H:Hp} {Q:VK} (h:ta σ H λx H1=>∃a dx fs,x=.ref a/\H1 a=some (.ins C dx fs)/\fs.lookup m=none /\
 t σ H1 λvs H2=>sp (x :: vs) H2 Q E):KW C m sp [] E ta t σ H Q:=by
 have e:(λ(x:V) H1=>∃a dx fs,x=.ref a/\H1 a=some (.ins C dx fs)/\fs.lookup m=none/\t σ H1 λvs H2=>sp (x :: (vs++[])) H2 Q E)=λx H1=>∃a dx fs,x=.ref a/\H1 a=some (.ins C dx fs)/\fs.lookup m=none/\t σ H1 λvs H2=>sp (x :: vs) H2 Q E:=by
  funext x H1;simp only[qe]
 show ta σ H (λ(x:V) H1=>∃a dx fs,x=.ref a/\H1 a=some (.ins C dx fs)/\fs.lookup m=none/\t σ H1 λvs H2=>sp (x :: (vs++[])) H2 Q E)
 rw[e];exact h
theorem NA {C:Addr} {sp:Sp} {E:XK} {t:TA} {σ:St} {H:Hp} {Q:VK} (h:t σ H λvs H1=>∀x dx,H1 x=none->H1 dx=none->dx≠x →
 sp (.ref x :: vs) (upd (upd H1 dx (.own x)) x (.ins C dx [])) (λv H2=>v=.non/\Q (.ref x) H2) E):Oz C sp [] E t σ H Q:=by
 have e:(λvs (H1:Hp)=>∀x dx,H1 x=none->H1 dx=none->dx≠x->sp (.ref x :: (vs++[])) (upd (upd H1 dx (.own x)) x (.ins C dx [])) (λv H2=>v=.non/\Q (.ref x) H2) E)=λvs H1=>∀x dx,H1 x=none->H1 dx=none->dx≠x->sp (.ref x :: vs) (upd (upd H1 dx (.own x)) x (.ins C dx [])) (λv H2=>v=.non/\Q (.ref x) H2) E:=by
  funext vs H1;simp only[qe]
 show t σ H (λvs (H1:Hp)=>∀x dx,H1 x=none->H1 dx=none->dx≠x->sp (.ref x :: (vs++[])) (upd (upd H1 dx (.own x)) x (.ins C dx [])) (λv H2=>v=.non/\Q (.ref x) H2) E)
 rw[e];exact h
def EI (x:Addr) (H H':Hp):Prop:=∀b o,H b=some o->b≠x->H' b=some o
theorem EI.upd {x:Addr} {H:Hp} {o:HO}:EI x H (L2.upd H x o):=λb u h n=>by rw[bf n];exact h
def tS (H:Hp) (x:Addr):Prop:=∃C dx fs,H x=some (.ins C dx fs)
section
variable {K:FG9} {H H' H0:Hp} {q:Rat} {v:V} {x p:Addr} {qs:List Rat} {rows:LR9}
theorem cA.exc (h:cA K H q v) (e:EI x H H') (hx:tS H x):cA K H' q v:=by
 obtain ⟨C,dx,fs,hx⟩:=hx;obtain ⟨r,er,s⟩:=h;refine ⟨r,er,?_⟩;rcases s with (h | ⟨o,h⟩) | h
 ·exact .inl (.inl (e _ _ h λz=>by rw[z,hx] at h;cases h))
 ·exact .inl (.inr ⟨o,e _ _ h λz=>by rw[z,hx] at h;cases h⟩)
 ·exact .inr h
theorem cL.exc (h:cL K H p qs) (e:EI x H H') (hx:tS H x):cL K H' p qs:=by
 obtain ⟨xs,g,r⟩:=h;have hx':=hx;obtain ⟨C,dx,fs,hx⟩:=hx;exact ⟨xs,e _ _ g (λz=>by rw[z,hx] at g;cases g),Paired.imp' (λ_ _ z=>z.exc e hx') r⟩
theorem cO.exc (h:cO K H0 H qs v) (e:EI x H H') (hx:tS H x):cO K H0 H' qs v:=by obtain ⟨q,a,b,c⟩:=h;exact ⟨q,a,b,c.exc e hx⟩
theorem bA.exc (h:bA K H0 H p rows) (e:EI x H H') (hx:tS H x):bA K H0 H' p rows:=by
 obtain ⟨xs,g,r,n⟩:=h;have hx':=hx;obtain ⟨C,dx,fs,hx⟩:=hx;exact ⟨xs,e _ _ g (λz=>by rw[z,hx] at g;cases g),Paired.imp' (λ_ _ z=>z.exc e hx') r,n⟩
end
def lZ (a b c:Addr) (n i o:Nat):List (Str×V):=cz "outs" (.int o) (cz "look" (.ref c) (cz "ins" (.int i) (cz "put" (.ref b) (cz "states" (.int n) (cz "move" (.ref a) [])))))
section
variable {a b c:Addr} {n i o:Nat}
theorem EV:(lZ a b c n i o).lookup ("look":Str)=some (.ref c):=by
 unfold lZ;rw[bG,if_neg (by decide +kernel),bG,if_pos rfl]
theorem yS:(lZ a b c n i o).lookup ("put":Str)=some (.ref b):=by
 unfold lZ;rw[bG,if_neg (by decide +kernel),bG,if_neg (by decide +kernel),bG,if_neg (by decide +kernel),bG,if_pos rfl]
theorem iE:(lZ a b c n i o).lookup ("states":Str)=some (.int n):=by
 unfold lZ;rw[bG,if_neg (by decide +kernel),bG,if_neg (by decide +kernel),bG,if_neg (by decide +kernel),bG,if_neg (by decide +kernel),bG,if_pos rfl]
theorem zm:(lZ a b c n i o).lookup ("move":Str)=some (.ref a):=by
 unfold lZ;rw[bG,if_neg (by decide +kernel),bG,if_neg (by decide +kernel),bG,if_neg (by decide +kernel),bG,if_neg (by decide +kernel),bG,if_neg (by decide +kernel),bG,if_pos rfl]
theorem GN {m:Str} (h1:¬m="outs") (h2:¬m="look") (h3:¬m="ins") (h4:¬m="put") (h5:¬m="states") (h6:¬m="move"):(lZ a b c n i o).lookup m=none:=by
 unfold lZ;rw[bG,if_neg h1,bG,if_neg h2,bG,if_neg h3,bG,if_neg h4,bG,if_neg h5,bG,if_neg h6];rfl
theorem JE:(lZ a b c n i o).lookup ("moved":Str)=none:=GN (by decide +kernel) (by decide +kernel) (by decide +kernel) (by decide +kernel) (by decide +kernel) (by decide +kernel)
theorem K4:(lZ a b c n i o).lookup ("seen":Str)=none:=GN (by decide +kernel) (by decide +kernel) (by decide +kernel) (by decide +kernel) (by decide +kernel) (by decide +kernel)
theorem zj:(lZ a b c n i o).lookup ("turned":Str)=none:=GN (by decide +kernel) (by decide +kernel) (by decide +kernel) (by decide +kernel) (by decide +kernel) (by decide +kernel)
end
theorem dQ {k:Str} {v:V}:∀{l:List (Str×V)},(cz k v l).length<=l.length+1
 | []=>aw _
 | (x,y) :: r=>by
  unfold cz
  split
  ·simp
  ·have:=dQ (k:=k) (v:=v) (l:=r);simp only[bg]
   lia
structure fF (mv pt lk:LR9):Prop where
 n8:mv.length<=8
 i4:pt.length<=4
 o4:lk.length<=4
 mw:∀xs∈mv,xs.length=mv.length
 pw:∀xs∈pt,xs.length=mv.length
 lw:∀xs∈lk,xs.length=mv.length
def tR (mv pt lk:LR9):Prop:=∃M V:Nat,0 < M/\M<=2^800/\V<=2^400/\GF M V mv/\GF M V pt/\GF M V lk
def kL (K:FG9) (H0 H:Hp) (C p:Addr) (mv pt lk:LR9):Prop:=∃dx a b c,H p=some (.ins C dx (lZ a b c mv.length pt.length lk.length))/\H0 a=none/\H0 b=none/\H0 c=none/\bA K H0 H a mv/\bA K H0 H b pt/\bA K H0 H c lk
section
variable {K:FG9} {H H' H0 H1:Hp} {C p b:Addr} {mv pt lk:LR9}
theorem kL.same (h:kL K H0 H C p mv pt lk) (e:aF H H'):kL K H0 H' C p mv pt lk:=by obtain ⟨dx,a,b,c,g,n1,n2,n3,g1,g2,g3⟩:=h;exact ⟨dx,a,b,c,e _ _ g,n1,n2,n3,g1.same e,g2.same e,g3.same e⟩
theorem kL.upto (h:kL K H0 H C p mv pt lk) (u:c6 b H H') (B:ib H b) (nb:H0 b≠none):kL K H0 H' C p mv pt lk:=by
 obtain ⟨dx,a,b',c,g,n1,n2,n3,g1,g2,g3⟩:=h;refine ⟨dx,a,b',c,u.other (λz=>by obtain ⟨_,_,_,_,_,e,_⟩:=B;rw[z,e] at g;cases g) g,n1,n2,n3,g1.upto u B (λz=>nb (by rw[<- z];exact n1)) nb,g2.upto u B (λz=>nb (by rw[<- z];exact n2)) nb,g3.upto u B (λz=>nb (by rw[<- z];exact n3)) nb⟩
theorem kL.weak (h:kL K H0 H C p mv pt lk) (e:aF H1 H0):kL K H1 H C p mv pt lk:=by obtain ⟨dx,a,b,c,g,n1,n2,n3,g1,g2,g3⟩:=h;exact ⟨dx,a,b,c,g,e.none n1,e.none n2,e.none n3,g1.weak e,g2.weak e,g3.weak e⟩
theorem tR.fits (h:tR mv pt lk) {l:List Rat} (hl:∀x∈l,(∃xs∈mv,x∈xs)\/(∃xs∈pt,x∈xs)\/(∃xs∈lk,x∈xs)\/x=0):Fits l:=by
 obtain ⟨M,V,h0,h1,h2,h3,h4,h5⟩:=h;refine ⟨M,V,h0,ai h1 (av (by decide) (by decide)),ai h2 (av (by decide) (by decide)),λx hx=>?_⟩;rcases hl x hx with ⟨xs,a,b⟩ | ⟨xs,a,b⟩ | ⟨xs,a,b⟩ | rfl
 ·exact h3 xs a x b
 ·exact h4 xs a x b
 ·exact h5 xs a x b
 ·exact Fr.zero
theorem tR.turn (h:tR mv pt lk):tR (bJ mv mv.length) lk pt:=by
 obtain ⟨M,V,h0,h1,h2,h3,h4,h5⟩:=h;refine ⟨M,V,h0,h1,h2,λys hy y hy'=>?_,h5,h4⟩;obtain ⟨j,_,rfl⟩:=az.mp hy;obtain ⟨xs,hx,rfl⟩:=az.mp hy';by_cases hj:j < xs.length
 ·rw[aa,ag hj];exact h3 xs hx _ (aL hj)
 ·rw[aa,aO (by lia)];exact Fr.zero
theorem fF.turn (h:fF mv pt lk):fF (bJ mv mv.length) lk pt:=⟨by rw[cW];exact h.n8,h.o4,h.i4,λxs hx=>by rw[wq xs hx,cW],λxs hx=>by rw[cW];exact h.lw xs hx,λxs hx=>by rw[cW];exact h.pw xs hx⟩
end
def JF:Sp:=λvs H Q _=>∃i:Int,vs=[.int i]/\Q (.bl true) H
def JJ (K:FG9):Sp:=λvs H Q _=>∃x n,vs=[x]/\F3 K H x n/\yB n/\∀H',aF H H'->Q (.bl true) H'
inductive Iz (vs:List V) (H:Hp) (Q:VK) (E9:XK):Prop
 | mk (p:Addr) (xs:List V) (a m:Int):vs=[.ref p,.int a,.int m]->H p=some (.lst xs)->(xs.length:Int)<=m->Q .non H->Iz  vs H Q E9
inductive IB (K:FG9) (vs:List V) (H:Hp) (Q:VK) (E9:XK):Prop
 | mk (p:Addr) (H0:Hp) (rows:LR9) (w:Nat):vs=[.ref p,.int w]->bA K H0 H p rows->rows.length<=1000->w<=1000->((∀xs∈rows,xs.length=w/\∀x∈xs,yB (nm x)))->(∀r H',H r=none->aF H H'->bA K H H' r rows->Q (.ref r) H')->IB K vs H Q E9
def QQ (rows:LR9):Prop:=∀xs∈rows,∀x∈xs,yB (nm x)
inductive IA (K:FG9) (C:Addr) (vs:List V) (H:Hp) (Q:VK) (E9:XK):Prop
 | mk (x dx p q r:Addr) (Hb H0 H1 H2:Hp) (mv pt lk:LR9):vs=[.ref x,.ref p,.ref q,.ref r]->Hb x=none->Hb dx=none->dx≠x->H=upd (upd Hb dx (.own x)) x (.ins C dx [])->bA K H0 Hb p mv->bA K H1 Hb q pt->bA K H2 Hb r lk->fF mv pt lk->QQ mv->QQ pt->QQ lk->(∀H',aF Hb H'->kL K Hb H' C x mv pt lk->Q .non H')->IA K C vs H Q E9
def fX (mv pt:LR9) (st pu:List Rat):List Rat:=List.zipWith (λline col=>cG (line++col) (st++pu)) mv (bJ pt mv.length)
def seenQ (lk:LR9) (st:List Rat):List Rat:=lk.map λxs=>cG xs st
inductive zw (K:FG9) (C:Addr) (vs:List V) (H:Hp) (Q:VK) (E9:XK):Prop
 | mk (x:Addr) (H0:Hp) (mv pt lk:LR9):vs=[.ref x]->kL K H0 H C x mv pt lk->fF mv pt lk->tR mv pt lk->(∀r H',H r=none->aF H H'->kL K H H' C r (bJ mv mv.length) lk pt->Q (.ref r) H')->zw K C vs H Q E9
theorem tR.ok {mv pt lk:LR9} (h:tR mv pt lk):QQ mv/\QQ pt/\QQ lk :=
 ⟨λxs hx x hx'=>(h.fits (l:=xs) λy hy=>.inl ⟨xs,hx,hy⟩).ok hx',λxs hx x hx'=>(h.fits (l:=xs) λy hy=>.inr (.inl ⟨xs,hx,hy⟩)).ok hx',λxs hx x hx'=>(h.fits (l:=xs) λy hy=>.inr (.inr (.inl ⟨xs,hx,hy⟩))).ok hx'⟩
def fL (K:FG9) (A:Addr->Prop) (H:Hp) (n:Nat) (C:Rat->Prop) (x:V):Prop:=∃q qs,x=V.ref q/\A q/\cL K H q qs/\qs.length=n/\∀y∈qs,C y
section
variable {K:FG9} {A A':Addr->Prop} {H H' H0:Hp} {n:Nat} {C C':Rat->Prop} {x v:V} {q b l p:Addr} {xs zs:List V} {y:Rat} {o:HO}
theorem fL.same (h:fL K A H n C x) (e:aF H H'):fL K A H' n C x:=by obtain ⟨q,qs,a,c,r,z⟩:=h;exact ⟨q,qs,a,c,r.same e,z⟩
theorem fL.upto (h:fL K A H n C x) (u:c6 b H H') (B:ib H b) (nb:¬A b):fL K A H' n C x:=by obtain ⟨q,qs,a,c,r,z⟩:=h;exact ⟨q,qs,a,c,r.upto u B (λe=>nb (by rw[<- e];exact c)),z⟩
theorem fL.other (h:fL K A H n C x) (hl:H l=some (.lst zs)) (nl:¬A l):fL K A (upd H l o) n C x:=by obtain ⟨q,qs,a,c,r,z⟩:=h;exact ⟨q,qs,a,c,r.updL hl (λe=>nl (by rw[<- e];exact c)),z⟩
theorem fL.weak (h:fL K A H n C x) (w:∀q,A q->A' q) (wc:∀y,C y->C' y):fL K A' H n C' x:=by obtain ⟨q,qs,a,c,r,l,z⟩:=h;exact ⟨q,qs,a,w q c,r,l,λy hy=>wc y (z y hy)⟩
theorem Ab {α β:Type} {F:α->β->Prop} {a:α} {b:β} (h:F a b):∀{l1:List α} {l2:List β} (j:Nat),Paired F l1 l2->Paired F (l1.set j a) (l2.set j b)
 | _,_,_,.nil=>.nil
 | _,_,0,.cons _ t=>.cons h t
 | _,_,j+1,.cons r t=>.cons r (Ab h j t)
theorem fL.put (h:fL K A H n C x) (hq:H q=some (.lst zs)) (hv:cA K H y v) (hc:C y) (j:Nat):fL K A (upd H q (.lst (zs.set j v))) n C x:=by
 obtain ⟨q1,qs,rfl,a,⟨zs1,g1,pr⟩,l1,c1⟩:=h;by_cases e:q1=q
 ·subst e;rw[hq] at g1;cases g1;refine ⟨q1,qs.set j y,rfl,a,⟨_,aE,Ab (hv.updL hq) j (Paired.imp' (λ_ _ z=>z.updL hq) pr)⟩,by rw[dU];exact l1,λz hz=>?_⟩;rcases cM hz with hz | rfl
  ·exact c1 z hz
  ·exact hc
 ·exact ⟨q1,qs,rfl,a,⟨zs1,by rw[bf e];exact g1,Paired.imp' (λ_ _ z=>z.updL hq) pr⟩,l1,c1⟩
theorem fL.at (h:fL K A H n C x):∃q zs qs,x=V.ref q/\A q/\H q=some (.lst zs)/\zs.length=n/\Paired (cA K H) qs zs/\qs.length=n/\∀y∈qs,C y:=by obtain ⟨q,qs,a,c,⟨zs,g,pr⟩,l,z⟩:=h;exact ⟨q,zs,qs,a,c,g,by rw[<- pr.length];exact l,pr,l,z⟩
end
theorem rJ {W:Nat} {i:Int} (h:i.natAbs<=W) (hW:1<=W):Dr W (i:Rat):=⟨h,hW⟩
def Su (K:FG9) (A:Addr->Prop) (H:Hp) (n:Nat) (C:Rat->Prop) (p:Addr) (m:Nat):Prop:=∃us,H p=some (.lst us)/\us.length=m/\¬A p/\∀x∈us,fL K A H n C x
structure F4 (A:Addr->Prop) (m p l b q0:Addr):Prop where
 am:¬A m
 ap:¬A p
 al:¬A l
 ab:¬A b
 aq:¬A q0
 mb:m≠b
 pb:p≠b
 lb:l≠b
 mp:m≠p
 ml:m≠l
 mq:m≠q0
theorem Ja {M:Nat} {z:Int} (h:z.natAbs<=2):Fr 1 2 (z:Rat):=Fr.int h
theorem Ej {M W:Nat} {a c:Rat} {z:Int} (hz:z.natAbs<=2) (ha:Fr M W a) (hc:Fr M W c):Fr M (3*W) (a+(z:Rat)*c):=by
 have h:=(Ja (M:=M) hz).mul hc;rw[wa] at h;exact (ha.add h).mono (by lia)
theorem Dt {z:Int} (h:z.natAbs<=1000):kK (z:Rat):=HX (M:=1) (V:=1000) (by decide) (bW) (ai (show 1000<=2^10 by decide) (av (by decide) (by decide))) (Fr.int h)
theorem zi {M W:Nat} {c:Rat} {z:Int} (hz:z.natAbs<=2) (hc:Fr M W c) (h0:0 < M) (h1:M<=2^800) (hW:W<=2^140):kK ((z:Rat)*c):=by
 have h:=(Ja (M:=M) hz).mul hc;rw[wa] at h;refine HX h0 (ai h1 (av (by decide) (by decide))) (ai (aU 2 hW) ?_) h;rw[show 2*2^140=2^141 by rw[gi,cH]];exact av (by decide) (by decide)
def gY (A:Addr->Prop) (b m:Addr) (H H':Hp):Prop:=∀c u,H c=some u->c≠b->¬A c->c≠m->H' c=some u
theorem gY.same {A:Addr->Prop} {b m:Addr} {H H1 H2:Hp} (h:gY A b m H H1) (s:aF H1 H2):gY A b m H H2:=λc u e n1 n2 n3=>s _ _ (h c u e n1 n2 n3)
theorem gY.upto {A:Addr->Prop} {b m:Addr} {H H1 H2:Hp} (h:gY A b m H H1) (s:c6 b H1 H2):gY A b m H H2:=λc u e n1 n2 n3=>s.1 _ _ (h c u e n1 n2 n3) n1
theorem gY.upd {A:Addr->Prop} {b m q:Addr} {H H1:Hp} {o:HO} (h:gY A b m H H1) (hq:A q\/q=m):gY A b m H (L2.upd H1 q o):=λc u e n1 n2 n3=>by
 rw[bf]
 ·exact h c u e n1 n2 n3
 ·rintro rfl;rcases hq with hq | hq
  ·exact n2 hq
  ·exact n3 hq
theorem gY.new {A:Addr->Prop} {b m r:Addr} {H H1:Hp} (h:gY A b m H H1) (hA:∀q,H q=none->A q) (B:ib H1 b) (hm:H1 m≠none) (hr:H1 r=none):A r:=by
 by_cases z:A r
 ·exact z
 ·cases e:H r with
  | none=>exact hA r e
  | some u =>
   have:=h r u e (λy=>B.at (by rw[<- y];exact hr)) z (λy=>hm (by rw[<- y];exact hr));rw[hr] at this;cases this
structure Jx (K:FG9) (A:Addr->Prop) (n:Nat) (C:Rat->Prop) (r p b q0:Addr) (us:List V) (H0 H:Hp):Prop where
 gr:H r=some (.lst us)
 ru:∀x∈us,fL K A H n C x
 rp:fL K A H n C (.ref p)
 bag:ib H b
 inn:Inner H b q0
 up:c6 b H0 H
section
variable {K:FG9} {A:Addr->Prop} {n:Nat} {C:Rat->Prop} {r p b q0:Addr} {us:List V} {H0 H H':Hp} {y:Rat} {v:V}
theorem Jx.same (h:Jx K A n C r p b q0 us H0 H) (e:aF H H'):Jx K A n C r p b q0 us H0 H':=⟨e _ _ h.gr,λx hx=>(h.ru x hx).same e,h.rp.same e,h.bag.same e,(e.upto (p:=b)).2 _ h.inn,h.up.same e⟩
theorem Jx.upto (h:Jx K A n C r p b q0 us H0 H) (u:c6 b H H') (B:ib H' b) (nb:¬A b) (rb:r≠b):Jx K A n C r p b q0 us H0 H':=⟨u.other rb h.gr,λx hx=>(h.ru x hx).upto u h.bag nb,h.rp.upto u h.bag nb,B,u.2 _ h.inn,h.up.trans u⟩
theorem Jx.put (h:Jx K A n C r p b q0 us H0 H) (ap:A p) (nr:¬A r) (nb:¬A b) (nq:¬A q0) (hp:H0 p=none) (hv:cA K H y v) (hc:C y) (j:Nat):∃zs,H p=some (.lst zs)/\zs.length=n/\Jx K A n C r p b q0 us H0 (upd H p (.lst (zs.set j v))):=by
 obtain ⟨q,zs,qs,e,a,g,l,_⟩:=h.rp.at;cases e;have ne:∀{z},¬A z->z≠p:=λh e=>h (by rw[e];exact ap)
 exact ⟨zs,g,l,by rw[bf (ne nr)];exact h.gr,λx hx=>(h.ru x hx).put g hv hc j,h.rp.put g hv hc j,h.bag.upd h.inn (ne nb).symm (ne nq).symm,h.inn.upd (ne nb).symm,h.up.after hp⟩
end
theorem zX {K:FG9} {A:Addr->Prop} {H:Hp} {n:Nat} {C:Rat->Prop} {us:List V} (h:∀x∈us,fL K A H n C x):∃rows:LR9,Paired (λqs x=>∃q,x=V.ref q/\A q/\cL K H q qs) rows us/\rows.length=us.length/\∀qs∈rows,qs.length=n/\∀y∈qs,C y:=by
 induction us with
 | nil=>exact ⟨[],.nil,rfl,λ_ z=>nomatch z⟩
 | cons u us ih =>
  obtain ⟨rows,pr,l,hr⟩:=ih λx hx=>h x (.tail _ hx)
  obtain ⟨q,qs,e,a,r,l1,c⟩:=h u (.head _);refine ⟨qs :: rows,.cons ⟨q,e,a,r⟩ pr,by simp [l],λzs hz=>?_⟩;rcases aG.mp hz with rfl | hz
  ·exact ⟨l1,c⟩
  ·exact hr zs hz
theorem G6 {K:FG9} {A:Addr->Prop} {H:Hp} {n:Nat} {C:Rat->Prop} {us:List V} {rows:LR9} (pr:Paired (λqs x=>∃q,x=V.ref q/\A q/\cL K H q qs) rows us) (h:∀qs∈rows,qs.length=n/\∀y∈qs,C y):∀x∈us,fL K A H n C x:=λx hx=>by
 obtain ⟨qs,hq,q,e,a,r⟩:=dn pr hx;exact ⟨q,qs,e,a,r,(h qs hq).1,(h qs hq).2⟩
theorem CG {n:Nat}:∀{rows:LR9},(∀xs∈rows,xs.length=n)->rows.flatten.length=rows.length*n
 | [],_=>by simp
 | xs :: rows,h=>by
  rw[JA,ao,h xs (.head _),CG λys hy=>h ys (.tail _ hy),bg,j7,sH]
theorem Nn {c n:Nat} {rows:LR9} (h:∀qs∈rows,qs.length=n/\∀y∈qs,Dr (2^c) y):∃M:Nat,0 < M/\M<=2^(c*(rows.length*n))/\∀qs∈rows,∀y∈qs,Fr M (2^c) y:=by
 have fl:rows.flatten.length=rows.length*n:=CG λys hy=>(h ys hy).1
 have hm:∀a∈rows.flatten.map (·.den),0 < a/\a<=2^c:=λa ha=>by
  obtain ⟨y,hy,rfl⟩:=az.mp ha;obtain ⟨qs,hq,hy⟩:=yF.mp hy;exact ⟨y.den_pos,((h qs hq).2 y hy).2⟩
 refine ⟨uP (rows.flatten.map (·.den)),xf λa ha=>(hm a ha).1,?_,λqs hq y hy=>?_⟩
 ·have:=z6 (k:=c) (l:=rows.flatten.map (·.den)) λa ha=>(hm a ha).2
  rwa [ah,fl] at this
 ·exact (Fr.own y ((h qs hq).2 y hy).1).dvd (xg (az.mpr ⟨y,yF.mpr ⟨qs,hq,hy⟩,rfl⟩))
theorem jO {K:FG9} {A:Addr->Prop} {H H0:Hp} {n m:Nat} {C:Rat->Prop} {p:Addr} (h:Su K A H n C p m) (w:∀q,A q->H0 q=none):∃rows,bA K H0 H p rows/\rows.length=m/\∀qs∈rows,qs.length=n/\∀y∈qs,C y:=by
 obtain ⟨us,g,l,a,r⟩:=h;obtain ⟨rows,pr,lr,hr⟩:=zX r;refine ⟨rows,⟨us,g,Paired.imp' (λ_ _ ⟨q,e,aq,rq⟩=>⟨q,e,w q aq,rq⟩) pr,λhm=>?_⟩,by rw[lr,l],hr⟩;obtain ⟨q,_,e,aq,_⟩:=r _ hm;cases e;exact a aq
theorem gY.trans {A:Addr->Prop} {b m:Addr} {H H1 H2:Hp} (h:gY A b m H H1) (h':gY A b m H1 H2):gY A b m H H2:=λc u e n1 n2 n3=>h' c u (h c u e n1 n2 n3) n1 n2 n3
theorem G7 {K:FG9} {A:Addr->Prop} {H0 H:Hp} {n:Nat} {C:Rat->Prop} {us:List V} {rows:LR9} (pr:Paired (cO K H0 H) rows us) (h:∀qs∈rows,qs.length=n/\∀y∈qs,C y) (w:∀q,V.ref q∈us->H0 q=none->H q≠none->A q):∀x∈us,fL K A H n C x:=λx hx=>by
 obtain ⟨qs,hq,q,e,a,r⟩:=dn pr hx;subst e;exact ⟨q,qs,rfl,w q hx a (by obtain ⟨_,g,_⟩:=r;rw[g];simp),r,(h qs hq).1,(h qs hq).2⟩
def JG:Sp:=λvs H Q _=>∃b,vs=[.ref b]/\ib H b/\∀r (n i o w:Nat) H',H' r=some (.tup [.int n,.int i,.int o,.int w])->n<=5->i<=4->o<=4->(w=4\/w=9\/(w=1000000/\n<=2))->(n=5->i<=2/\o<=2)->ib H' b->c6 b H H'->Q (.ref r) H'
def fM (K:FG9) (H0 H:Hp) (r:Addr) (mv pt lk:LR9):Prop:=∃m p l,H r=some (.tup [.ref m,.ref p,.ref l])/\H0 m=none/\H0 p=none/\H0 l=none/\bA K H0 H m mv/\bA K H0 H p pt/\bA K H0 H l lk
section
variable {K:FG9} {H H' H0 H1:Hp} {r b:Addr} {mv pt lk:LR9}
theorem fM.same (h:fM K H0 H r mv pt lk) (e:aF H H'):fM K H0 H' r mv pt lk:=by obtain ⟨m,p,l,g,n1,n2,n3,g1,g2,g3⟩:=h;exact ⟨m,p,l,e _ _ g,n1,n2,n3,g1.same e,g2.same e,g3.same e⟩
theorem fM.upto (h:fM K H0 H r mv pt lk) (u:c6 b H H') (B:ib H b) (nb:H0 b≠none):fM K H0 H' r mv pt lk:=by
 obtain ⟨m,p,l,g,n1,n2,n3,g1,g2,g3⟩:=h;exact ⟨m,p,l,u.tup B g,n1,n2,n3,g1.upto u B (λz=>nb (by rw[<- z];exact n1)) nb,g2.upto u B (λz=>nb (by rw[<- z];exact n2)) nb,g3.upto u B (λz=>nb (by rw[<- z];exact n3)) nb⟩
theorem fM.weak (h:fM K H0 H r mv pt lk) (e:∀q,H0 q=none->H1 q=none):fM K H1 H r mv pt lk:=by
 obtain ⟨m,p,l,g,n1,n2,n3,⟨x1,y1,z1,w1⟩,⟨x2,y2,z2,w2⟩,⟨x3,y3,z3,w3⟩⟩:=h;exact ⟨m,p,l,g,e _ n1,e _ n2,e _ n3,⟨x1,y1,Paired.imp' (λ_ _ ⟨q,a,b,c⟩=>⟨q,a,e _ b,c⟩) z1,w1⟩,⟨x2,y2,Paired.imp' (λ_ _ ⟨q,a,b,c⟩=>⟨q,a,e _ b,c⟩) z2,w2⟩,⟨x3,y3,Paired.imp' (λ_ _ ⟨q,a,b,c⟩=>⟨q,a,e _ b,c⟩) z3,w3⟩⟩
end
inductive zx (K:FG9) (C:Addr) (vs:List V) (H:Hp) (Q:VK) (E9:XK):Prop
 | mk (r:Addr) (H0:Hp) (mv pt lk:LR9):vs=[.ref r]->fM K H0 H r mv pt lk->fF mv pt lk->tR mv pt lk->(∀x H',H x=none->aF H H'->kL K H H' C x mv pt lk->Q (.ref x) H')->zx K C vs H Q E9
def nextK (mv pt:LR9) (st pu:List Rat) (k:Nat):List Rat:=List.zipWith (λline col=>cG (line++col.take k) (st++pu.take k)) mv (bJ pt mv.length)
theorem iM {mv pt:LR9} {st pu:List Rat} {k:Nat}:(nextK mv pt st pu k).length=mv.length:=by unfold nextK;rw[bO,cW];lia
theorem rY {mv pt:LR9} {st pu:List Rat} {k:Nat} (h1:pt.length<=k) (h2:pu.length<=k):nextK mv pt st pu k=fX mv pt st pu:=by
 unfold nextK fX;apply jC;intro i;rw[bS,bS];cases e1:mv[i]? with
 | none=>rfl
 | some line =>
  cases e2:(bJ pt mv.length)[i]? with
  | none=>rfl
  | some col =>
   have:=wq col (au e2);show some _=some _
   rw[aI (by lia),aI h2]
theorem Ir {rows:LR9} {w i:Nat} (h:i < w):(bJ rows w)[i]?=some (rows.map λxs=>xs.getD i 0):=by
 unfold bJ;rw[aD,cV h];rfl
theorem HK {mv pt:LR9} {st pu:List Rat}:nextK mv pt st pu 0=mv.map λxs=>cG xs st:=by
 unfold nextK;apply jC;intro i;rw[bS,aD];by_cases hi:i < mv.length
 ·rw[Ir hi,ag hi];simp
 ·rw[aO (by lia)];rfl
theorem Ap {mv pt:LR9} {st pu:List Rat} {k i:Nat} (hi:i < mv.length):(nextK mv pt st pu k).getD i 0=cG (mv[i]++(pt.map λxs=>xs.getD i 0).take k) (st++pu.take k):=by
 rw[aa];unfold nextK;rw[bS,ag hi,Ir hi];rfl
theorem rK {as bs xs ys:List Rat} (h:as.length=xs.length):cG (as++bs) (xs++ys)=cG as xs+cG bs ys:=by
 unfold cG;rw[List.zipWith_append h,List.sum_append]
theorem HL {mv pt:LR9} {st pu:List Rat} {k:Nat} (hm:∀xs∈mv,xs.length=st.length) (h1:k < pt.length) (h2:k < pu.length) (hw:(pt[k]).length=mv.length) :
  List.zipWith (λx y=>x+y) (nextK mv pt st pu k) ((pt[k]).map λy=>pu[k]*y)=nextK mv pt st pu (k+1):=by
 have l1:((pt[k]).map λy=>pu[k]*y).length=mv.length:=by rw[ah,hw]
 rw[BR (by rw[l1,iM])];apply jC;intro i;rw[aD,iM];by_cases hi:i < mv.length
 ·have e0:(nextK mv pt st pu (k+1))[i]?=some ((nextK mv pt st pu (k+1)).getD i 0):=by
   rw[aa,ag (by rw[iM];exact hi)];rfl
  rw[cV hi,e0,Ap hi];have ll:=hm mv[i] (aL hi);have ec:(pt.map λxs=>xs.getD i 0)[k]?=some ((pt[k]).getD i 0):=by rw[aD,ag h1];rfl
  have ep:pu[k]?=some pu[k]:=ag h2
  have e3:((pt[k]).map λy=>pu[k]*y).getD i 0=pu[k]*(pt[k]).getD i 0:=by
   rw[getD_map (by rw[hw];exact hi),aa,ag (by rw[hw];exact hi)];rfl
  show some ((nextK mv pt st pu k).getD i 0+((pt[k]).map λy=>pu[k]*y).getD i 0)=some _
  rw[Ap hi,e3,take_snoc ec,take_snoc ep,rK ll,rK ll,rK (by rw[bR,bR,ah];lia)];have:cG [(pt[k]).getD i 0] [pu[k]]=(pt[k]).getD i 0*pu[k]:=by simp [cG,sG]
  rw[this];congr 1;grind
 ·rw[aO (by simpa using hi),aO (by rw[iM];lia)];rfl
theorem J8 {mv pt:LR9} {st pu:List Rat}:(fX mv pt st pu).length=mv.length:=by unfold fX;rw[bO,cW];lia
def kx (k j:Nat) (l:List Rat):Prop:=∃M V:Nat,0 < M/\M<=2^k/\V<=2^j/\∀x∈l,Fr M V x
section
variable {k j k' j':Nat} {l xs ys:List Rat} {x y:Rat}
theorem kx.szn (h:kx k j l) (hx:x∈l) (hk:k+j<=197500:=by decide):kK x:=by
 obtain ⟨M,V,h0,h1,h2,h3⟩:=h;obtain ⟨a,b⟩:=(h3 x hx).sz h0 h1 h2;exact ⟨a.mono (by lia),b.mono (by lia)⟩
theorem kx.rowM (h:kx k j l) (hk:k+j<=210000:=by decide):∃M,Ii M (l.map nm):=by
 obtain ⟨M,V,h0,h1,h2,h3⟩:=h;refine ⟨M,by lia,?_,λn hn=>?_⟩
 ·show ((M:Nat):Int).natAbs < 2^220000
  rw[cT];exact bo h1 (dB (by decide) (by lia))
 ·obtain ⟨x,hx,rfl⟩:=az.mp hn;obtain ⟨a,_⟩:=(h3 x hx).sz h0 h1 h2;exact ⟨gM x,(h3 x hx).den,a.mono (by lia)⟩
theorem kx.one (h:kx k j l) (hx:x∈l):kx k j [x]:=by
 obtain ⟨M,V,h0,h1,h2,h3⟩:=h;exact ⟨M,V,h0,h1,h2,λy hy=>by rw[cm.mp hy];exact h3 x hx⟩
theorem Mq (h:kx k j xs) (h':kx k' j' ys) (hl:xs.length<=1000) (i:Nat) (hk:(k+k')+(j+j')<=196500:=by decide):kK (cG (xs.take i) (ys.take i)):=by
 obtain ⟨M,V,h0,h1,h2,h3⟩:=h;obtain ⟨N,W,k0,k1,k2,k3⟩:=h'
 have e:1000*(V*W)<=2^(10+(j+j')):=by
  rw[aY 2 10];exact aJ (by decide) (ai (aJ h2 k2) (by rw[<- aY];exact aw _))
 obtain ⟨a,b⟩:=((Fr.dot (λx hx=>h3 x (cb hx)) (λy hy=>k3 y (cb hy))).mono (aA _ (show (xs.take i).length<=1000 by rw[bR];lia))).sz (b7 h0 k0) (ai (aJ h1 k1) (by rw[<- aY];exact aw _)) e;exact ⟨a.mono (by lia),b.mono (by lia)⟩
theorem LJ (hx:kx k j [x]) (hy:kx k' j' [y]) (hk:(k+k')+(j+j')<=196500:=by decide):kK (x*y):=by
 obtain ⟨M,V,h0,h1,h2,h3⟩:=hx;obtain ⟨N,W,k0,k1,k2,k3⟩:=hy;obtain ⟨a,b⟩:=((h3 x (.head _)).mul (k3 y (.head _))).sz (b7 h0 k0) (ai (aJ h1 k1) (by rw[<- aY];exact aw _)) (ai (aJ h2 k2) (by rw[<- aY];exact aw _));exact ⟨a.mono (by lia),b.mono (by lia)⟩
def yO (xs ys:List Rat):Prop:=∃k j k' j':Nat,kx k j xs/\kx k' j' ys/\(k+k')+(j+j')<=196500
theorem yO.sys (h:kx 400 120 xs) (h':kx 1500 1800 ys):yO xs ys:=⟨_,_,_,_,h,h',by decide⟩
end
def Jv (mv pt lk:LR9):Prop:=∃M V:Nat,0 < M/\M<=2^400/\V<=2^120/\GF M V mv/\GF M V pt/\GF M V lk
section
variable {mv pt lk:LR9}
theorem Jv.fits (h:Jv mv pt lk) {l:List Rat} (hl:∀x∈l,(∃xs∈mv,x∈xs)\/(∃xs∈pt,x∈xs)\/(∃xs∈lk,x∈xs)\/x=0):kx 400 120 l:=by
 obtain ⟨M,V,h0,h1,h2,g1,g2,g3⟩:=h;refine ⟨M,V,h0,h1,h2,λx hx=>?_⟩;rcases hl x hx with ⟨xs,a,b⟩ | ⟨xs,a,b⟩ | ⟨xs,a,b⟩ | rfl
 ·exact g1 xs a x b
 ·exact g2 xs a x b
 ·exact g3 xs a x b
 ·exact Fr.zero
theorem Jv.sf (h:Jv mv pt lk):tR mv pt lk:=by obtain ⟨M,V,a,b,c,d⟩:=h;exact ⟨M,V,a,ai b (av (by decide) (by decide)),ai c (av (by decide) (by decide)),d⟩
end
inductive Dx (K:FG9) (vs:List V) (H:Hp) (Q:VK) (E9:XK):Prop
 | mk (p q:Addr) (xs ys:List Rat):vs=[.ref p,.ref q]->cL K H p xs->cL K H q ys->ys.length=xs.length->xs.length<=1000->yO xs ys->(∀r H',aF H H'->cA K H' (cG xs ys) (.ref r)->Q (.ref r) H')->Dx K vs H Q E9
inductive Dw (K:FG9) (vs:List V) (H:Hp) (Q:VK) (E9:XK):Prop
 | mk (p q:Addr) (H0:Hp) (rows:LR9) (ys:List Rat):vs=[.ref p,.ref q]->bA K H0 H p rows->cL K H q ys->rows.length<=1000->ys.length<=1000->((∀xs∈rows,xs.length=ys.length/\yO xs ys))->(∀r H',H r=none->aF H H'->cL K H' r (rows.map λxs=>cG xs ys)->Q (.ref r) H')->Dw K vs H Q E9
inductive Cg (K:FG9) (C:Addr) (vs:List V) (H:Hp) (Q:VK) (E9:XK):Prop
 | mk (x p q:Addr) (H0:Hp) (mv pt lk:LR9) (st pu:List Rat):vs=[.ref x,.ref p,.ref q]->kL K H0 H C x mv pt lk->fF mv pt lk->Jv mv pt lk->cL K H p st->cL K H q pu->st.length=mv.length->pu.length=pt.length->kx 1500 1800 (st++pu)->(∀r H',H r=none->aF H H'->cL K H' r (fX mv pt st pu)->Q (.ref r) H')->Cg K C vs H Q E9
inductive EZ (K:FG9) (C:Addr) (vs:List V) (H:Hp) (Q:VK) (E9:XK):Prop
 | mk (x p:Addr) (H0:Hp) (mv pt lk:LR9) (st:List Rat):vs=[.ref x,.ref p]->kL K H0 H C x mv pt lk->fF mv pt lk->Jv mv pt lk->cL K H p st->st.length=mv.length->kx 1500 1800 st->(∀r H',H r=none->aF H H'->cL K H' r (L2.seenQ lk st)->Q (.ref r) H')->EZ K C vs H Q E9
def pJ (mv pt:LR9) (st:List Rat) (pus:LR9) (k:Nat):List Rat:=(pus.take k).foldl (fX mv pt) st
def ir (mv pt:LR9) (st:List Rat) (pus:LR9):LR9:=(List.range (pus.length+1)).map (pJ mv pt st pus)
section
variable {mv pt lk pus:LR9} {st:List Rat} {k:Nat}
theorem qj {pu:List Rat} (h:pus[k]?=some pu):pJ mv pt st pus (k+1)=fX mv pt (pJ mv pt st pus k) pu:=by
 unfold pJ;rw[take_snoc h,List.foldl_append];rfl
theorem oq (h:st.length=mv.length):∀{k:Nat},k<=pus.length->(pJ mv pt st pus k).length=mv.length
 | 0,_=>h
 | k+1,hk=>by rw[qj (ag (show k < pus.length by lia)),J8]
theorem pe:(ir mv pt st pus).length=pus.length+1:=by unfold ir;rw[ah,cg]
theorem My (h:st.length=mv.length):∀xs∈ir mv pt st pus,xs.length=mv.length:=λxs hx=>by
 obtain ⟨k,hk,rfl⟩:=az.mp hx;exact oq h (by have:=fJ.mp hk;lia)
theorem so (h:k<=pus.length):(ir mv pt st pus)[k]?=some (pJ mv pt st pus k):=by
 unfold ir;rw[aD,cV (by lia)];rfl
def xI (mv pt:LR9) (st:List Rat) (pus:LR9):Prop:=∀k,k<=pus.length->∃N W:Nat,0 < N/\N<=2^1500/\W<=2^1800/\(∀x∈pJ mv pt st pus k,Fr N W x)/\∀xs∈pus,∀x∈xs,Fr N W x
theorem xI.both (h:xI mv pt st pus) (hk:k<=pus.length) {pu:List Rat} (hp:pu∈pus):kx 1500 1800 (pJ mv pt st pus k++pu):=by
 obtain ⟨N,W,a,b,c,d,e⟩:=h k hk;exact ⟨N,W,a,b,c,λx hx=>(ax.mp hx).elim (d x) (e pu hp x)⟩
theorem xI.state (h:xI mv pt st pus) (hk:k<=pus.length):kx 1500 1800 (pJ mv pt st pus k):=by
 obtain ⟨N,W,a,b,c,d,e⟩:=h k hk;exact ⟨N,W,a,b,c,d⟩
theorem xI.all (h:xI mv pt st pus):∀xs∈ir mv pt st pus,kx 1500 1800 xs:=λxs hx=>by
 obtain ⟨k,hk,rfl⟩:=az.mp hx;exact h.state (by have:=fJ.mp hk;lia)
theorem Dq {M W:Nat} {rows:LR9} {w:Nat} (h:GF M W rows):GF M W (bJ rows w):=λys hy y hy'=>by
 obtain ⟨j,_,rfl⟩:=az.mp hy;obtain ⟨xs,hx,rfl⟩:=az.mp hy';rw[aa];cases e:xs[j]? with
 | none=>exact Fr.zero
 | some z=>exact h xs hx z (au e)
end
def xA (K:FG9) (H:Hp) (l:Addr) (H':Hp) (xs:List Rat) (x:V):Prop:=∃q,x=.ref q/\H q=none/\q≠l/\cL K H' q xs
section
variable {K:FG9} {H H' H2:Hp} {l:Addr} {xs:List Rat} {x:V}
theorem xA.same (h:xA K H l H' xs x) (e:aF H' H2):xA K H l H2 xs x:=by obtain ⟨q,a,b,c,d⟩:=h;exact ⟨q,a,b,c,d.same e⟩
theorem xA.upd {ys:List V} {o:HO} (h:xA K H l H' xs x) (hl:H' l=some (.lst ys)):xA K H l (upd H' l o) xs x:=by obtain ⟨q,a,b,c,d⟩:=h;exact ⟨q,a,b,c,d.updL hl c⟩
theorem xA.rowF (h:xA K H l H' xs x):cO K H H' xs x:=by obtain ⟨q,a,b,_,d⟩:=h;exact ⟨q,a,b,d⟩
theorem JN {o:HO} (e:aF H H') (n:H l=none):aF H (upd H' l o):=λb u h=>by
 rw[bf (λz=>by rw[z,n] at h;cases h)];exact e b u h
theorem zY:∀{rows:LR9} {ys:List V},Paired (xA K H l H') rows ys->V.ref l∉ys
 | _,_,.nil=>by simp
 | _,_,.cons ⟨q,a,_,c,_⟩ r=>by
  intro hm;rcases aG.mp hm with e | hm
  ·rw[a] at e;cases e;exact c rfl
  ·exact zY r hm
end
inductive zI (K:FG9) (C:Addr) (vs:List V) (H:Hp) (Q:VK) (E9:XK):Prop
 | mk (x s p:Addr) (H0 H1:Hp) (mv pt lk pus:LR9) (st:List Rat):vs=[.ref x,.ref s,.ref p]->kL K H0 H C x mv pt lk->fF mv pt lk->Jv mv pt lk->cL K H s st->st.length=mv.length->bA K H1 H p pus->pus.length<=100->(∀xs∈pus,xs.length=pt.length)->xI mv pt st pus->(∀r H',H r=none->aF H H'->bA K H H' r (ir mv pt st pus)->Q (.ref r) H')->zI K C vs H Q E9
inductive Cj (K:FG9) (C:Addr) (vs:List V) (H:Hp) (Q:VK) (E9:XK):Prop
 | mk (x s p:Addr) (H0 H1:Hp) (mv pt lk pus:LR9) (st:List Rat):vs=[.ref x,.ref s,.ref p]->kL K H0 H C x mv pt lk->fF mv pt lk->Jv mv pt lk->cL K H s st->st.length=mv.length->bA K H1 H p pus->pus.length<=100->(∀xs∈pus,xs.length=pt.length)->xI mv pt st pus->(∀r H',H r=none->aF H H'->bA K H H' r ((ir mv pt st pus).map (L2.seenQ lk))->Q (.ref r) H')->Cj K C vs H Q E9
theorem Ki {c:Nat} {l:List Rat} (h:∀x∈l,Dr (2^c) x) (hc:c<=20):∃B:Nat,0 < B/\B<=2^(c*l.length+2)/\∀x∈l,Fr B (2^22) x:=by
 obtain ⟨M,h0,h1,h2⟩:=N8 (c:=c) (n:=l.length) (i:=0) (rows:=[]) Qr rfl h hc;refine ⟨M,h0,?_,h2 l (by simp)⟩;rw[Nat.zero_add,wa] at h1;exact h1
theorem AJ {i:Nat}:∀{pus:LR9},(∀xs∈pus,xs.length=i)->pus.flatten.length=pus.length*i
 | [],_=>by simp
 | x :: r,h=>by
  rw[JA,ao,h x (.head _),AJ (λxs hx=>h xs (.tail _ hx)),bg,j7]
  lia
theorem Rm {i:Int} (h:i=0\/i=1):Fr 1 1 (i:Rat):=Fr.int (by rcases h with rfl | rfl <;> decide)
end L2
namespace L2
abbrev iP:=Nat->Rat
def Bi (F:List iP->Rat) (r:Nat):List iP->List iP->Rat->Rat
 | _,[],_=>0
 | pre,v :: post,s=>s*v r*F (pre++post)+Bi F r (pre++[v]) post (-s)
def p7:List Nat->List iP->Rat
 | [],[]=>1
 | [],_ :: _=>0
 | r :: rs,vs=>Bi (λws=>p7 rs ws) r [] vs 1
theorem Eo {a b:List iP} {x:iP}:p7 [] (a++x :: b)=0:=by
 cases a <;> rfl
theorem Ed {F:List iP->Rat} {r:Nat} {f g h:iP} {x y:Rat} (hF:∀a b,F (a++h :: b)=x*F (a++f :: b)+y*F (a++g :: b)):∀(b p q:List iP) (s:Rat),Bi F r (p++h :: q) b s=x*Bi F r (p++f :: q) b s+y*Bi F r (p++g :: q) b s
 | [],p,q,s=>by simp only[Bi,fZ,sG]
 | v :: b,p,q,s=>by
  have i1:=hF p (q++b);have i2:=Ed (r:=r) hF b p (q++[v]) (-s);simp only[Bi,ck,ee] at i1 i2 ⊢;rw[i1,i2];grind
theorem IQ {F:List iP->Rat} {r:Nat} {f g h:iP} {x y:Rat} (hF:∀a b,F (a++h :: b)=x*F (a++f :: b)+y*F (a++g :: b)) (hr:h r=x*f r+y*g r):∀(a pre b:List iP) (s:Rat),Bi F r pre (a++h :: b) s=x*Bi F r pre (a++f :: b) s+y*Bi F r pre (a++g :: b) s
 | [],pre,b,s=>by
  have i2:=Ed (r:=r) hF b pre [] (-s);simp only[Bi,dk] at i2 ⊢;rw[i2,hr];grind
 | v :: a,pre,b,s=>by
  have i1:=hF (pre++a) b;have i2:=IQ hF hr a (pre++[v]) b (-s);simp only[Bi,ck,ee] at i1 i2 ⊢;rw[i1,i2];grind
theorem uz {f g h:iP} {x y:Rat}:∀{rs:List Nat},(∀r∈rs,h r=x*f r+y*g r)->∀a b,p7 rs (a++h :: b)=x*p7 rs (a++f :: b)+y*p7 rs (a++g :: b)
 | [],_,a,b=>by rw[Eo,Eo,Eo];grind
 | r :: rs,hr,a,b=>IQ (λa b=>uz (λr' h'=>hr r' (.tail _ h')) a b) (hr r (.head _)) a [] b 1
theorem En {h:iP} {rs:List Nat} (hr:∀r∈rs,h r=0) (a b:List iP):p7 rs (a++h :: b)=0:=by
 rw[uz (f:=h) (g:=h) (x:=0) (y:=0) (λr h'=>by rw[hr r h'];grind) a b];grind
theorem IS {F:List iP->Rat} {r:Nat} {x:iP} (hF:∀a b,F (a++x :: x :: b)=0):∀(b p q:List iP) (s:Rat),Bi F r (p++x :: x :: q) b s=0
 | [],p,q,s=>rfl
 | v :: b,p,q,s=>by
  have i1:=hF p (q++b);have i2:=IS (r:=r) hF b p (q++[v]) (-s);simp only[Bi,ck,ee] at i1 i2 ⊢;rw[i1,i2];grind
theorem IT {F:List iP->Rat} {r:Nat} {x:iP} (hF:∀a b,F (a++x :: x :: b)=0):∀(a pre b:List iP) (s:Rat),Bi F r pre (a++x :: x :: b) s=0
 | [],pre,b,s=>by
  have i2:=IS (r:=r) hF b pre [] (- -s);simp only[Bi,dk,ck,ee] at i2 ⊢;rw[i2];grind
 | v :: a,pre,b,s=>by
  have i1:=hF (pre++a) b;have i2:=IT (r:=r) hF a (pre++[v]) b (-s);simp only[Bi,ck,ee] at i1 i2 ⊢;rw[i1,i2];grind
theorem AL {x:iP}:∀{rs:List Nat} (a b:List iP),p7 rs (a++x :: x :: b)=0
 | [],a,b=>Eo
 | r :: rs,a,b=>IT (λa b=>AL a b) a [] b 1
theorem Ob {x y:iP} {rs:List Nat} (a b:List iP):p7 rs (a++x :: y :: b)=- p7 rs (a++y :: x :: b):=by
 have hr:∀r∈rs,(λr=>1*x r+1*y r) r=1*x r+1*y r:=λ_ _=>rfl
 have h0:=AL (x:=λr=>1*x r+1*y r) (rs:=rs) a b;have h1:=uz hr a ((λr=>1*x r+1*y r) :: b);have h2:=uz hr (a++[x]) b;have h3:=uz hr (a++[y]) b;have h4:=AL (x:=x) (rs:=rs) a b;have h5:=AL (x:=y) (rs:=rs) a b;simp only[ck,ee,dk] at h0 h1 h2 h3 h4 h5;rw[h1,h2,h3,h4,h5] at h0;grind
theorem Ep {x:iP} {rs:List Nat}:∀(b a c:List iP),p7 rs (a++x :: (b++x :: c))=0
 | [],a,c=>AL a c
 | y :: b,a,c=>by
  have:=Ep (x:=x) (rs:=rs) b (a++[y]) c;simp only[ck,ee,dk] at this;rw[ee,Ob,this];rfl
def bH:Nat->(Nat->Rat)->Rat
 | 0,_=>0
 | k+1,f=>bH k f+f k
theorem aV {f g:Nat->Rat}:∀{k:Nat},(∀j,j < k->f j=g j)->bH k f=bH k g
 | 0,_=>rfl
 | k+1,h=>by
  show bH k f+f k=bH k g+g k
  rw[aV λj hj=>h j (by lia),h k (by lia)]
theorem kU {f g:Nat->Rat}:∀{k:Nat},bH k (λj=>f j+g j)=bH k f+bH k g
 | 0=>by show (0:Rat)=0+0;grind
 | k+1=>by
  show bH k (λj=>f j+g j)+_=(bH k f+f k)+(bH k g+g k)
  rw[kU];grind
theorem cR {f:Nat->Rat} {c:Rat}:∀{k:Nat},bH k (λj=>c*f j)=c*bH k f
 | 0=>by show (0:Rat)=c*0;grind
 | k+1=>by
  show bH k (λj=>c*f j)+_=c*(bH k f+f k)
  rw[cR];grind
theorem cS {f:Nat->Rat}:∀{k:Nat},(∀j,j < k->f j=0)->bH k f=0
 | 0,_=>rfl
 | k+1,h=>by
  show bH k f+f k=0
  rw[cS λj hj=>h j (by lia),h k (by lia)];grind
theorem fP {f:Nat->Rat} {i:Nat}:∀{k:Nat},i < k->(∀j,j < k->j≠i->f j=0)->bH k f=f i
 | k+1,hi,h=>by
  show bH k f+f k=f i
  by_cases e:i=k
  ·subst e;rw[cS λj hj=>h j (by lia) (by lia)];grind
  ·rw[fP (by lia) λj hj=>h j (by lia),h k (by lia) (λz=>e z.symm)];grind
theorem fv {f:Nat->Nat->Rat} {m:Nat}:∀{k:Nat},bH k (λi=>bH m (f i))=bH m (λj=>bH k λi=>f i j)
 | 0=>(cS λ_ _=>rfl).symm
 | k+1=>by
  show bH k (λi=>bH m (f i))+bH m (f k)=bH m (λj=>bH k (λi=>f i j)+f k j)
  rw[fv,kU]
theorem Ib {rs:List Nat} {W:iP} {v:Nat->iP} {c:Nat->Rat} (a b:List iP):∀{k:Nat} {W:iP},(∀r∈rs,W r=bH k λj=>c j*v j r)->p7 rs (a++W :: b)=bH k λj=>c j*p7 rs (a++v j :: b)
 | 0,W,h=>En h a b
 | k+1,W,h=>by
  rw[uz (f:=λr=>bH k λj=>c j*v j r) (g:=v k) (x:=1) (y:=c k) (λr hr=>by rw[h r hr];show bH k _+_=_;grind) a b,Ib a b (k:=k) (W:=λr=>bH k λj=>c j*v j r) λr _=>rfl];show _=bH k _+_
  grind
end L2
namespace L2
open Nm
def w5 (f:Nat->Nat):Nat->List Nat
 | 0=>[]
 | k+1=>f k :: w5 f k
def pd (v:Nat->iP):Nat->List iP
 | 0=>[]
 | k+1=>v k :: pd v k
def KC (v:Nat->iP) (i:Nat):Nat->List iP
 | 0=>[]
 | k+1=>if k<=i then [] else v k :: KC v i k
theorem qU {f:Nat->Nat}:∀{k:Nat},(w5 f k).length=k
 | 0=>rfl
 | k+1=>by show (w5 f k).length+1=_;rw[qU]
theorem cw_len {v:Nat->iP}:∀{k:Nat},(pd v k).length=k
 | 0=>rfl
 | k+1=>by show (pd v k).length+1=_;rw[cw_len]
theorem mR {f:Nat->Nat} {r:Nat}:∀{k:Nat},r∈w5 f k->∃t,t < k/\r=f t
 | k+1,h=>by
  rcases aG.mp h with h | h
  ·exact ⟨k,by lia,h⟩
  ·obtain ⟨t,a,b⟩:=mR h;exact ⟨t,by lia,b⟩
theorem zZ {f g:Nat->Nat}:∀{k:Nat},(∀j,j < k->f j=g j)->w5 f k=w5 g k
 | 0,_=>rfl
 | k+1,h=>by
  show f k :: w5 f k=g k :: w5 g k
  rw[h k (by lia),zZ λj hj=>h j (by lia)]
theorem cw_congr {f g:Nat->iP}:∀{k:Nat},(∀j,j < k->f j=g j)->pd f k=pd g k
 | 0,_=>rfl
 | k+1,h=>by
  show f k :: pd f k=g k :: pd g k
  rw[h k (by lia),cw_congr λj hj=>h j (by lia)]
theorem cw_mem {v:Nat->iP} {j:Nat}:∀{k:Nat},j < k->v j∈pd v k
 | k+1,h=>by
  by_cases e:j=k
  ·subst e;exact .head _
  ·exact .tail _ (cw_mem (by lia))
theorem cw_in {v:Nat->iP} {x:iP}:∀{k:Nat},x∈pd v k->∃t,t < k/\x=v t
 | k+1,h=>by
  rcases aG.mp h with h | h
  ·exact ⟨k,by lia,h⟩
  ·obtain ⟨t,a,b⟩:=cw_in h;exact ⟨t,by lia,b⟩
theorem Mv {v:Nat->iP} {i j:Nat} (h1:i < j):∀{k:Nat},j < k->v j∈KC v i k
 | k+1,h=>by
  show v j∈if k<=i then [] else v k :: KC v i k
  rw[if_neg (by lia)];by_cases e:j=k
  ·subst e;exact .head _
  ·exact .tail _ (Mv h1 (by lia))
theorem FP {v:Nat->iP} {i:Nat} {x:iP}:∀{k:Nat},x∈KC v i k->∃t,t < k/\x=v t
 | k+1,h=>by
  have h:x∈if k<=i then [] else v k :: KC v i k:=h
  split at h
  ·cases h
  ·rcases aG.mp h with h | h
   ·exact ⟨k,by lia,h⟩
   ·obtain ⟨t,a,b⟩:=FP h;exact ⟨t,by lia,b⟩
theorem cw_split {v:Nat->iP} {i:Nat}:∀{k:Nat},i < k->pd v k=KC v i k++v i :: pd v i
 | k+1,h=>by
  show v k :: pd v k=(if k<=i then [] else v k :: KC v i k)++_
  by_cases e:i=k
  ·subst e;rw[if_pos (aw _)];rfl
  ·rw[if_neg (by lia),cw_split (k:=k) (i:=i) (by lia)];rfl
theorem CH {rs:List Nat} {v:Nat->iP} {c:Nat->Rat} {W:iP} {k i:Nat} (hi:i < k) (hW:∀r∈rs,W r=bH k λj=>c j*v j r):p7 rs (KC v i k++W :: pd v i)=c i*p7 rs (pd v k):=by
 rw[Ib (v:=v) (c:=c) (W:=W) _ _ hW,fP hi λj hj ne=>?_,cw_split hi];rcases b8 j i with h | h
 ·obtain ⟨s,t,e⟩:=Gx (cw_mem (v:=v) h);rw[e,Ep];grind
 ·obtain ⟨s,t,e⟩:=Gx (Mv (v:=v) (show i < j by lia) hj);have:=Ep (x:=v j) (rs:=rs) t s (pd v i);rw[e,ck,ee,this];grind
theorem Qz {rs:List Nat} {v:Nat->iP} {c:Nat->Rat} {W:iP} {k:Nat} (hW:∀r∈rs,W r=bH k λj=>c j*v j r):p7 rs (W :: pd v k)=0:=by
 have:=Ib (v:=v) (c:=c) (W:=W) [] (pd v k) hW;rw[dk] at this;rw[this];refine cS λj hj=>?_
 obtain ⟨s,t,e⟩:=Gx (cw_mem (v:=v) hj);have:=Ep (x:=v j) (rs:=rs) s [] t;rw[dk] at this;rw[e,dk,this];grind
theorem Kh {rs:List Nat} {v:Nat->iP} {c:Nat->Rat} {W:iP} {k i:Nat} {s:Rat} (hi:i∉rs) (h1:W i=bH k (λj=>c j*v j i)+s) (hW:∀r∈rs,W r=bH k λj=>c j*v j r):p7 (i :: rs) (W :: pd v k)=s*p7 rs (pd v k):=by
 have e:=uz (rs:=i :: rs) (h:=W) (f:=λr=>bH k λj=>c j*v j r) (g:=λr=>if r=i then 1 else 0) (x:=1) (y:=s) (λr hr=>by
  rcases aG.mp hr with rfl | hr
  ·rw[h1,if_pos rfl];grind
  ·rw[hW r hr,if_neg (λz=>hi (by rw[<- z];exact hr))];grind) [] (pd v k)
 rw[dk,dk,dk,Qz (c:=c) λr _=>rfl] at e
 have e2:p7 (i :: rs) ((λr=>if r=i then (1:Rat) else 0) :: pd v k)=p7 rs (pd v k):=by
  show 1*(if i=i then (1:Rat) else 0)*p7 rs ([]++pd v k)+Bi (λws=>p7 rs ws) i ([]++[λr=>if r=i then (1:Rat) else 0]) (pd v k) (-1)=_
  have hF:∀a b,(λws=>p7 rs ws) (a++(λr=>if r=i then (1:Rat) else 0) :: b)=0*(λws=>p7 rs ws) (a++(λr=>if r=i then (1:Rat) else 0) :: b)+0*(λws=>p7 rs ws) (a++(λr=>if r=i then (1:Rat) else 0) :: b):=λa b=>by
   have:=En (h:=λr=>if r=i then (1:Rat) else 0) (rs:=rs) (λr hr=>if_neg λz=>hi (by rw[<- z];exact hr)) a b
   dsimp only
   rw[this];grind
  have:=Ed (r:=i) hF (pd v k) [] [] (-1);rw[this,if_pos rfl,dk];grind
 rw[e2] at e;rw[e];grind
theorem OM {F:List iP->Rat} {r B W:Nat}:∀{post pre:List iP} {s:Rat},(∀ws,(∀w∈ws,w∈pre++post)->ws.length+1=(pre++post).length->Fr 1 B (F ws))->(∀w∈post,Fr 1 W (w r))->Fr 1 1 s->Fr 1 (post.length*(W*B)) (Bi F r pre post s)
 | [],pre,s,_,_,_=>by show Fr 1 _ 0;exact Fr.zero
 | v :: post,pre,s,hF,hw,hs=>by
  have t1:Fr 1 (W*B) (s*v r*F (pre++post)):=by
   have:=(hs.mul (hw v (.head _))).mul (hF (pre++post) (λw h=>by
    rcases ax.mp h with h | h
    ·exact pX _ h
    ·exact b6 _ (.tail _ h)) (by simp only[ao,bg];lia))
   simpa using this
  have t2:=OM (F:=F) (r:=r) (B:=B) (W:=W) (post:=post) (pre:=pre++[v]) (s:=-s) (λws h h'=>hF ws (λw hw=>by simpa using h w hw) (by simpa using h')) (λw h=>hw w (.tail _ h)) (by simpa using hs.neg);exact (t1.add t2).mono (by rw[bg,j7];lia)
theorem AK {W N:Nat}:∀{rs:List Nat} {vs:List iP},vs.length<=N->(∀v∈vs,∀r∈rs,Fr 1 W (v r))->Fr 1 ((N*W)^rs.length) (p7 rs vs)
 | [],[],_,_=>by show Fr 1 1 1;exact (Fr.int (i:=1) (by decide))
 | [],_ :: _,_,_=>by show Fr 1 _ 0;exact Fr.zero
 | r :: rs,vs,hl,h=>by
  have:=OM (F:=λws=>p7 rs ws) (r:=r) (B:=(N*W)^rs.length) (W:=W) (post:=vs) (pre:=[]) (s:=1) (λws h1 h2=>AK (by rw[dk] at h2;lia) λv hv r' hr'=>h v (by simpa using h1 v hv) r' (.tail _ hr')) (λw hw=>h w hw r (.head _)) (Fr.int (i:=1) (by decide));refine this.mono ?_;rw[bg,gi,cH ((N*W)^rs.length),cK N];exact aA _ hl
structure we (a:Nat->Nat->Rat) (m k:Nat) (pm p:Nat->Nat) (l:Nat->Nat->Rat) (d:Rat):Prop where
 inj:∀i j,i < m->j < m->pm i=pm j->i=j
 rng:∀i,i < m->pm i < m
 km:k<=m
 d0:d≠0
 det:d=p7 (w5 pm k) (pd (λj r=>a r (p j)) k)
 eqs:∀i,i < m->∀c,d*a (pm i) c=bH k (λj=>a (pm i) (p j)*l j c)+if i < k then 0 else l i c
 unit:∀i,i < m->∀j,j < k->l i (p j)=if i=j then d else 0
section
variable {a l:Nat->Nat->Rat} {m k:Nat} {pm p:Nat->Nat} {d:Rat}
theorem we.start (h:∀i,i < m->pm i=i):we a m 0 pm p a 1 where
 inj i j hi hj e:=by rw[h i hi,h j hj] at e;exact e
 rng i hi:=by rw[h i hi];exact hi
 km:=aZ _
 d0:=by decide
 det:=rfl
 eqs i hi c:=by
  rw[h i hi,if_neg (by lia)];show 1*a i c=0+a i c
  grind
 unit i _ j hj:=absurd hj (by lia)
theorem we.coef (B:we a m k pm p l d) {i c:Nat} (hi:i < m):a (pm i) c=bH k (λj=>(l j c / d)*a (pm i) (p j))+if i < k then 0 else l i c / d:=by
 have h:=B.eqs i hi c;have d0:=B.d0
 have e:bH k (λj=>(l j c / d)*a (pm i) (p j))=(1 / d)*bH k (λj=>a (pm i) (p j)*l j c):=by
  rw[<- cR];exact aV λj _=>by grind
 rw[e]
 split at h
 ·rw[if_pos (by assumption)];grind
 ·rw[if_neg (by assumption)];grind
theorem we.old (B:we a m k pm p l d) {i c:Nat} (hi:i < k):l i c=p7 (w5 pm k) (KC (λj r=>a r (p j)) i k++(λr=>a r c) :: pd (λj r=>a r (p j)) i):=by
 have km:=B.km;have d0:=B.d0;rw[CH (v:=λj r=>a r (p j)) (c:=λj=>l j c / d) hi λr hr=>?_,<- B.det]
 ·grind
 ·obtain ⟨t,ht,rfl⟩:=mR hr;have:=B.coef (i:=t) (c:=c) (by lia);rw[if_pos ht] at this;rw[this];grind
theorem we.new (B:we a m k pm p l d) {i c:Nat} (h1:k<=i) (hi:i < m):l i c=p7 (pm i :: w5 pm k) ((λr=>a r c) :: pd (λj r=>a r (p j)) k):=by
 have km:=B.km;have d0:=B.d0
 have hn:pm i∉w5 pm k:=λhm=>by
  obtain ⟨t,ht,e⟩:=mR hm;have:=B.inj i t hi (by lia) e
  lia
 have e1:a (pm i) c=bH k (λj=>(l j c / d)*a (pm i) (p j))+l i c / d:=by
  have:=B.coef (i:=i) (c:=c) hi;rwa [if_neg (by lia)] at this
 have e2:∀r∈w5 pm k,a r c=bH k (λj=>(l j c / d)*a r (p j)):=λr hr=>by
  obtain ⟨t,ht,rfl⟩:=mR hr;have:=B.coef (i:=t) (c:=c) (by lia);rw[if_pos ht] at this;rw[this];grind
 rw[Kh (v:=λj r=>a r (p j)) (c:=λj=>l j c / d) (W:=λr=>a r c) (s:=l i c / d) hn e1 e2,<- B.det];grind
theorem we.fr {W N:Nat} (B:we a m k pm p l d) (hN:k < N) (hW:1<=W) (ha:∀i,i < m->∀c,Fr 1 W (a i c)) {i c:Nat} (hi:i < m):Fr 1 ((N*W)^(k+1)) (l i c):=by
 have km:=B.km;have mono:∀t,t<=k+1->(N*W)^t<=(N*W)^(k+1):=λt ht=>av (b7 (by lia) hW) ht
 have ha':∀r∈w5 pm k,∀c,Fr 1 W (a r c):=λr hr c=>by
  obtain ⟨t,ht,rfl⟩:=mR hr;exact ha _ (B.rng t (by lia)) c
 by_cases h:i < k
 ·rw[B.old h];refine (AK (W:=W) (N:=N) ?_ ?_).mono (mono _ (by rw[qU];lia))
  ·have:=congrArg List.length (cw_split (v:=λj r=>a r (p j)) h);rw[ao,bg,cw_len] at this;rw[ao,bg]
   lia
  ·intro v hv r hr;rcases ax.mp hv with hv | hv
   ·obtain ⟨t,_,rfl⟩:=FP hv;exact ha' r hr _
   ·rcases aG.mp hv with rfl | hv
    ·exact ha' r hr _
    ·obtain ⟨t,_,rfl⟩:=cw_in hv;exact ha' r hr _
 ·rw[B.new (by lia) hi];refine (AK (W:=W) (N:=N) ?_ ?_).mono (mono _ (by rw[bg,qU];lia))
  ·rw[bg,cw_len]
   lia
  ·intro v hv r hr
   have hr':∀c,Fr 1 W (a r c):=λc=>by
    rcases aG.mp hr with rfl | hr
    ·exact ha _ (B.rng i hi) c
    ·exact ha' r hr c
   rcases aG.mp hv with rfl | hv
   ·exact hr' _
   ·obtain ⟨t,_,rfl⟩:=cw_in hv;exact hr' _
theorem we.dfr {W N:Nat} (B:we a m k pm p l d) (hN:k<=N) (ha:∀i,i < m->∀c,Fr 1 W (a i c)):Fr 1 ((N*W)^k) d:=by
 have km:=B.km;rw[B.det]
 have:=AK (W:=W) (N:=N) (rs:=w5 pm k) (vs:=pd (λj r=>a r (p j)) k) (by rw[cw_len];exact hN) λv hv r hr=>by
  obtain ⟨t,ht,rfl⟩:=mR hr;obtain ⟨t',_,rfl⟩:=cw_in hv;exact ha _ (B.rng t (by lia)) _
 rwa [qU] at this
def jD (k t i:Nat):Nat:=if i=k then t else if i=t then k else i
theorem sL {k t m i:Nat} (hk:k < m) (ht:t < m) (hi:i < m):jD k t i < m:=by
 unfold jD
 split
 ·exact ht
 ·split
  ·exact hk
  ·exact hi
theorem Pk {k t i j:Nat} (h:jD k t i=jD k t j):i=j:=by
 unfold jD at h
 split at h <;> split at h <;> (try split at h) <;> (try split at h) <;> lia
theorem tW {k t i:Nat} (h:k<=t) (hi:i < k):jD k t i=i:=by
 unfold jD;rw[if_neg (by lia),if_neg (by lia)]
theorem uE {k t i:Nat} (h:k<=t) (hi:k<=i):k<=jD k t i:=by
 unfold jD
 split
 ·exact h
 ·split <;> lia
theorem we.swap (B:we a m k pm p l d) {t:Nat} (h:k<=t) (ht:t < m):we a m k (λi=>pm (jD k t i)) p (λi=>l (jD k t i)) d where
 inj i j hi hj e:=Pk (B.inj _ _ (sL (by lia) ht hi) (sL (by lia) ht hj) e)
 rng i hi:=B.rng _ (sL (by lia) ht hi)
 km:=B.km
 d0:=B.d0
 det:=by rw[B.det,zZ (f:=pm) (g:=λi=>pm (jD k t i)) λj hj=>by rw[tW h hj]]
 eqs i hi c:=by
  have e:=B.eqs (jD k t i) (sL (by lia) ht hi) c;have e1:bH k (λj=>a (pm (jD k t i)) (p j)*l (jD k t j) c)=bH k (λj=>a (pm (jD k t i)) (p j)*l j c):=aV λj hj=>by rw[tW h hj]
  rw[e1];by_cases hk:i < k
  ·rw[tW h hk] at e ⊢;exact e
  ·rw[if_neg hk];rw[if_neg (by have:=uE h (show k<=i by lia);lia)] at e;exact e
 unit i hi j hj:=by
  rw[B.unit _ (sL (by lia) ht hi) j hj];by_cases hk:i < k
  ·rw[tW h hk]
  ·have:=uE h (show k<=i by lia);rw[if_neg (by lia),if_neg (by lia)]
theorem we.step (B:we a m k pm p l d) {c0:Nat} (hk:k < m) (h0:l k c0≠0):we a m (k+1) pm (λj=>if j=k then c0 else p j) (λi c=>if i=k then l k c else (l k c0*l i c - l i c0*l k c) / d) (l k c0) where
 inj:=B.inj
 rng:=B.rng
 km:=hk
 d0:=h0
 det:=by
  rw[B.new (aw _) hk];show _=p7 (pm k :: w5 pm k) ((λr=>a r (if k=k then c0 else p k)) :: pd _ k)
  rw[if_pos rfl];congr 2;exact cw_congr λj hj=>by rw[if_neg (show j≠k by lia)]
 eqs i hi c:=by
  have d0:=B.d0;have e1:=B.eqs i hi c;have e2:=B.eqs i hi c0;show l k c0*a (pm i) c=(bH k _+_)+_
  have s1:bH k (λj=>a (pm i) (if j=k then c0 else p j)*(if j=k then l k c else (l k c0*l j c - l j c0*l k c) / d))=(l k c0 / d)*bH k (λj=>a (pm i) (p j)*l j c)+(- l k c / d)*bH k (λj=>a (pm i) (p j)*l j c0):=by
   rw[<- cR,<- cR,<- kU];refine aV λj hj=>?_
   rw[if_neg (show j≠k by lia),if_neg (show j≠k by lia)];grind
  rw[s1];simp only[if_true];generalize bH k (λj=>a (pm i) (p j)*l j c)=S1 at e1 ⊢;generalize bH k (λj=>a (pm i) (p j)*l j c0)=S2 at e2 ⊢;rcases dM i k with h | h | h
  ·rw[if_pos h] at e1 e2;rw[if_pos (by lia)];grind
  ·subst h;rw[if_neg (by lia)] at e1 e2;rw[if_pos (by lia)];grind
  ·rw[if_neg (by lia)] at e1 e2;rw[if_neg (by lia),if_neg (by lia)];grind
 unit i hi j hj:=by
  have d0:=B.d0;by_cases e:j=k
  ·subst e;simp only[if_true];by_cases ei:i=j
   ·rw[if_pos ei,if_pos ei]
   ·rw[if_neg ei,if_neg ei];grind
  ·have hj':j < k:=by lia
   rw[if_neg e];by_cases ei:i=k
   ·rw[if_pos ei,B.unit k hk j hj',if_neg (by lia),if_neg (by lia)]
   ·rw[if_neg ei,B.unit i hi j hj',B.unit k hk j hj',if_neg (show k≠j by lia)]
    split
    ·grind
    ·grind
end
def eG (m:Nat) (a:Nat->Nat->Rat) (x:Nat->Rat):Prop:=∃w:Nat->Rat,∀c,x c=bH m λt=>w t*a t c
section
variable {m m' k n:Nat} {a b:Nat->Nat->Rat} {x y:Nat->Rat}
theorem eG.row {i:Nat} (hi:i < m):eG m a (a i):=⟨λt=>if t=i then 1 else 0,λc=>by
 rw[fP hi λj _ ne=>by dsimp only;rw[if_neg ne];grind]
 dsimp only
 rw[if_pos rfl];grind⟩
theorem eG.lin (α β:Rat) (hx:eG m a x) (hy:eG m a y):eG m a λc=>α*x c+β*y c:=by
 obtain ⟨w,hw⟩:=hx;obtain ⟨v,hv⟩:=hy;refine ⟨λt=>α*w t+β*v t,λc=>?_⟩
 dsimp only
 rw[hw c,hv c,<- cR,<- cR,<- kU];exact aV λj _=>by grind
theorem eG.congr (h:∀c,x c=y c) (hx:eG m a x):eG m a y:=by obtain ⟨w,hw⟩:=hx;exact ⟨w,λc=>by rw[<- h c];exact hw c⟩
theorem eG.trans (h:∀t,t < m'->eG m a (b t)) (hx:eG m' b x):eG m a x:=by
 obtain ⟨v,hv⟩:=hx
 have h2:∀t,∃w:Nat->Rat,t < m'->∀c,b t c=bH m λs=>w s*a s c:=λt=>by
  by_cases ht:t < m'
  ·obtain ⟨w,hw⟩:=h t ht;exact ⟨w,λ_=>hw⟩
  ·exact ⟨λ_=>0,λz=>absurd z ht⟩
 have hc:=Classical.axiomOfChoice h2;obtain ⟨w,hw⟩:=hc;refine ⟨λs=>bH m' λt=>v t*w t s,λc=>?_⟩;rw[hv c];have e1:bH m' (λt=>v t*b t c)=bH m' (λt=>bH m λs=>v t*(w t s*a s c)):=aV λt ht=>by rw[hw t ht c,<- cR]
 rw[e1,fv];refine aV λs _=>?_
 have:bH m' (λt=>v t*w t s)*a s c=a s c*bH m' (λt=>v t*w t s):=dJ ..;rw[this,<- cR];exact aV λt _=>by grind
theorem eG.zero (h:∀c,x c=0):eG m a x:=⟨λ_=>0,λc=>by rw[h c,cS λ_ _=>by grind]⟩
end
structure Dg (m n:Nat) (a:Nat->Nat->Rat) (k:Nat) (p:Nat->Nat) (R:Nat->Nat->Rat):Prop where
 inc:∀i j,i < j->j < k->p i < p j
 low:∀j,j < k->p j < n
 unit:∀i,i < k->∀j,j < k->R i (p j)=if i=j then 1 else 0
 lead:∀i,i < k->∀c,c < p i->R i c=0
 span:∀i,i < m->eG k R (a i)
 back:∀i,i < k->eG m a (R i)
section
variable {m m' k k' n:Nat} {a a' R R':Nat->Nat->Rat} {p p':Nat->Nat} {x:Nat->Rat}
theorem Dg.coef (h:Dg m n a k p R) (hx:eG k R x) (c:Nat):x c=bH k λj=>x (p j)*R j c:=by
 obtain ⟨w,hw⟩:=hx;rw[hw c];refine aV λj hj=>?_
 rw[hw (p j),fP hj λt ht ne=>by rw[h.unit t ht j hj,if_neg ne];grind,h.unit j hj j hj,if_pos rfl];grind
theorem Dg.lead_in (h:Dg m n a k p R) (hx:eG k R x) {c:Nat} (h1:x c≠0) (h0:∀c',c' < c->x c'=0):∃j,j < k/\p j=c:=by
 refine Classical.byContradiction λhn=>h1 ?_
 rw[h.coef hx c];refine cS λj hj=>?_
 rcases dM (p j) c with z | z | z
 ·rw[h0 _ z];grind
 ·exact absurd ⟨j,hj,z⟩ hn
 ·rw[h.lead j hj c z];grind
theorem inc_le (h1:∀i j,i < j->j < k->p i < p j) (h2:∀i j,i < j->j < k'->p' i < p' j) (hs:∀j,j < k'->∃i,i < k/\p i=p' j):∀{j:Nat},j < k'->∀{i:Nat},i < k->p i=p' j->j<=i
 | 0,_,_,_,_=>aZ _
 | j+1,hj,i,hi,e=>by
  obtain ⟨i0,hi0,e0⟩:=hs j (by lia);have:=inc_le h1 h2 hs (j:=j) (by lia) hi0 e0;have lt:=h2 j (j+1) (by lia) hj;rcases dM i0 i with z | z | z
  ·lia
  ·subst z;lia
  ·have:=h1 i i0 z hi0;lia
theorem L5 (h1:∀i j,i < j->j < k->p i < p j) {i j:Nat} (h:i<=j) (hj:j < k):p i<=p j:=by
 rcases b8 i j with z | z
 ·exact bc (h1 i j z hj)
 ·have:i=j:=by lia
  rw[this];exact aw _
theorem IY (h1:∀i j,i < j->j < k->p i < p j) (h2:∀i j,i < j->j < k'->p' i < p' j) (hs:∀j,j < k'->∃i,i < k/\p i=p' j):k'<=k/\∀j,j < k'->p j<=p' j:=by
 refine ⟨?_,λj hj=>?_⟩
 ·rcases iw k' with z | z
  ·lia
  ·obtain ⟨i,hi,e⟩:=hs (k' - 1) (by lia);have:=inc_le h1 h2 hs (j:=k' - 1) (by lia) hi e
   lia
 ·obtain ⟨i,hi,e⟩:=hs j hj;rw[<- e];exact L5 h1 (inc_le h1 h2 hs hj hi e) hi
theorem Dg.uniq (h:Dg m n a k p R) (h':Dg m' n a' k' p' R') (s1:∀i,i < m->eG m' a' (a i)) (s2:∀i,i < m'->eG m a (a' i)):k=k'/\(∀j,j < k->p j=p' j)/\∀i,i < k->∀c,R i c=R' i c:=by
 have x1:∀i,i < k->eG k' R' (R i):=λi hi=>eG.trans (λt ht=>h'.span t ht) (eG.trans s1 (h.back i hi))
 have x2:∀i,i < k'->eG k R (R' i):=λi hi=>eG.trans (λt ht=>h.span t ht) (eG.trans s2 (h'.back i hi))
 have y1:∀j,j < k->∃i,i < k'/\p' i=p j:=λj hj=>h'.lead_in (x1 j hj) (by rw[h.unit j hj j hj,if_pos rfl];decide) (h.lead j hj)
 have y2:∀j,j < k'->∃i,i < k/\p i=p' j:=λj hj=>h.lead_in (x2 j hj) (by rw[h'.unit j hj j hj,if_pos rfl];decide) (h'.lead j hj)
 obtain ⟨z1,w1⟩:=IY h'.inc h.inc y1;obtain ⟨z2,w2⟩:=IY h.inc h'.inc y2;have ek:k=k':=MR z1 z2;subst ek;have ep:∀j,j < k->p j=p' j:=λj hj=>MR (w2 j hj) (w1 j hj)
 refine ⟨rfl,ep,λi hi c=>?_⟩;rw[h.coef (x2 i hi) c,fP hi λj hj ne=>by rw[ep j hj,h'.unit i hi j hj,if_neg (λz=>ne z.symm)];grind,ep i hi,h'.unit i hi i hi,if_pos rfl];grind
end
structure jU (a:Nat->Nat->Rat) (m k P:Nat) (p:Nat->Nat) (l:Nat->Nat->Rat) (d:Rat):Prop where
 km:k<=m
 d0:d≠0
 unit:∀i,i < m->∀j,j < k->l i (p j)=if i=j then d else 0
 inc:∀i j,i < j->j < k->p i < p j
 low:∀j,j < k->p j < P
 zero:∀i,k<=i->i < m->∀c,c < P->l i c=0
 lead:∀j,j < k->∀c,c < p j->l j c=0
 there:∀i,i < m->eG m l (a i)
 back:∀i,i < m->eG m a (l i)
section
variable {m k n P:Nat} {a l l':Nat->Nat->Rat} {p:Nat->Nat} {d d':Rat}
theorem jU.start:jU a m 0 0 p a 1 where
 km:=aZ _
 d0:=by decide
 unit _ _ j hj:=absurd hj (by lia)
 inc _ j _ hj:=absurd hj (by lia)
 low j hj:=absurd hj (by lia)
 zero _ _ _ c hc:=absurd hc (by lia)
 lead j hj:=absurd hj (by lia)
 there i hi:=eG.row hi
 back i hi:=eG.row hi
theorem jU.skip (E:jU a m k P p l d) (h:∀i,k<=i->i < m->l i P=0):jU a m k (P+1) p l d :=
 ⟨E.km,E.d0,E.unit,E.inc,λj hj=>wb (E.low j hj),λi h1 h2 c hc=>by
  by_cases e:c=P
  ·rw[e];exact h i h1 h2
  ·exact E.zero i h1 h2 c (by lia),E.lead,E.there,E.back⟩
theorem Q9 {k t i:Nat}:jD k t (jD k t i)=i:=by
 unfold jD
 split
 ·split <;> (try split) <;> lia
 ·split
  ·rw[if_pos rfl];lia
  ·rfl
theorem jU.swap (E:jU a m k P p l d) {t:Nat} (h:k<=t) (ht:t < m):jU a m k P p (λi=>l (jD k t i)) d where
 km:=E.km
 d0:=E.d0
 unit i hi j hj:=by
  rw[E.unit _ (sL (by lia) ht hi) j hj];by_cases hk:i < k
  ·rw[tW h hk]
  ·have:=uE h (show k<=i by lia);rw[if_neg (by lia),if_neg (by lia)]
 inc:=E.inc
 low:=E.low
 zero i h1 h2 c hc:=E.zero _ (uE h h1) (sL (by lia) ht h2) c hc
 lead j hj c hc:=by rw[tW h hj];exact E.lead j hj c hc
 there i hi:=eG.trans (λs hs=>eG.congr (λc=>by rw[Q9]) (eG.row (a:=λi=>l (jD k t i)) (i:=jD k t s) (sL (by lia) ht hs))) (E.there i hi)
 back i hi:=E.back _ (sL (by lia) ht hi)
theorem jU.step (E:jU a m k P p l d) (hk:k < m) (h0:d'≠0) (unit':∀i,i < m->∀j,j < k+1->l' i (if j=k then P else p j)=if i=j then d' else 0)
  (hl:∀i,i < m->∃β γ:Rat,β≠0/\(i=k->γ=0)/\∀c,l' i c=β*l i c+γ*l k c):jU a m (k+1) (P+1) (λj=>if j=k then P else p j) l' d' where
 km:=hk
 d0:=h0
 unit:=unit'
 inc i j hij hj:=by
  by_cases e:j=k
  ·rw[if_pos e,if_neg (by lia)];exact E.low i (by lia)
  ·rw[if_neg e,if_neg (by lia)];exact E.inc i j hij (by lia)
 low j hj:=by
  by_cases e:j=k
  ·rw[if_pos e];lia
  ·rw[if_neg e];exact wb (E.low j (by lia))
 zero i h1 h2 c hc:=by
  by_cases e:c=P
  ·have:=unit' i h2 k (by lia);rw[if_pos rfl,if_neg (by lia)] at this;rw[e];exact this
  ·obtain ⟨β,γ,_,_,q⟩:=hl i h2;rw[q c,E.zero i (by lia) h2 c (by lia),E.zero k (aw _) hk c (by lia)];grind
 lead j hj c hc:=by
  have km:=E.km;obtain ⟨β,γ,_,_,q⟩:=hl j (by lia);by_cases e:j=k
  ·rw[if_pos e] at hc;rw[q c,e,E.zero k (aw _) hk c hc];grind
  ·rw[if_neg e] at hc;have:=E.low j (by lia);rw[q c,E.lead j (by lia) c hc,E.zero k (aw _) hk c (by lia)];grind
 there i hi:=by
  refine eG.trans (λs hs=>?_) (E.there i hi);obtain ⟨β,γ,b0,_,q⟩:=hl s hs;obtain ⟨βk,γk,bk0,gk,qk⟩:=hl k hk;have g0:=gk rfl;refine eG.congr (λc=>?_) (eG.lin (1 / β) (-(γ / β) / βk) (eG.row (a:=l') hs) (eG.row (a:=l') hk));rw[q c,qk c,g0];grind
 back i hi:=by
  obtain ⟨β,γ,_,_,q⟩:=hl i hi;exact eG.congr (λc=>(q c).symm) (eG.lin β γ (E.back i hi) (E.back k hk))
theorem jU.done (E:jU a m k n p l d) (ha:∀i,i < m->∀c,n<=c->a i c=0):Dg m n a k p (λi c=>l i c / d) where
 inc:=E.inc
 low:=E.low
 unit i hi j hj:=by
  have d0:=E.d0;have km:=E.km;rw[E.unit i (by lia) j hj]
  split
  ·grind
  ·grind
 lead i hi c hc:=by
  rw[E.lead i hi c hc];grind
 span i hi:=by
  have d0:=E.d0;refine eG.trans (λs hs=>?_) (E.there i hi);by_cases z:s < k
  ·refine eG.congr (λc=>?_) (eG.lin d 0 (eG.row (a:=λi c=>l i c / d) z) (eG.row (a:=λi c=>l i c / d) z));grind
  ·refine eG.zero λc=>?_
   by_cases hc:c < n
   ·exact E.zero s (by lia) hs c hc
   ·obtain ⟨w,hw⟩:=E.back s hs;rw[hw c,cS λt ht=>by rw[ha t ht c (by lia)];grind]
 back i hi:=by
  have km:=E.km;have d0:=E.d0;refine eG.congr (λc=>?_) (eG.lin (1 / d) 0 (E.back i (by lia)) (E.back i (by lia)));grind
end
def dH (ls:List (List Int)) (i c:Nat):Rat:=(((ls.getD i []).getD c 0:Int):Rat)
def bV (rows:LR9) (i c:Nat):Rat:=(rows.getD i []).getD c 0
def oo (ls:List (List Int)) (k t:Nat):List (List Int):=(ls.set k (ls.getD t [])).set t (ls.getD k [])
def FQ (ls:List (List Int)) (k c:Nat) (b:Int):List (List Int):=(ls.map λzs=>List.zipWith (λx y=>((ls.getD k []).getD c 0*x - zs.getD c 0*y).fdiv b) zs (ls.getD k [])).set k (ls.getD k [])
section
variable {ls ls0:List (List Int)} {k t n P c:Nat} {b d:Int} {ps:List Nat}
theorem rH {α:Type} {l:List α} {i j:Nat} {x e:α} (hi:i < l.length):(l.set i x).getD j e=if j=i then x else l.getD j e:=by
 rw[aa,aa,List.getElem?_set];by_cases h:j=i
 ·subst h;rw[if_pos rfl,if_pos hi,if_pos rfl];rfl
 ·rw[if_neg (λz=>h z.symm),if_neg h]
theorem wC:(oo ls k t).length=ls.length:=by unfold oo;rw[dU,dU]
theorem Mz:(FQ ls k c b).length=ls.length:=by unfold FQ;rw[dU,ah]
theorem getD_in {α:Type} {l:List α} {i:Nat} {e:α} (h:i < l.length):l.getD i e∈l:=by
 rw[aa,ag h];exact aL h
theorem Iv (w:∀zs∈ls,zs.length=n) (hk:k < ls.length) (ht:t < ls.length):∀zs∈oo ls k t,zs.length=n:=λzs hz=>by
 unfold oo at hz;rcases cM hz with h | h
 ·rcases cM h with h | h
  ·exact w zs h
  ·rw[h];exact w _ (getD_in ht)
 ·rw[h];exact w _ (getD_in hk)
theorem Jm (w:∀zs∈ls,zs.length=n) (hk:k < ls.length):∀zs∈FQ ls k c b,zs.length=n:=λzs hz=>by
 unfold FQ at hz;rcases cM hz with h | h
 ·obtain ⟨y,hy,rfl⟩:=az.mp h;rw[bO,w y hy,w _ (getD_in hk)]
  lia
 ·rw[h];exact w _ (getD_in hk)
theorem vm (hk:k < ls.length) (ht:t < ls.length) (i c:Nat):dH (oo ls k t) i c=dH ls (jD k t i) c:=by
 unfold dH oo jD;rw[rH (by rw[dU];exact ht),rH hk];by_cases h1:i=t
 ·rw[if_pos h1];by_cases h2:i=k
  ·rw[if_pos h2,<- h1,<- h2]
  ·rw[if_neg h2,if_pos h1]
 ·rw[if_neg h1];by_cases h2:i=k
  ·rw[if_pos h2,if_pos h2]
  ·rw[if_neg h2,if_neg h2,if_neg h1]
theorem uy (w:∀zs∈ls,zs.length=n) {i c:Nat} (hc:n<=c):dH ls i c=0:=by
 unfold dH;by_cases h:i < ls.length
 ·have:=w _ (getD_in (e:=[]) h);rw[aa (l:=ls.getD i []),aO (by lia)];rfl
 ·rw[aa (l:=ls),aO (by lia)];rfl
theorem pQ {x:Int} (h:(x:Rat)=0):x=0:=by
 have:(x:Rat)=((0:Int):Rat):=h;exact di.mp this
theorem HZ {x b:Int} {q:Rat} (hb:b≠0) (hq:∃z:Int,q=(z:Rat)) (e:(x:Rat)=(b:Rat)*q):((x.fdiv b:Int):Rat)=q:=by
 obtain ⟨z,rfl⟩:=hq;rw[<- aS] at e;have:=di.mp e;rw[this,Int.mul_fdiv_cancel_left _ hb]
theorem vh {W:Nat} {q:Rat} (h:Fr 1 W q):∃z:Int,q=(z:Rat):=by
 obtain ⟨z,e,_⟩:=h;exact ⟨z,by rw[<- e];simp⟩
theorem ux {W:Nat} {z:Int} (h:Fr 1 W (z:Rat)):z.natAbs<=W:=by
 obtain ⟨y,e,b⟩:=h;have:(z:Rat)=(y:Rat):=by rw[<- e];simp
 rw[di.mp this];simpa using b
theorem Mi (w:∀zs∈ls,zs.length=n) (hk:k < ls.length) (hb:b≠0) {i:Nat} (hi:i < ls.length) (hz:∀c,∃z:Int,(dH ls k P*dH ls i c - dH ls i P*dH ls k c) / (b:Rat)=(z:Rat)) (c:Nat) :
  dH (FQ ls k P b) i c=if i=k then dH ls k c else (dH ls k P*dH ls i c - dH ls i P*dH ls k c) / (b:Rat):=by
 by_cases e:i=k
 ·rw[if_pos e];unfold dH FQ;rw[rH (by rw[ah];exact hk),if_pos e]
 ·rw[if_neg e];by_cases hc:c < n
  ·have hb':(b:Rat)≠0:=λz=>hb (pQ z)
   have lk:=w _ (getD_in (e:=[]) hk);have li:=w _ (getD_in (e:=[]) hi)
   have e1:dH (FQ ls k P b) i c=(((((ls.getD k []).getD P 0*(ls.getD i []).getD c 0 - (ls.getD i []).getD P 0*(ls.getD k []).getD c 0).fdiv b:Int)):Rat):=by
    unfold FQ;rw[dH,rH (by rw[ah];exact hk),if_neg e];rw[aa (l:=List.map _ ls),aD,ag hi];show ((((List.zipWith _ ls[i] (ls.getD k [])).getD c 0:Int)):Rat)=_
    have ei:ls.getD i []=ls[i]:=by rw[aa,ag hi];rfl
    rw[<- ei];rw[aa (l:=List.zipWith _ _ _),bS,aa (l:=ls.getD i []) (i:=c),aa (l:=ls.getD k []) (i:=c),ag (show c < (ls.getD i []).length by lia),ag (show c < (ls.getD k []).length by lia)];rfl
   rw[e1];refine HZ hb (hz c) ?_;rw[Bf,aS,aS];show _=(b:Rat)*((dH ls k P*dH ls i c - dH ls i P*dH ls k c) / (b:Rat))
   show dH ls k P*dH ls i c - dH ls i P*dH ls k c=_
   grind
  ·rw[uy (Jm w hk) (show n<=c by lia),uy w (i:=i) (show n<=c by lia),uy w (i:=k) (show n<=c by lia)];grind
end
section
variable {m k n P:Nat} {a l l2:Nat->Nat->Rat} {pm p p2:Nat->Nat} {d:Rat}
theorem we.congr (B:we a m k pm p l d) (hp:∀j,j < k->p2 j=p j) (hl:∀i,i < m->∀c,l2 i c=l i c):we a m k pm p2 l2 d where
 inj:=B.inj
 rng:=B.rng
 km:=B.km
 d0:=B.d0
 det:=by rw[B.det,cw_congr (f:=λj r=>a r (p j)) (g:=λj r=>a r (p2 j)) λj hj=>by rw[hp j hj]]
 eqs i hi c:=by
  have km:=B.km;rw[B.eqs i hi c,hl i hi c];congr 1;exact aV λj hj=>by rw[hp j hj,hl j (by lia) c]
 unit i hi j hj:=by rw[hp j hj,hl i hi];exact B.unit i hi j hj
theorem eG.rows {x:Nat->Rat} (h:∀i,i < m->∀c,l2 i c=l i c) (hx:eG m l x):eG m l2 x:=by obtain ⟨w,hw⟩:=hx;exact ⟨w,λc=>by rw[hw c];exact aV λt ht=>by rw[h t ht c]⟩
theorem jU.congr (E:jU a m k P p l d) (hp:∀j,j < k->p2 j=p j) (hl:∀i,i < m->∀c,l2 i c=l i c):jU a m k P p2 l2 d where
 km:=E.km
 d0:=E.d0
 unit i hi j hj:=by rw[hp j hj,hl i hi];exact E.unit i hi j hj
 inc i j hij hj:=by rw[hp i (by lia),hp j hj];exact E.inc i j hij hj
 low j hj:=by rw[hp j hj];exact E.low j hj
 zero i h1 h2 c hc:=by rw[hl i h2];exact E.zero i h1 h2 c hc
 lead j hj c hc:=by
  have km:=E.km;rw[hp j hj] at hc;rw[hl j (by lia)];exact E.lead j hj c hc
 there i hi:=(E.there i hi).rows hl
 back i hi:=(E.back i hi).congr λc=>(hl i hi c).symm
theorem jU.kP (E:jU a m k P p l d):k<=P:=by
 have:∀j,j < k->j<=p j:=by
  intro j
  induction j with
  | zero=>intro _;exact aZ _
  | succ j ih =>
   intro hj;have:=ih (by lia);have:=E.inc j (j+1) (by lia) hj
   lia
 rcases iw k with z | z
 ·lia
 ·have h1:=this (k - 1) (by lia);have h2:=E.low (k - 1) (by lia)
  lia
end
structure De (ls0:List (List Int)) (n P:Nat) (ls:List (List Int)) (ps:List Nat) (d:Int):Prop where
 len:ls.length=ls0.length
 wide:∀zs∈ls,zs.length=n
 bar:∃pm,we (dH ls0) ls0.length ps.length pm (λj=>ps.getD j 0) (dH ls) d
 el:jU (dH ls0) ls0.length ps.length P (λj=>ps.getD j 0) (dH ls) d
section
variable {ls0 ls:List (List Int)} {n P:Nat} {ps:List Nat} {d:Int}
theorem De.start (w:∀zs∈ls0,zs.length=n):De ls0 n 0 ls0 [] 1:=⟨rfl,w,⟨λi=>i,we.start λ_ _=>rfl⟩,jU.start⟩
theorem De.d0 (h:De ls0 n P ls ps d):d≠0:=λz=>h.el.d0 (by rw[z];rfl)
theorem De.skip (h:De ls0 n P ls ps d) (hz:∀i,ps.length<=i->i < ls.length->dH ls i P=0):De ls0 n (P+1) ls ps d:=⟨h.len,h.wide,h.bar,h.el.skip λi h1 h2=>hz i h1 (by rw[h.len];exact h2)⟩
theorem getD_snoc {l:List Nat} {x j:Nat} (hj:j < l.length+1):(l++[x]).getD j 0=if j=l.length then x else l.getD j 0:=by
 rw[aa,aa];by_cases e:j=l.length
 ·rw[if_pos e,e,bT (aw _),mD];rfl
 ·rw[if_neg e,cN (by lia)]
theorem De.int {W:Nat} (h:De ls0 n P ls ps d) (hW:1<=W) (h0:∀i,i < ls0.length->∀c,Fr 1 W (dH ls0 i c)) {t:Nat} (ht:ps.length<=t) (ht2:t < ls.length) (hne:dH ls t P≠0) :
  ∀i,i < ls.length->i≠ps.length->∀c,∃z:Int,(dH (oo ls ps.length t) ps.length P*dH (oo ls ps.length t) i c - dH (oo ls ps.length t) i P*dH (oo ls ps.length t) ps.length c) / (d:Rat)=(z:Rat):=λi hi ne c=>by
 obtain ⟨pm,B⟩:=h.bar;have hl:=h.len;have hk:ps.length < ls.length:=by lia
 have B1:=(B.swap ht (by lia)).congr (p2:=λj=>ps.getD j 0) (l2:=dH (oo ls ps.length t)) (λ_ _=>rfl) (λi _ c=>vm hk ht2 i c)
 have h1:dH (oo ls ps.length t) ps.length P≠0:=by
  rw[vm hk ht2];unfold jD;rw[if_pos rfl];exact hne
 have B2:=B1.step (c0:=P) (by lia) h1;have:=B2.fr (W:=W) (N:=ps.length+2) (by lia) hW h0 (i:=i) (c:=c) (by lia);rw[if_neg ne] at this;exact vh this
theorem De.step {W:Nat} (h:De ls0 n P ls ps d) (hW:1<=W) (h0:∀i,i < ls0.length->∀c,Fr 1 W (dH ls0 i c)) {t:Nat} (ht:ps.length<=t) (ht2:t < ls.length) (hne:dH ls t P≠0) :
  De ls0 n (P+1) (FQ (oo ls ps.length t) ps.length P d) (ps++[P]) (((FQ (oo ls ps.length t) ps.length P d).getD ps.length []).getD P 0):=by
 obtain ⟨pm,B⟩:=h.bar;have hl:=h.len;have hk:ps.length < ls.length:=by lia
 have hz:=h.int hW h0 ht ht2 hne;have w1:=Iv h.wide hk ht2;have k1:ps.length < (oo ls ps.length t).length:=by rw[wC];exact hk
 have B1:=(B.swap ht (by lia)).congr (p2:=λj=>ps.getD j 0) (l2:=dH (oo ls ps.length t)) (λ_ _=>rfl) (λi _ c=>vm hk ht2 i c);have E1:=(h.el.swap ht (by lia)).congr (p2:=λj=>ps.getD j 0) (l2:=dH (oo ls ps.length t)) (λ_ _=>rfl) (λi _ c=>vm hk ht2 i c)
 have h1:dH (oo ls ps.length t) ps.length P≠0:=by
  rw[vm hk ht2];unfold jD;rw[if_pos rfl];exact hne
 have B2:=B1.step (c0:=P) (by lia) h1
 have fc:∀i,i < ls0.length->∀c,dH (FQ (oo ls ps.length t) ps.length P d) i c=if i=ps.length then dH (oo ls ps.length t) ps.length c else (dH (oo ls ps.length t) ps.length P*dH (oo ls ps.length t) i c - dH (oo ls ps.length t) i P*dH (oo ls ps.length t) ps.length c) / (d:Rat):=λi hi c=>by
  by_cases e:i=ps.length
  ·rw[if_pos e];unfold dH FQ;rw[rH (by rw[ah];exact k1),if_pos e]
  ·have:=Mi w1 k1 h.d0 (i:=i) (by rw[wC];lia) (hz i (by lia) e) c;rw[this]
 have ed:(((((FQ (oo ls ps.length t) ps.length P d).getD ps.length []).getD P 0:Int)):Rat)=dH (oo ls ps.length t) ps.length P:=by
  have:=fc ps.length (by lia) P;rw[if_pos rfl] at this;exact this
 have lp:(ps++[P]).length=ps.length+1:=by rw[ao];rfl
 have hp:∀j,j < ps.length+1->(ps++[P]).getD j 0=if j=ps.length then P else ps.getD j 0:=λj hj=>getD_snoc hj
 refine ⟨by rw[Mz,wC];exact hl,Jm w1 k1,⟨λi=>pm (jD ps.length t i),?_⟩,?_⟩
 ·rw[ed,lp];exact B2.congr hp fc
 ·rw[ed,lp];refine jU.congr (E1.step (d':=dH (oo ls ps.length t) ps.length P) (l':=λi c=>if i=ps.length then dH (oo ls ps.length t) ps.length c else (dH (oo ls ps.length t) ps.length P*dH (oo ls ps.length t) i c - dH (oo ls ps.length t) i P*dH (oo ls ps.length t) ps.length c) / (d:Rat)) (by lia) h1 B2.unit λi hi=>?_) hp fc;have d0:=h.el.d0;by_cases e:i=ps.length
  ·refine ⟨1,0,by decide,λ_=>rfl,λc=>?_⟩;rw[if_pos e,e];grind
  ·refine ⟨dH (oo ls ps.length t) ps.length P / (d:Rat),-(dH (oo ls ps.length t) i P) / (d:Rat),?_,λz=>absurd z e,λc=>?_⟩
   ·intro z;apply h1;grind
   ·rw[if_neg e];grind
theorem De.sz {W r:Nat} (h:De ls0 n P ls ps d) (hW:1<=W) (h0:∀i,i < ls0.length->∀c,Fr 1 W (dH ls0 i c)) (hP:P<=n) (hr:min ls0.length n<=r) (r15:r<=15):(d.natAbs<=(16*W)^r)/\∀zs∈ls,∀z∈zs,z.natAbs<=(16*W)^r:=by
 obtain ⟨pm,B⟩:=h.bar;have kP:=h.el.kP;have km:=B.km;have hl:=h.len;have mono:∀{s t:Nat},s<=t->(16*W)^s<=(16*W)^t:=λhs=>av (b7 (by decide) hW) hs
 refine ⟨ai (ux (B.dfr (W:=W) (N:=16) (by lia) h0)) (mono (by lia)),λzs hz z hz'=>?_⟩;obtain ⟨i,hi,rfl⟩:=bP hz;obtain ⟨c,hc,rfl⟩:=bP hz';have hw:=h.wide _ (aL hi)
 have ez:dH ls i c=(((ls[i])[c]:Int):Rat):=by
  unfold dH;rw[aa (l:=ls),ag hi];show ((ls[i].getD c 0:Int):Rat)=_
  rw[aa,ag hc];rfl
 by_cases hk:i < ps.length
 ·have:Fr 1 ((16*W)^ps.length) (dH ls i c):=by
   have hd:=B.d0;rw[B.old hk]
   have:=AK (W:=W) (N:=16) (rs:=w5 pm ps.length) (vs:=KC (λj r=>dH ls0 r (ps.getD j 0)) i ps.length++(λr=>dH ls0 r c) :: pd (λj r=>dH ls0 r (ps.getD j 0)) i) (by
    have:=congrArg List.length (cw_split (v:=λj r=>dH ls0 r (ps.getD j 0)) hk);rw[ao,bg,cw_len] at this;rw[ao,bg]
    lia) (by
    intro v hv r hr
    have hr':∀c,Fr 1 W (dH ls0 r c):=λc=>by
     obtain ⟨t,ht,rfl⟩:=mR hr;exact h0 _ (B.rng t (by lia)) c
    rcases ax.mp hv with hv | hv
    ·obtain ⟨t,_,rfl⟩:=FP hv;exact hr' _
    ·rcases aG.mp hv with rfl | hv
     ·exact hr' _
     ·obtain ⟨t,_,rfl⟩:=cw_in hv;exact hr' _)
   rwa [qU] at this
  rw[ez] at this;exact ai (ux this) (mono (by lia))
 ·by_cases hn:ps.length < n
  ·have:=B.fr (W:=W) (N:=16) (by lia) hW h0 (i:=i) (c:=c) (by lia);rw[ez] at this;exact ai (ux this) (mono (by lia))
  ·have:=h.el.zero i (by lia) (by lia) c (by lia);rw[ez] at this;rw[pQ this];exact aZ _
end
def Tp (M W:Nat) (q:Rat):Prop:=∃z:Int,q*(M:Rat)=(z:Rat)/\z.natAbs<=W
theorem Tp.of {M V W:Nat} {q:Rat} (h:Fr M V q) (hW:V*M<=W):Tp M W q:=by obtain ⟨z,a,b⟩:=h;exact ⟨z,a,ai b hW⟩
theorem Tp.mono {M W W':Nat} {q:Rat} (h:Tp M W q) (hW:W<=W'):Tp M W' q:=by obtain ⟨z,a,b⟩:=h;exact ⟨z,a,ai b hW⟩
theorem Tp.fr {M W:Nat} {q:Rat} (h:Tp M W q) (h0:0 < M):Fr M W q:=by obtain ⟨z,a,b⟩:=h;exact ⟨z,a,ai b (dC _ h0)⟩
def EK (rows:LR9) (n w:Nat):Prop:=∃M W:Nat,0 < M/\M<=2^215000/\1<=W/\W<=2^w/\(∀xs∈rows,∀x∈xs,Tp M W x)/\w<=215000/\min rows.length n<=15/\min rows.length n*(w+4)<=445000
def gE (xs:List Rat):List Int:=fg (xs.map nm) (gG (xs.map nm))
theorem nk {xs:List Rat}:(gE xs).length=xs.length:=by unfold gE fg;rw[ah,ah]
theorem nO {xs:List Rat}:0 < gG (xs.map nm):=Ay (by decide) λb hb=>by
 obtain ⟨n,hn,rfl⟩:=az.mp hb;obtain ⟨x,_,rfl⟩:=az.mp hn;exact gM x
theorem M6 {xs:List Rat} {c:Nat}:(((gE xs).getD c 0:Int):Rat)=xs.getD c 0*((gG (xs.map nm):Int):Rat):=by
 unfold gE fg;rw[aa,aa,aD,aD];cases e:xs[c]? with
 | none=>show ((0:Int):Rat)=0*_;rw[Rat.zero_mul];rfl
 | some x=>exact qh (nP (az.mpr ⟨x,au e,rfl⟩))
section
variable {rows:LR9} {n w i c:Nat} {xs:List Rat}
theorem xJ (hi:i < rows.length):dH (rows.map gE) i c=((gG ((rows.getD i []).map nm):Int):Rat)*bV rows i c:=by
 unfold dH bV
 have e:(rows.map gE).getD i []=gE (rows.getD i []):=by
  rw[aa,aa,aD,ag hi];rfl
 rw[e,M6,dJ]
theorem HY (hw:∀xs∈rows,xs.length=n) (hc:n<=c):bV rows i c=0:=by
 unfold bV;by_cases h:i < rows.length
 ·have:=hw _ (getD_in (e:=[]) h);rw[aa (l:=rows.getD i []),aO (by lia)];rfl
 ·rw[aa (l:=rows),aO (by lia)];rfl
theorem yR (i:Nat) (hi:i < rows.length):eG rows.length (dH (rows.map gE)) (bV rows i):=by
 have h0:((gG ((rows.getD i []).map nm):Int):Rat)≠0:=λz=>by
  have:=nO (xs:=rows.getD i []);have:=pQ z
  lia
 refine eG.congr (λc=>?_) (eG.lin (1 / ((gG ((rows.getD i []).map nm):Int):Rat)) 0 (eG.row (a:=dH (rows.map gE)) hi) (eG.row (a:=dH (rows.map gE)) hi));rw[xJ hi];grind
theorem yQ (i:Nat) (hi:i < rows.length):eG rows.length (bV rows) (dH (rows.map gE) i):=by
 refine eG.congr (λc=>?_) (eG.lin ((gG ((rows.getD i []).map nm):Int):Rat) 0 (eG.row (a:=bV rows) hi) (eG.row (a:=bV rows) hi));rw[xJ hi];grind
theorem tV {M W:Nat} {x:Rat} (h:Tp M W x):(nm x).2∣(M:Int):=by
 obtain ⟨z,e,b⟩:=h
 exact Fr.den (V:=z.natAbs) (M:=M) ⟨z,e,by
  rcases iw M with h | h
  ·subst h;have:(z:Rat)=0:=by rw[<- e];simp
   rw[pQ this];simp
  ·exact dC _ h⟩
theorem wB {M W:Nat} {x:Rat} (h:Tp M W x) (h0:0 < M) {B:Int} (hB:0 < B) (d1:(nm x).2∣B) (d2:B∣(M:Int)):∃t:Int,x*(B:Rat)=(t:Rat)/\t.natAbs<=W:=by
 obtain ⟨z,e,b⟩:=h;obtain ⟨s,es⟩:=d2;refine ⟨(nm x).1*(B / (nm x).2),(qh d1).symm,?_⟩
 have s0:0 < s:=by
  rcases Int.lt_trichotomy s 0 with h | h | h
  ·have:=uD hB h
   lia
  ·rw[h] at es;lia
  ·exact h
 have e2:(((nm x).1*(B / (nm x).2)*s:Int):Rat)=(z:Rat):=by
  rw[aS,qh d1,<- e,<- bh,es,aS];grind
 have e3:=di.mp e2;have:((nm x).1*(B / (nm x).2)).natAbs*s.natAbs=z.natAbs:=by rw[<- dO,e3]
 have h1:1<=s.natAbs:=by lia
 have:=dC ((nm x).1*(B / (nm x).2)).natAbs h1
 lia
theorem y9 {M W:Nat} (h0:0 < M) (h:∀x∈xs,Tp M W x):gG (xs.map nm)∣(M:Int):=yX (by decide) (Int.one_dvd _) λb hb=>by
 obtain ⟨n,hn,rfl⟩:=az.mp hb;obtain ⟨x,hx,rfl⟩:=az.mp hn;exact ⟨gM x,tV (h x hx)⟩
theorem EK.rowM (F:EK rows n w) (hx:xs∈rows):∃M,Ii M (xs.map nm):=by
 obtain ⟨M,W,h0,h1,hW,h2,h3,h4,_⟩:=F;refine ⟨M,by lia,?_,λy hy=>?_⟩
 ·show ((M:Nat):Int).natAbs < 2^220000
  rw[cT];exact bo h1 (dB (by decide) (by decide))
 ·obtain ⟨x,hx',rfl⟩:=az.mp hy;have t:=h3 xs hx x hx';refine ⟨gM x,tV t,?_⟩;obtain ⟨s,e,b⟩:=wB t h0 (gM x) (JB _) (tV t);have e2:(((nm x).1:Int):Rat)=(s:Rat):=by rw[<- e];exact kG x
  rw[di.mp e2];exact bo (ai b h2) (dB (by decide) (by lia))
theorem EK.ent (F:EK rows n w):∃W:Nat,1<=W/\W<=2^w/\∀i,i < (rows.map gE).length->∀c,Fr 1 W (dH (rows.map gE) i c):=by
 obtain ⟨M,W,h0,h1,hW,h2,h3,h4,_⟩:=F;refine ⟨W,hW,h2,λi hi c=>?_⟩;rw[ah] at hi;have hx:=getD_in (e:=[]) hi;rw[xJ hi];unfold bV;generalize rows.getD i []=xs at hx ⊢;by_cases hc:c < xs.length
 ·have t:=h3 xs hx _ (getD_in (e:=0) hc);obtain ⟨s,e,b⟩:=wB t h0 (nO (xs:=xs)) (nP (az.mpr ⟨_,getD_in (e:=0) hc,rfl⟩)) (y9 h0 (h3 xs hx));rw[dJ,e];exact Fr.int b
 ·rw[aa,aO (by lia)];show Fr 1 W (_*0)
  rw[fZ];exact Fr.zero
end
def bK (rows:LR9) (n:Nat) (R:LR9) (ps:List Nat):Prop:=R.length=ps.length/\(∀xs∈R,xs.length=n)/\Dg rows.length n (bV rows) ps.length (λj=>ps.getD j 0) (bV R)
structure Td (rows:LR9) (n w:Nat) (R:LR9) (ps:List Nat) (d:Int) (ls:List (List Int)):Prop where
 rr:bK rows n R ps
 d0:d≠0
 len:ls.length=ps.length
 wide:∀zs∈ls,zs.length=n
 val:∀i c,dH ls i c=(d:Rat)*bV R i c
 dsz:d.natAbs<=2^(min rows.length n*(w+4))
 zsz:∀zs∈ls,∀z∈zs,z.natAbs<=2^(min rows.length n*(w+4))
 tp:∀xs∈R,∀x∈xs,Tp d.natAbs (2^(min rows.length n*(w+4))) x
 km:ps.length<=rows.length
theorem Dg.congrR {m n k:Nat} {a R R2:Nat->Nat->Rat} {p:Nat->Nat} (h:Dg m n a k p R) (hr:∀i,i < k->∀c,R2 i c=R i c):Dg m n a k p R2 :=
 ⟨h.inc,h.low,λi hi j hj=>by rw[hr i hi];exact h.unit i hi j hj,λi hi c hc=>by rw[hr i hi];exact h.lead i hi c hc,λi hi=>(h.span i hi).rows hr,λi hi=>(h.back i hi).congr λc=>(hr i hi c).symm⟩
theorem Dg.other {m m' n k:Nat} {a a' R:Nat->Nat->Rat} {p:Nat->Nat} (h:Dg m n a k p R) (s1:∀i,i < m->eG m' a' (a i)) (s2:∀i,i < m'->eG m a (a' i)):Dg m' n a' k p R :=
 ⟨h.inc,h.low,h.unit,h.lead,λi hi=>eG.trans h.span (s2 i hi),λi hi=>eG.trans s1 (h.back i hi)⟩
theorem xh {W w r:Nat} (h:W<=2^w):(16*W)^r<=2^(r*(w+4)):=by
 calc (16*W)^r<=(2^(w+4))^r:=kh (by rw[aY];lia) _
  _=2^(r*(w+4)):=by rw[<- v9,cH]
theorem De.done {rows:LR9} {n w:Nat} {ls:List (List Int)} {ps:List Nat} {d:Int} (h:De (rows.map gE) n n ls ps d) (hw:∀xs∈rows,xs.length=n) (F:EK rows n w) :
  ∃R,Td rows n w R ps d (ls.take ps.length):=by
 obtain ⟨W,hW,W2,ent⟩:=F.ent;obtain ⟨_,_,_,_,_,_,_,_,r15,_⟩:=F;have hl:=h.len;have d0:=h.d0;have d0':(d:Rat)≠0:=λz=>d0 (pQ z)
 have km:=h.el.km;have hm:(rows.map gE).length=rows.length:=ah ..;obtain ⟨s1,s2⟩:=h.sz (r:=min rows.length n) hW ent (aw _) (by rw[hm];exact aw _) r15;have s2':∀zs∈ls,∀z∈zs,z.natAbs<=2^(min rows.length n*(w+4)):=λzs hz z hz'=>ai (s2 zs hz z hz') (xh W2)
 have er:∀i c,bV ((ls.take ps.length).map λzs=>zs.map λ(z:Int)=>(z:Rat) / (d:Rat)) i c=dH (ls.take ps.length) i c / (d:Rat):=λi c=>by
  unfold bV dH;rw[aa (l:=List.map _ _),aD,aa (l:=List.take _ _)];cases e:(ls.take ps.length)[i]? with
  | none=>show (0:Rat)=((0:Int):Rat) / _;grind
  | some zs =>
   show (zs.map λ(z:Int)=>(z:Rat) / (d:Rat)).getD c 0=((zs.getD c 0:Int):Rat) / (d:Rat)
   rw[aa,aa,aD];cases e2:zs[c]? with
   | none=>show (0:Rat)=((0:Int):Rat) / _;grind
   | some z=>rfl
 have et:∀i,i < ps.length->∀c,dH (ls.take ps.length) i c=dH ls i c:=λi hi c=>by
  unfold dH;rw[aa (l:=List.take _ _),kC hi,<- aa]
 have RR:=(h.el.done λi hi c hc=>uy (n:=n) (λzs hz=>by
  obtain ⟨xs,hx,rfl⟩:=az.mp hz;rw[nk];exact hw xs hx) hc).congrR (R2:=bV ((ls.take ps.length).map λzs=>zs.map λ(z:Int)=>(z:Rat) / (d:Rat))) λi hi c=>by rw[er,et i hi]
 rw[hm] at RR;refine ⟨(ls.take ps.length).map λzs=>zs.map λ(z:Int)=>(z:Rat) / (d:Rat),⟨by rw[ah,bR];lia,λxs hx=>?_,RR.other yQ yR⟩,d0,by rw[bR];lia,λzs hz=>h.wide zs (cb hz),λi c=>?_,ai s1 (xh W2),λzs hz=>s2' zs (cb hz),λxs hx x hx'=>?_,by lia⟩
 ·obtain ⟨zs,hz,rfl⟩:=az.mp hx;rw[ah];exact h.wide zs (cb hz)
 ·rw[er];grind
 ·obtain ⟨zs,hz,rfl⟩:=az.mp hx;obtain ⟨z,hz',rfl⟩:=az.mp hx';have b:=s2' zs (cb hz) z hz';rcases Gu d with e | e
  ·refine ⟨z,?_,b⟩;have:((d.natAbs:Nat):Rat)=(d:Rat):=by rw[<- bh,<- e]
   rw[this];grind
  ·refine ⟨-z,?_,by rw[jE];exact b⟩;have:((d.natAbs:Nat):Rat)=-(d:Rat):=by rw[<- bh,<- cP];congr 1;lia
   rw[this,cP];grind
theorem Mg {R R':LR9} {n:Nat} (hl:R.length=R'.length) (w1:∀xs∈R,xs.length=n) (w2:∀xs∈R',xs.length=n) (h:∀i,i < R.length->∀c,bV R i c=bV R' i c):R=R':=by
 apply d9 hl;intro i h1 h2;apply d9 (by rw[w1 _ (aL h1),w2 _ (aL h2)]);intro c h3 h4;have:=h i h1 c;unfold bV at this;rw[aa (l:=R),aa (l:=R'),ag h1,ag h2] at this;have this:(R[i]).getD c 0=(R'[i]).getD c 0:=this;rw[aa,aa,ag h3,ag h4] at this;exact this
theorem bK.uniq {rows rows' R R':LR9} {n:Nat} {ps ps':List Nat} (h:bK rows n R ps) (h':bK rows' n R' ps') (s1:∀i,i < rows.length->eG rows'.length (bV rows') (bV rows i)) (s2:∀i,i < rows'.length->eG rows.length (bV rows) (bV rows' i)):R=R'/\ps=ps':=by
 obtain ⟨l1,w1,r1⟩:=h;obtain ⟨l2,w2,r2⟩:=h';obtain ⟨ek,ep,eR⟩:=r1.uniq r2 s1 s2;refine ⟨Mg (by lia) w1 w2 λi hi c=>eR i (by lia) c,?_⟩;apply d9 ek;intro j h1 h2;have:=ep j h1;rw[aa,aa,ag h1,ag h2] at this;exact this
theorem bK.same {rows R R':LR9} {n:Nat} {ps ps':List Nat} (h:bK rows n R ps) (h':bK rows n R' ps'):R=R'/\ps=ps':=h.uniq h' (λ_ hi=>eG.row hi) (λ_ hi=>eG.row hi)
open PySem PySem.Spec PyProof.Rows
def Jw (l:Addr) (H:Hp) (zs:List Int) (v:V):Prop:=∃q,v=V.ref q/\q≠l/\H q=some (.lst (zs.map V.int))
def rR (l:Addr) (H:Hp) (p:Addr) (ls:List (List Int)):Prop:=p≠l/\∃xs,H p=some (.lst xs)/\Paired (Jw l H) ls xs
theorem Jw.same {l:Addr} {H H':Hp} {zs:List Int} {v:V} (h:Jw l H zs v) (e:aF H H'):Jw l H' zs v:=by obtain ⟨q,a,n,b⟩:=h;exact ⟨q,a,n,e _ _ b⟩
theorem Jw.upd {l:Addr} {H:Hp} {zs:List Int} {v:V} {o:HO} (h:Jw l H zs v):Jw l (upd H l o) zs v:=by obtain ⟨q,a,n,b⟩:=h;exact ⟨q,a,n,by rw[bf n];exact b⟩
theorem rR.upd {l:Addr} {H:Hp} {p:Addr} {ls:List (List Int)} {o:HO} (h:rR l H p ls):rR l (upd H l o) p ls:=by obtain ⟨n,xs,a,b⟩:=h;exact ⟨n,xs,by rw[bf n];exact a,Paired.imp' (λ_ _ z=>z.upd) b⟩
theorem ne_old {H:Hp} {l r:Addr} (h:H l≠none) (n:H r=none):r≠l:=λz=>h (by rw[<- z];exact n)
theorem jK {α β:Type} {F:α->β->Prop}:∀{l1:List α} {l2:List β} (_:Paired F l1 l2) (i:Nat) {x:α} {y:β},F x y->Paired F (l1.set i x) (l2.set i y)
 | _,_,.nil,_,_,_,_=>.nil
 | _,_,.cons _ r,0,_,_,h=>.cons h r
 | _,_,.cons a r,i+1,_,_,h=>.cons a (jK r i h)
theorem KO {ls:List (List Int)} {i c:Nat} {zs:List Int} (h:ls[i]?=some zs):dH ls i c=((zs.getD c 0:Int):Rat):=by
 unfold dH;rw[aa (l:=ls),h];rfl
theorem SN {z:Int}:((z:Int):Rat)≠0↔z≠0:=⟨λh e=>h (by rw[e];rfl),λh e=>h (pQ e)⟩
theorem zh {zs:List Int} {c:Nat} (h:c < zs.length):Ie (zs.map V.int) (c:Int)=some (V.int (zs.getD c 0)):=dX (by rw[aD,aa,ag h];rfl)
inductive Cn (vs:List V) (H:Hp) (Q:VK) (E9:XK):Prop
 | mk (l p:Addr) (ls:List (List Int)) (b c:Nat):vs=[.ref p,.int b,.int c]->rR l H p ls->ls.length<=1000->b<=1000->(∀zs∈ls,c < zs.length)->(∀t:Nat,b<=t->t < ls.length->dH ls t c≠0->Q (.int t) H)->((∀t,b<=t->t < ls.length->dH ls t c=0)->Q .non H)->Cn  vs H Q E9
inductive xM (vs:List V) (H:Hp) (Q:VK) (E9:XK):Prop
 | mk (l p:Addr) (ls:List (List Int)) (t k:Nat):vs=[.ref p,.int t,.int k]->H l≠none->rR l H p ls->ls.length<=1000->t < ls.length->k < ls.length->(∀r H',H r=none->aF H H'->rR l H' r (oo ls k t)->Q (.ref r) H')->xM  vs H Q E9
inductive Co (vs:List V) (H:Hp) (Q:VK) (E9:XK):Prop
 | mk (l p:Addr) (ls:List (List Int)) (k c n:Nat) (b:Int):vs=[.ref p,.int k,.int c,.int b]->H l≠none->rR l H p ls->ls.length<=1000->k < ls.length->(∀zs∈ls,zs.length=n)->n<=1000->c < n->b≠0->Sz 449950 b->(∀zs∈ls,∀z∈zs,Sz 449950 z)->(∀r H',H r=none->aF H H'->rR l H' r (FQ ls k c b)->Q (.ref r) H')->Co  vs H Q E9
theorem Lu (K:FG9) {X:Cx} {a b:Expr} {ta:TA} {p pos tpos:Pos} {elts:List Expr} {kk:Nat} (hg:Gl X "zip") (hm:X.mg "zip"=none) (ha:PA X [a,b] ta) (hK:X.K=K:=by rfl) (hs:starEach [a,b] X.env=[(false,eval a X.env),(false,eval b X.env)]:=by rfl) (hs2:starEach [b] X.env=[(false,eval b X.env)]:=by rfl) :
  PI X (.Tuple elts kk tpos) (.Call (.Name "zip" p) [a,b] [] pos) (Qq K ta):=by subst hK;exact kE hg hm ha hs hs2
def c7 (ps:List Nat):List V:=ps.map λ(j:Nat)=>V.int (j:Int)
inductive BX (K:FG9) (vs:List V) (H:Hp) (Q:VK) (E9:XK):Prop
 | mk (p:Addr) (n w:Nat) (H0:Hp) (rows:LR9):vs=[.ref p,.int n]->bA K H0 H p rows->rows.length<=100->n<=100->(∀xs∈rows,xs.length=n)->EK rows n w->(∀t lp qp R ps d ls H',H' t=some (.tup [.ref lp,.ref qp])->H' qp=some (.lst (c7 ps))->rR qp H' lp ls->aF H H'->Td rows n w R ps d ls->Q (.ref t) H')->BX K vs H Q E9
inductive xK (K:FG9) (vs:List V) (H:Hp) (Q:VK) (E9:XK):Prop
 | mk (p:Addr) (n w:Nat) (H0:Hp) (rows:LR9):vs=[.ref p,.int n]->bA K H0 H p rows->rows.length<=100->n<=100->(∀xs∈rows,xs.length=n)->EK rows n w->(∀r R ps M H',H r=none->aF H H'->bA K H H' r R->bK rows n R ps->ps.length<=rows.length->0 < M->M<=2^(min rows.length n*(w+4))->(∀xs∈R,∀x∈xs,Tp M (2^(min rows.length n*(w+4))) x)->Q (.ref r) H')->xK K vs H Q E9
def yL (rows:LR9) (i:Nat):Rat:=((gG ((rows.getD i []).map nm):Int):Rat)
theorem vK {rows:LR9} {i:Nat}:yL rows i≠0:=λz=>by
 have:=nO (xs:=rows.getD i []);have:=pQ z
 lia
structure yC (rows:LR9) (n P:Nat) (rs:LR9) (ps:List Nat):Prop where
 len:rs.length=rows.length
 wide:∀xs∈rs,xs.length=n
 ex:∃pm l d,we (dH (rows.map gE)) rows.length ps.length pm (λj=>ps.getD j 0) l d/\jU (dH (rows.map gE)) rows.length ps.length P (λj=>ps.getD j 0) l d/\∀i,i < rows.length->∀c,bV rs i c=l i c / (d*if i < ps.length then 1 else yL rows (pm i))
section
variable {rows rs rs':LR9} {n P w a:Nat} {ps:List Nat}
theorem LQ {d:Rat} {k i j:Nat} (h:d≠0):d*(if i < k then 1 else yL rows j)≠0:=by
 have:=vK (rows:=rows) (i:=j)
 split <;> grind
theorem yC.start (hw:∀xs∈rows,xs.length=n):yC rows n 0 rows []:=⟨rfl,hw,λi=>i,dH (rows.map gE),1,we.start λ_ _=>rfl,jU.start,λi hi c=>by
 rw[xJ hi,if_neg (by show ¬i < 0;lia)];have:=vK (rows:=rows) (i:=i);show bV rows i c=yL rows i*bV rows i c / (1*yL rows i)
 grind⟩
theorem yC.skip (h:yC rows n P rs ps) (hz:∀i,ps.length<=i->i < rs.length->bV rs i P=0):yC rows n (P+1) rs ps:=by
 obtain ⟨len,wide,pm,l,d,B,E,v⟩:=h;refine ⟨len,wide,pm,l,d,B,E.skip λi h1 h2=>?_,v⟩;have:=v i h2 P;rw[hz i h1 (by lia)] at this;have ne:=LQ (rows:=rows) (i:=i) (j:=pm i) (k:=ps.length) B.d0;generalize d*(if i < ps.length then 1 else yL rows (pm i))=D at this ne;grind
theorem yC.km (h:yC rows n P rs ps):ps.length<=rows.length/\ps.length<=P:=by obtain ⟨_,_,_,_,_,_,E,_⟩:=h;exact ⟨E.km,E.kP⟩
theorem yC.step (h:yC rows n P rs ps) {t:Nat} (ht:ps.length<=t) (ht2:t < rs.length) (hne:bV rs t P≠0) (l':rs'.length=rows.length) (w':∀xs∈rs',xs.length=n)
  (hv:∀i,i < rows.length->∀c,bV rs' i c=if i=ps.length then 1 / bV rs t P*bV rs t c else bV rs (jD ps.length t i) c - bV rs (jD ps.length t i) P*(1 / bV rs t P*bV rs t c)):yC rows n (P+1) rs' (ps++[P]):=by
 obtain ⟨len,wide,pm,l,d,B,E,v⟩:=h;have hk:ps.length < rows.length:=by lia
 have B1:=B.swap ht (by lia);have E1:=E.swap ht (by lia);have d0:=B.d0
 have v1:∀i,i < rows.length->∀c,bV rs (jD ps.length t i) c=l (jD ps.length t i) c / (d*if i < ps.length then 1 else yL rows (pm (jD ps.length t i))):=λi hi c=>by
  rw[v _ (sL hk (by lia) hi) c];by_cases z:i < ps.length
  ·rw[tW ht z,if_pos z]
  ·rw[if_neg z,if_neg (by have:=uE ht (show ps.length<=i by lia);lia)]
 have sk:jD ps.length t ps.length=t:=by unfold jD;rw[if_pos rfl]
 have vt:∀c,bV rs t c=l (jD ps.length t ps.length) c / (d*yL rows (pm (jD ps.length t ps.length))):=λc=>by
  have:=v1 ps.length hk c;rw[if_neg (by lia),sk] at this;rw[sk];exact this
 have bt:=vK (rows:=rows) (i:=pm (jD ps.length t ps.length));have h1:l (jD ps.length t ps.length) P≠0:=λz=>hne (by rw[vt P,z];grind)
 have B2:=B1.step (c0:=P) hk h1;have lp:(ps++[P]).length=ps.length+1:=by rw[ao];rfl
 have hp:∀j,j < ps.length+1->(ps++[P]).getD j 0=if j=ps.length then P else ps.getD j 0:=λj hj=>getD_snoc hj
 refine ⟨l',w',λi=>pm (jD ps.length t i),_,_,by rw[lp];exact B2.congr (l2:=λi c=>if i=ps.length then l (jD ps.length t ps.length) c else (l (jD ps.length t ps.length) P*l (jD ps.length t i) c - l (jD ps.length t i) P*l (jD ps.length t ps.length) c) / d) hp (λ_ _ _=>rfl),?_,λi hi c=>?_⟩
 ·rw[lp];refine jU.congr (E1.step (d':=l (jD ps.length t ps.length) P) (l':=λi c=>if i=ps.length then l (jD ps.length t ps.length) c else (l (jD ps.length t ps.length) P*l (jD ps.length t i) c - l (jD ps.length t i) P*l (jD ps.length t ps.length) c) / d) hk h1 B2.unit λi hi=>?_) hp (λ_ _ _=>rfl);by_cases e:i=ps.length
  ·refine ⟨1,0,by decide,λ_=>rfl,λc=>?_⟩;rw[if_pos e,e];grind
  ·refine ⟨l (jD ps.length t ps.length) P / d,-(l (jD ps.length t i) P) / d,?_,λz=>absurd z e,λc=>?_⟩
   ·intro z;apply h1;grind
   ·rw[if_neg e];grind
 ·rw[hv i hi c,lp,vt c,vt P];by_cases e:i=ps.length
  ·rw[if_pos e,if_pos e,if_pos (by lia)];grind
  ·rw[if_neg e,if_neg e,v1 i hi c,v1 i hi P];have ne:=LQ (rows:=rows) (i:=i) (j:=pm (jD ps.length t i)) (k:=ps.length) d0;by_cases z:i < ps.length
   ·rw[if_pos z,if_pos (by lia)];grind
   ·have bi:=vK (rows:=rows) (i:=pm (jD ps.length t i));rw[if_neg z,if_neg (by lia)];grind
theorem yC.done (h:yC rows n n rs ps) (hw:∀xs∈rows,xs.length=n):bK rows n (rs.take ps.length) ps:=by
 obtain ⟨len,wide,pm,l,d,B,E,v⟩:=h;have km:=E.km;refine ⟨by rw[bR];lia,λxs hx=>wide xs (cb hx),Dg.other ((E.done λi hi c hc=>?_).congrR λi hi c=>?_) yQ yR⟩
 ·exact uy (n:=n) (λzs hz=>by
   obtain ⟨xs,hx,rfl⟩:=az.mp hz;rw[nk];exact hw xs hx) hc
 ·have e:bV (rs.take ps.length) i c=bV rs i c:=by
   unfold bV;rw[aa (l:=List.take _ _),kC hi,<- aa]
  rw[e,v i (by lia) c,if_pos hi,Rat.mul_one]
def O4 (rows:LR9) (n w a:Nat):Prop:=∃M W:Nat,0 < M/\M<=2^a/\1<=W/\W<=2^w/\(∀xs∈rows,∀x∈xs,Tp M W x)/\min rows.length n<=15/\2*(min rows.length n*(w+4)+a)<=199500
theorem O4.ent (F:O4 rows n w a):∃W:Nat,1<=W/\W<=2^w/\∀i,i < rows.length->∀c,Fr 1 W (dH (rows.map gE) i c):=by
 obtain ⟨M,W,h0,h1,hW,h2,h3,_⟩:=F;refine ⟨W,hW,h2,λi hi c=>?_⟩;have hx:=getD_in (e:=[]) hi;rw[xJ hi];unfold bV;generalize rows.getD i []=xs at hx ⊢;by_cases hc:c < xs.length
 ·have t:=h3 xs hx _ (getD_in (e:=0) hc);obtain ⟨s,e,b⟩:=wB t h0 (nO (xs:=xs)) (nP (az.mpr ⟨_,getD_in (e:=0) hc,rfl⟩)) (y9 h0 (h3 xs hx));rw[dJ,e];exact Fr.int b
 ·rw[aa,aO (by lia)];show Fr 1 W (_*0)
  rw[fZ];exact Fr.zero
theorem O4.bot (F:O4 rows n w a) {i:Nat} (hi:i < rows.length):∃b:Nat,0 < b/\b<=2^a/\yL rows i=(b:Rat):=by
 obtain ⟨M,W,h0,h1,hW,h2,h3,_⟩:=F;have hx:=getD_in (e:=[]) hi;have p:=nO (xs:=rows.getD i []);have dv:=y9 h0 (h3 _ hx);refine ⟨(gG ((rows.getD i []).map nm)).natAbs,by lia,ai (gI h0 ?_) h1,?_⟩
 ·have:=d5.mpr dv;rwa [cT] at this
 ·unfold yL;rw[<- bh];congr 1
  lia
theorem Pe {l D:Rat} {z y:Int} {W:Nat} (hl:l=(z:Rat)) (hD:D=(y:Rat)) (h0:D≠0) (hz:z.natAbs<=W):Tp y.natAbs W (l / D):=by
 rcases Gu y with e | e
 ·refine ⟨z,?_,hz⟩;have:((y.natAbs:Nat):Rat)=D:=by rw[<- bh,<- e,hD]
  rw[this,hl];grind
 ·refine ⟨-z,?_,by rw[jE];exact hz⟩;have:((y.natAbs:Nat):Rat)=-D:=by rw[<- bh,hD,<- cP];congr 1;lia
  rw[this,hl,cP];grind
theorem yC.sz (h:yC rows n P rs ps) (F:O4 rows n w a) (hP:P<=n) {i:Nat} (hi:i < rows.length):∃D:Nat,0 < D/\D<=2^(min rows.length n*(w+4)+a)/\∀c,Tp D (2^(min rows.length n*(w+4))) (bV rs i c):=by
 obtain ⟨len,wide,pm,l,d,B,E,v⟩:=h;obtain ⟨W,hW,W2,ent⟩:=F.ent;obtain ⟨_,_,_,_,_,_,_,r15,_⟩:=id F;have kP:=E.kP;have km:=B.km;have mono:∀{s t:Nat},s<=t->(16*W)^s<=(16*W)^t:=λhs=>av (b7 (by decide) hW) hs
 obtain ⟨y,ey⟩:=vh (B.dfr (W:=W) (N:=16) (by lia) ent);have hy:=B.dfr (W:=W) (N:=16) (by lia) ent;rw[ey] at hy;have yb:y.natAbs<=2^(min rows.length n*(w+4)):=ai (ux hy) (ai (mono (show ps.length<=min rows.length n by lia)) (xh W2));have y0:y≠0:=λz=>B.d0 (by rw[ey,z];rfl)
 have lb:∀c,∃z:Int,l i c=(z:Rat)/\z.natAbs<=2^(min rows.length n*(w+4)):=λc=>by
  by_cases hk:i < ps.length
  ·have f:Fr 1 ((16*W)^ps.length) (l i c):=by
    rw[B.old hk]
    have:=AK (W:=W) (N:=16) (rs:=w5 pm ps.length) (vs:=KC (λj r=>dH (rows.map gE) r (ps.getD j 0)) i ps.length++(λr=>dH (rows.map gE) r c) :: pd (λj r=>dH (rows.map gE) r (ps.getD j 0)) i) (by
     have:=congrArg List.length (cw_split (v:=λj r=>dH (rows.map gE) r (ps.getD j 0)) hk);rw[ao,bg,cw_len] at this;rw[ao,bg]
     lia) (by
     intro v hv r hr
     have hr':∀c,Fr 1 W (dH (rows.map gE) r c):=λc=>by
      obtain ⟨t,ht,rfl⟩:=mR hr;exact ent _ (B.rng t (by lia)) c
     rcases ax.mp hv with hv | hv
     ·obtain ⟨t,_,rfl⟩:=FP hv;exact hr' _
     ·rcases aG.mp hv with rfl | hv
      ·exact hr' _
      ·obtain ⟨t,_,rfl⟩:=cw_in hv;exact hr' _)
    rwa [qU] at this
   obtain ⟨z,ez⟩:=vh f;rw[ez] at f;exact ⟨z,ez,ai (ux f) (ai (mono (by lia)) (xh W2))⟩
  ·by_cases hn:ps.length < n
   ·have f:=B.fr (W:=W) (N:=16) (by lia) hW ent (i:=i) (c:=c) hi;obtain ⟨z,ez⟩:=vh f;rw[ez] at f;exact ⟨z,ez,ai (ux f) (ai (mono (by lia)) (xh W2))⟩
   ·refine ⟨0,?_,aZ _⟩;by_cases hc:c < n
    ·rw[E.zero i (by lia) hi c (by lia)];rfl
    ·have:=v i hi c;rw[HY wide (by lia)] at this;have ne:=LQ (rows:=rows) (i:=i) (j:=pm i) (k:=ps.length) B.d0;generalize d*(if i < ps.length then 1 else yL rows (pm i))=D at this ne;show l i c=0
     grind
 obtain ⟨b,b0,b1,eb⟩:∃b:Nat,0 < b/\b<=2^a/\(if i < ps.length then 1 else yL rows (pm i))=(b:Rat):=by
  by_cases hk:i < ps.length
  ·exact ⟨1,by decide,bW,by rw[if_pos hk];rfl⟩
  ·obtain ⟨b,x1,x2,x3⟩:=F.bot (B.rng i hi);exact ⟨b,x1,x2,by rw[if_neg hk,x3]⟩
 have eD:d*(b:Rat)=((y*b:Int):Rat):=by rw[aS,ey,bh]
 refine ⟨(y*b).natAbs,?_,?_,λc=>?_⟩
 ·rw[dO,cT];exact b7 (by lia) b0
 ·rw[dO,cT,aY];exact aJ yb b1
 ·obtain ⟨z,ez,bz⟩:=lb c;rw[v i hi c,eb];refine Pe ez eD (λq=>?_) bz;rw[eD] at q;have:=pQ q;rcases Int.mul_eq_zero.mp this with q | q
  ·exact y0 q
  ·lia
end
theorem kT {M W:Nat} {x:Rat} (h:Tp M W x) (h0:0 < M) (h1:M<=2^199750) (h2:W<=2^199750):kK x:=by
 refine ⟨?_,?_⟩
 ·obtain ⟨s,e,b⟩:=wB h h0 (gM x) (JB _) (tV h);have e2:(((nm x).1:Int):Rat)=(s:Rat):=by rw[<- e];exact kG x
  rw[di.mp e2];exact bo (ai b h2) (dB (by decide) (by decide))
 ·have:=gI h0 (lW.mp (tV h));show ((x.den:Nat):Int).natAbs < _
  rw[cT];exact bo (ai this h1) (dB (by decide) (by decide))
theorem Tp.mul {M W M' W':Nat} {x y:Rat} (h:Tp M W x) (h':Tp M' W' y):Tp (M*M') (W*W') (x*y):=by
 obtain ⟨z,e,b⟩:=h;obtain ⟨z',e',b'⟩:=h';refine ⟨z*z',?_,by rw[dO];exact aJ b b'⟩;rw[aS,<- e,<- e',p9];grind
theorem M9 {x:Rat} (h:kK x) (h0:x≠0):kK (1 / x):=by
 have n0:x.num≠0:=λz=>h0 (Rat.num_eq_zero.mp z)
 have e:=kG x;have e1:(1 / x)*(x.num:Rat)=(x.den:Rat):=by rw[e];grind
 have t:Tp x.num.natAbs x.den (1 / x):=by
  rcases Gu x.num with q | q
  ·refine ⟨x.den,?_,by simp⟩;have:((x.num.natAbs:Nat):Rat)=(x.num:Rat):=by rw[<- bh,<- q]
   rw[this,e1,bh]
  ·refine ⟨-(x.den:Int),?_,by simp⟩;have:((x.num.natAbs:Nat):Rat)=-(x.num:Rat):=by rw[<- bh,<- cP];congr 1;lia
   rw[this,cP,bh,<- e1];grind
 obtain ⟨h1,h2⟩:=h;have h1:x.num.natAbs < 2^200000:=h1;have h2:((x.den:Nat):Int).natAbs < 2^200000:=h2;rw[cT] at h2;refine ⟨?_,?_⟩
 ·obtain ⟨s,e,b⟩:=wB t (by lia) (gM (1 / x)) (JB _) (tV t);have e2:(((nm (1 / x)).1:Int):Rat)=(s:Rat):=by rw[<- e];exact kG (1 / x)
  rw[di.mp e2];exact bo b h2
 ·have:=gI (show 0 < x.num.natAbs by lia) (lW.mp (tV t));show (((1 / x).den:Nat):Int).natAbs < _
  rw[cT];exact bo this h1
inductive zC (K:FG9) (vs:List V) (H:Hp) (Q:VK) (E9:XK):Prop
 | mk (u v:V) (x y:Rat):vs=[u,v]->cA K H x u->cA K H y v->kK x->kK y->y≠0->(∀r H',aF H H'->cA K H' (x / y) (.ref r)->Q (.ref r) H')->zC K vs H Q E9
theorem Fp {K:FG9} {vs:List V} {H:Hp} {Q:VK} {E:XK} (h:zC K vs H Q E):Nf K vs H Q E:=by
 obtain ⟨u,v,x,y,rfl,⟨p,rfl,hp⟩,⟨q,rfl,hq⟩,⟨s1,s2⟩,⟨s3,s4⟩,y0,k⟩:=h;have n0:(nm y).1≠0:=λz=>y0 (Rat.num_eq_zero.mp z)
 have px:=gM x;have py:=gM y;have e1:=oQ x;have e2:=oQ y;have dx:(((nm x).2:Int):Rat)≠0:=λz=>by have:=pQ z;lia
 have dy:(((nm y).2:Int):Rat)≠0:=λz=>by have:=pQ z;lia
 refine ⟨p,q,_,_,_,_,rfl,hp,hq,px,py,n0,s1,s2,s3,s4,λr H' s g=>k r H' s (cA.mk g ?_)⟩;by_cases hc:(nm y).1 < 0
 ·rw[if_pos hc,if_pos hc];refine kJ (by have:=uD px hc;lia) ?_;rw[Bf,Bf,aS,aS,e1,e2];show x / y*(((0:Int):Rat) - _)=((0:Int):Rat) - _
  grind
 ·rw[if_neg hc,if_neg hc];refine kJ (gD px (by lia)) ?_;rw[aS,aS,e1,e2];grind
inductive wG (K:FG9) (vs:List V) (H:Hp) (Q:VK) (E9:XK):Prop
 | mk (p q:Addr) (xs ys:List Rat):vs=[.ref p,.ref q]->cL K H p xs->cL K H q ys->ys.length=xs.length->xs.length<=1000->(∀x∈xs,kK x)->(∀y∈ys,kK y)->(∀r H',H r=none->aF H H'->cL K H' r (List.zipWith (λx y=>x - y) xs ys)->Q (.ref r) H')->wG K vs H Q E9
theorem Md {xs ys:List Rat} {c:Nat} (h:xs.length=ys.length):(List.zipWith (λx y=>x - y) xs ys).getD c 0=xs.getD c 0 - ys.getD c 0:=by
 rw[aa,aa,aa,bS];by_cases hc:c < xs.length
 ·rw[ag hc,ag (show c < ys.length by lia)];rfl
 ·rw[aO (by lia),aO (by lia)];show (0:Rat)=0 - 0
  grind
theorem CD {xs:List Rat} {c:Nat} {q:Rat}:(xs.map λy=>q*y).getD c 0=q*xs.getD c 0:=by
 rw[aa,aa,aD];cases xs[c]? with
 | none=>show (0:Rat)=q*0;grind
 | some x=>rfl
inductive zE (K:FG9) (vs:List V) (H:Hp) (Q:VK) (E9:XK):Prop
 | mk (p:Addr) (n:Nat) (H0:Hp) (R:LR9) (ps:List Nat):vs=[.ref p]->bA K H0 H p R->R.length<=100->n<=100->(∃rows,bK rows n R ps)->(∀r H',H r=none->aF H H'->H' r=some (.lst (c7 ps))->Q (.ref r) H')->zE K vs H Q E9
theorem Gy {xs ys:List Rat} (h:ys.length=xs.length):List.zipWith (λx y=>x - y) xs ys=(List.range xs.length).map λi=>xs.getD i 0 - ys.getD i 0:=by
 apply jC;intro i;rw[bS,aD];by_cases hi:i < xs.length
 ·rw[cV hi,ag hi,ag (show i < ys.length by lia)];simp [aa,ag hi,ag (show i < ys.length by lia)]
 ·rw[aO (show (List.range xs.length).length<=i by simp;lia),aO (show xs.length<=i by lia)];rfl
theorem CC {K:FG9} {H0 H H':Hp} {q:Addr} {rows:LR9} {vs:List V} (pr:Paired (cO K H0 H) rows vs) (s:aF H H') (n:H q=none) (g:H' q=some (.lst vs)):bA K H0 H' q rows :=
 ⟨vs,g,Paired.imp' (λ_ _ z=>z.same s) pr,λz=>by
  obtain ⟨_,_,q',e,_,_,g',_⟩:=dn pr z;cases e;rw[n] at g';cases g'⟩
theorem M8:kK 1:=kT (M:=1) (W:=1) ⟨1,by simp,by decide⟩ (by decide) bW bW
theorem bK.le {rows R:LR9} {n:Nat} {ps:List Nat} (h:bK rows n R ps):ps.length<=n:=by
 obtain ⟨_,_,rr⟩:=h;rcases b8 n ps.length with z | z
 ·have inc:∀j,j < ps.length->j<=ps.getD j 0:=by
   intro j
   induction j with
   | zero=>intro _;exact aZ _
   | succ j ih =>
    intro hj;have:=ih (by lia);have:=rr.inc j (j+1) (by lia) hj
    lia
  have h1:=inc (ps.length - 1) (by lia);have h2:=rr.low (ps.length - 1) (by lia)
  lia
 ·exact z
theorem Tp.zero {M W:Nat}:Tp M W 0:=⟨0,by simp,by simp⟩
theorem Tp.add {M W W':Nat} {x y:Rat} (h:Tp M W x) (h':Tp M W' y):Tp M (W+W') (x+y):=by
 obtain ⟨z,e,b⟩:=h;obtain ⟨z',e',b'⟩:=h';refine ⟨z+z',?_,ai (Int.natAbs_add_le _ _) (Nat.add_le_add b b')⟩;rw[Bg,<- e,<- e'];grind
theorem Tp.sum {M W:Nat} {f:Nat->Rat}:∀{k:Nat},(∀j,j < k->Tp M W (f j))->Tp M (k*W) (bH k f)
 | 0,_=>Tp.zero
 | k+1,h=>by
  have:=(Tp.sum (k:=k) λj hj=>h j (by lia)).add (h k (by lia));exact this.mono (by rw[j7];exact aw _)
theorem oj {M W:Nat} {xs:List Rat} (h:∀x∈xs,Tp M W x) (c:Nat):Tp M W (xs.getD c 0):=by
 by_cases hc:c < xs.length
 ·exact h _ (getD_in hc)
 ·rw[aa,aO (by lia)];exact Tp.zero
theorem KR {M W:Nat} {R:LR9} (h:∀xs∈R,∀x∈xs,Tp M W x) (i c:Nat):Tp M W (bV R i c):=by
 unfold bV;by_cases hi:i < R.length
 ·exact oj (h _ (getD_in hi)) c
 ·rw[aa (l:=R),aO (by lia)];exact Tp.zero
theorem Pj {rows:LR9} {n m w M:Nat} (hM:0 < M) (h1:M<=2^215000) (hw:w<=215000) (tp:∀xs∈rows,∀x∈xs,Tp M (2^w) x) (hr:min rows.length n<=m) (h15:m<=15) (h89:m*(w+4)<=445000):EK rows n w :=
 ⟨M,2^w,hM,h1,bW,aw _,tp,hw,by lia,ai (aA _ hr) h89⟩
theorem Km {K:FG9} {l:Addr} {xs:List V} {g:TG} {tf:TT} {te:TE} {Q:VK} {σ₀:St} {H:Hp} (Pv:Nat->List V->Hp->Prop) (hz:xs.length<=sizeLine) (h0:Pv 0 [] H) (hl:∀i ys H,i<=xs.length->Pv i ys H->bE K H l xs)
  (hs:∀i x ys H p,xs[i]?=some x->ys.length<=i->Pv i ys H->H p=none->pI σ₀ g tf te (.ref p) (upd H p (.tup [.int i,x])) (λy H'=>Pv (i+1) (ys++[y]) H') (λH'=>Pv (i+1) ys H'))
  (hd:∀ys H,ys.length<=xs.length->Pv xs.length ys H->∀p,H p=none->Q (.ref p) (upd H p (.lst ys))):pU (QI K l) σ₀ g tf te Q H:=by
 refine ⟨λi m ys H=>m=xs.length - i/\i<=xs.length/\ys.length<=i/\Pv i ys H,⟨xs.length,by simp,aZ _,aZ _,h0⟩,?_⟩;rintro i m ys H ⟨rfl,hi,hy,p⟩;have q1:=hl i ys H hi p;by_cases hlt:i < xs.length
 ·refine .inr ⟨⟨xs,xs[i],q1,by simp [hlt]⟩,by lia,λy H'=>Pv (i+1) (ys++[y]) H',λH'=>Pv (i+1) ys H',λy H' p'=>⟨xs.length - (i+1),by lia,rfl,hlt,by rw[ao,aX];lia,p'⟩,λH' p'=>⟨xs.length - (i+1),by lia,rfl,hlt,by lia,p'⟩,λx H' y=>?_⟩;obtain ⟨r,x',rfl,hr,rfl,e1⟩:=y;exact hs i x' ys _ r (e1 xs q1) hy p hr
 ·have e:i=xs.length:=by lia
  subst e;exact .inl ⟨⟨xs,q1,aw _⟩,by lia,hd ys H hy p⟩
section
variable {X:Cx}
theorem Ko (hc:X.calm=true):pV X (.builtin "min") (λxs H Q=>∃(p:Addr) (ns:List Int),xs=[.ref p]/\bE X.K H p (ns.map V.int)/\0 < ns.length/\∀M,M∈ns->(∀a,a∈ns->M<=a)->Q (.int M) H):=by
 intro pins s σ H xs us Q I r h;obtain ⟨p,ns,rfl,hp,hne,q⟩:=h;obtain ⟨u,rfl,ru⟩:=vals1 r;cases ru;obtain ⟨its,r2,pl,_⟩:=I.list hp;have hi:=intsAre_of r2;have hl:=pl.isList;obtain ⟨xs,e⟩:=hi.allInts.items
 have hns:ns=xs.toList.map (·.1):=by
  rw[<- hi.numsOf,<- nums_intItems,<- e]
 have hsz:0 < xs.size:=by
  have h3:=hne;rw[hns,ah,Array.length_toList] at h3;exact h3
 rw[e] at hl;refine min_intList (I.ok.hd hc) hl hsz λv h' tk hv hk=>?_
 obtain ⟨t,rfl⟩:=intItems_at hv;obtain ⟨h1,h2⟩:=argBest_lt (numAt xs) (xs.size - 1);refine ⟨.int _,H,I.kept hk,⟨_,rfl⟩,q _ ?_ λa ha=>?_⟩
 ·rw[hns,numAt_eq];exact getD_in (by rw[ah,Array.length_toList];lia)
 ·rw[hns] at ha;obtain ⟨j,hj,rfl⟩:=mem_getD ha;rw[ah,Array.length_toList] at hj;rw[<- numAt_eq];exact h2 j (by lia)
theorem Bt (K:FG9) (hK:X.K=K):yA X (compareOp .NotIn) (SX K true):=by subst hK;exact DT
end
theorem FF {j:Nat} {ps:List Nat}:SH (.int (j:Int)) (c7 ps)=decide (j∈ps):=by
 unfold SH c7;rw[List.any_map,kO,List.any_eq_true,decide_eq_true_iff];constructor
 ·rintro ⟨x,hx,e⟩;have e:((x:Int) == (j:Int))=true:=e;have:(x:Int)=j:=by simpa using e
  have:x=j:=by lia
  rw[<- this];exact hx
 ·intro h;exact ⟨j,h,by show ((j:Int) == (j:Int))=true;simp⟩
theorem Cu {ps:List Nat}:(c7 ps).all vn=true:=by
 unfold c7;rw[List.all_map];exact oh.mpr λ_ _=>rfl
theorem lF {ps:List Nat}:(c7 ps).length=ps.length:=ah ..
def IX (ps:List Nat):List Int:=ps.map λ(j:Nat)=>(j:Int)
theorem J6 {ps:List Nat}:c7 ps=(IX ps).map V.int:=by unfold c7 IX;rw[iB];rfl
theorem uZ {ps:List Nat} {i:Nat} {v:V} (h:(c7 ps)[i]?=some v):∃j,ps[i]?=some j/\v=V.int (j:Int):=by
 unfold c7 at h;rw[aD] at h;cases e:ps[i]? with
 | none=>rw[e] at h;cases h
 | some x=>rw[e] at h;exact ⟨x,rfl,(bU h).symm⟩
def uC (xs:List Rat) (i:Nat):List Nat:=(List.range i).filter λc=>decide (xs.getD c 0≠0)
theorem mf {xs:List Rat} {i:Nat}:uC xs (i+1)=if xs.getD i 0≠0 then uC xs i++[i] else uC xs i:=by
 unfold uC;rw[iT,List.filter_append];by_cases h:xs.getD i 0≠0
 ·rw[if_pos h,SA (by simpa using h)];rfl
 ·rw[if_neg h,SD (by simpa using h)];simp
def y8 (ps:List Nat) (i:Nat):List Nat:=(List.range i).filter λc=>decide (c∉ps)
theorem AI {ps:List Nat} {i:Nat}:y8 ps (i+1)=if i∉ps then y8 ps i++[i] else y8 ps i:=by
 unfold y8;rw[iT,List.filter_append];by_cases h:i∉ps
 ·rw[if_pos h,SA (by simpa using h)];rfl
 ·rw[if_neg h,SD (by simpa using h)];simp
theorem Qw {ps:List Nat} {i:Nat}:(y8 ps i).length<=i:=by
 unfold y8;exact ai (List.length_filter_le ..) (by rw[cg];exact aw _)
inductive E6 (K:FG9) (vs:List V) (H:Hp) (Q:VK) (E9:XK):Prop
 | mk (p:Addr) (xs:List Rat) (j:Nat):vs=[.ref p]->cL K H p xs->xs.length<=1000->j < xs.length->xs.getD j 0≠0->(∀c,c < j->xs.getD c 0=0)->(∀H',aF H H'->Q (.int (j:Int)) H')->E6 K vs H Q E9
inductive E7 (K:FG9) (vs:List V) (H:Hp) (Q:VK) (E9:XK):Prop
 | mk (p:Addr) (n:Nat) (H0:Hp) (R:LR9) (ps:List Nat):vs=[.ref p,.int n]->bA K H0 H p R->R.length<=100->n<=100->(∃rows,bK rows n R ps)->(∀r H',H r=none->aF H H'->H' r=some (.lst (c7 (y8 ps n)))->Q (.ref r) H')->E7 K vs H Q E9
def IM (R:LR9) (ps:List Nat) (n at_ j:Nat):List Rat:=(List.range n).map λc=>if c=at_ then 1 else bH j λi=>if ps.getD i 0=c then -(bV R i at_) else 0
def Ky (R:LR9) (ps:List Nat) (n at_:Nat):List Rat:=IM R ps n at_ ps.length
def dg (R:LR9) (ps:List Nat) (n:Nat):LR9:=(y8 ps n).map (Ky R ps n)
section
variable {R rows:LR9} {ps:List Nat} {n a j:Nat}
theorem rz:(IM R ps n a j).length=n:=by unfold IM;rw[ah,cg]
theorem OK {c:Nat} (h:c < n):(IM R ps n a j).getD c 0=if c=a then 1 else bH j λi=>if ps.getD i 0=c then -(bV R i a) else 0:=by
 unfold IM;rw[aa,aD,cV h];rfl
theorem N4:IM R ps n a 0=Pc n a:=by
 unfold IM Pc;refine dP λc _=>?_
 by_cases e:c=a
 ·subst e;simp
 ·rw[if_neg e];show (0:Rat)=_
  have:¬(c:Int)=(a:Int):=by lia
  simp [this]
theorem N5 (RR:bK rows n R ps) (hj:j < ps.length) (ha:a∉ps):(IM R ps n a j).set (ps.getD j 0) (-(bV R j a))=IM R ps n a (j+1):=by
 obtain ⟨_,_,rr⟩:=RR;have low:=rr.low j hj;have pm:ps.getD j 0∈ps:=getD_in hj;apply d9 (by rw[dU,rz,rz]);intro c h1 h2;rw[rz] at h2;have e1:(IM R ps n a j)[c]'(by rw[rz];exact h2)=if c=a then 1 else bH j λi=>if ps.getD i 0=c then -(bV R i a) else 0:=by simp only[IM,d7,kR]
 have e2:(IM R ps n a (j+1))[c]'(by rw[rz];exact h2)=if c=a then 1 else bH (j+1) λi=>if ps.getD i 0=c then -(bV R i a) else 0:=by simp only[IM,d7,kR]
 rw[List.getElem_set,e2];have es:bH (j+1) (λi=>if ps.getD i 0=c then -(bV R i a) else 0)=bH j (λi=>if ps.getD i 0=c then -(bV R i a) else 0)+if ps.getD j 0=c then -(bV R j a) else 0:=rfl
 by_cases q:ps.getD j 0=c
 ·rw[if_pos q,if_neg (λz=>ha (by rw[<- z,<- q];exact pm)),es,if_pos q,cS λi hi=>?_,Rat.zero_add];rw[if_neg];intro z;have:=rr.inc i j hi hj
  lia
 ·rw[if_neg q,e1];by_cases z:c=a
  ·rw[if_pos z,if_pos z]
  ·rw[if_neg z,if_neg z,es,if_neg q,sG]
theorem N7 {c:Nat} (hc:c < n) (hp:c∉ps):(Ky R ps n a).getD c 0=if c=a then 1 else 0:=by
 unfold Ky;rw[OK hc];by_cases e:c=a
 ·rw[if_pos e,if_pos e]
 ·rw[if_neg e,if_neg e,cS λi hi=>?_];rw[if_neg (λz=>hp (by rw[<- z];exact getD_in hi))]
theorem cU:∀{xs ys:List Rat},xs.length=ys.length->cG xs ys=bH xs.length λc=>xs.getD c 0*ys.getD c 0:=by
 intro xs ys h
 have key:∀k,k<=xs.length->cG (xs.take k) (ys.take k)=bH k λc=>xs.getD c 0*ys.getD c 0:=by
  intro k
  induction k with
  | zero=>intro _;rfl
  | succ k ih =>
   intro hk;rw[CI (by lia) (by lia),ih (by lia)];rfl
 have:=key xs.length (aw _);rwa [aI (aw _),aI (by lia)] at this
theorem Qg (RR:bK rows n R ps) (ha:a < n) (hp:a∉ps) {i:Nat} {row:List Rat} (hr:rows[i]?=some row) (hw:row.length=n):cG row (Ky R ps n a)=0:=by
 obtain ⟨_,_,rr⟩:=RR;have hi:=(aB.mp hr).1;have ef:∀c,bV rows i c=row.getD c 0:=λc=>by unfold bV;rw[aa (l:=rows),hr];rfl
 have co:=rr.coef (rr.span i hi) a;rw[ef] at co;rw[cU (by unfold Ky;rw[rz,hw]),hw]
 have e1:bH n (λc=>row.getD c 0*(Ky R ps n a).getD c 0)=bH n (λc=>(if c=a then row.getD a 0 else 0)+bH ps.length λj=>if ps.getD j 0=c then row.getD (ps.getD j 0) 0*-(bV R j a) else 0):=by
  refine aV λc hc=>?_
  unfold Ky;rw[OK hc];by_cases e:c=a
  ·rw[if_pos e,if_pos e,e,cS λj hj=>?_]
   ·grind
   ·rw[if_neg (λz=>hp (by rw[<- z];exact getD_in hj))]
  ·rw[if_neg e,if_neg e,<- cR,Rat.zero_add];refine aV λj _=>?_
   split
   ·rename_i q;rw[q]
   ·grind
 rw[e1,kU,fP (i:=a) ha (λj _ ne=>if_neg ne),if_pos rfl,<- fv]
 have e2:bH ps.length (λj=>bH n λc=>if ps.getD j 0=c then row.getD (ps.getD j 0) 0*-(bV R j a) else 0)=bH ps.length λj=>-1*(bV rows i (ps.getD j 0)*bV R j a):=by
  refine aV λj hj=>?_
  rw[fP (i:=ps.getD j 0) (rr.low j hj) λc _ ne=>if_neg λz=>ne z.symm,if_pos rfl,ef];grind
 rw[e2,cR,co];grind
theorem RV {M W:Nat} (h0:0 < M) (hW:M<=W) (tp:∀xs∈R,∀x∈xs,Tp M W x) (RR:bK rows n R ps):∀x∈Ky R ps n a,Tp M W x:=λx hx=>by
 obtain ⟨_,_,rr⟩:=RR;obtain ⟨c,hc,rfl⟩:=az.mp hx
 split
 ·exact ⟨M,by rw[Rat.one_mul,bh],by simpa using hW⟩
 ·by_cases hp:∃j,j < ps.length/\ps.getD j 0=c
  ·obtain ⟨j,hj,e⟩:=hp;rw[fP hj λi hi ne=>if_neg λz=>?_,if_pos e]
   ·obtain ⟨z,ez,b⟩:=KR tp j a;exact ⟨-z,by rw[cP,<- ez];grind,by rw[jE];exact b⟩
   ·rcases dM i j with q | q | q
    ·have:=rr.inc i j q hj;lia
    ·exact ne q
    ·have:=rr.inc j i q hi;lia
  ·rw[cS λj hj=>if_neg λz=>hp ⟨j,hj,z⟩];exact Tp.zero
theorem Ek {c:Nat}:c∈y8 ps n↔c < n/\c∉ps:=by
 unfold y8;rw[kM,fJ,decide_eq_true_iff]
end
inductive Ce (K:FG9) (vs:List V) (H:Hp) (Q:VK) (E9:XK):Prop
 | mk (p:Addr) (n a:Nat) (H0:Hp) (R:LR9) (ps:List Nat):vs=[.ref p,.int n,.int a]->bA K H0 H p R->R.length<=100->n<=100->(∃rows,bK rows n R ps)->a < n->a∉ps->(∀xs∈R,∀x∈xs,kK x)->(∀r H',H r=none->aF H H'->cL K H' r (Ky R ps n a)->Q (.ref r) H')->Ce K vs H Q E9
theorem KZ:kK 0:=kT (M:=1) (W:=1) Tp.zero (by decide) bW bW
theorem xk {R:LR9} {ps:List Nat} {n:Nat} {xs:List Rat} (h:xs∈dg R ps n):∃a,a < n/\a∉ps/\xs=Ky R ps n a:=by
 obtain ⟨a,ha,rfl⟩:=az.mp h;obtain ⟨h1,h2⟩:=Ek.mp ha;exact ⟨a,h1,h2,rfl⟩
theorem Of {q:Rat} (h:q.den<=9):q.den∣2520:=by
 have:=q.den_pos;generalize q.den=d at h this;have:d=1\/d=2\/d=3\/d=4\/d=5\/d=6\/d=7\/d=8\/d=9:=by lia
 rcases this with rfl | rfl | rfl | rfl | rfl | rfl | rfl | rfl | rfl <;> decide
theorem Mp {q:Rat} {M:Nat} (h:Dr 9 q) (hM:2520∣M):Fr M 9 q:=(Fr.own q h.1).dvd (wg (Of h.2) hM)
def fD (rows:LR9) (due:List Rat):LR9:=List.zipWith (λrow d=>row++[d]) rows due
def uI (R:LR9) (ps:List Nat) (n j:Nat):List Rat:=(List.range n).map λc=>bH j λi=>if ps.getD i 0=c then bV R i n else 0
def uH (R:LR9) (ps:List Nat) (n:Nat):List Rat:=uI R ps n ps.length
section
variable {rows R:LR9} {due xs:List Rat} {ps:List Nat} {n j:Nat}
theorem HS (h:due.length=rows.length):(fD rows due).length=rows.length:=by unfold fD;rw[bO];lia
theorem IV (h:∀xs∈rows,xs.length=n):∀xs∈fD rows due,xs.length=n+1:=λxs hx=>by
 unfold fD at hx;obtain ⟨i,hi,rfl⟩:=bP hx;rw[pZ,ao,h _ (aL _)];rfl
theorem OO {i:Nat} {row:List Rat} {d:Rat} (h1:rows[i]?=some row) (h2:due[i]?=some d):(fD rows due)[i]?=some (row++[d]):=by
 unfold fD;rw[bS,h1,h2]
theorem L0 (hd:due.length=rows.length) (hw:∀xs∈rows,xs.length=n) {i:Nat} (hi:i < rows.length):(∀c,c < n->bV (fD rows due) i c=bV rows i c)/\bV (fD rows due) i n=due.getD i 0:=by
 have e1:=ag hi;have e2:=ag (show i < due.length by lia);have ej:=OO e1 e2;have wi:=hw _ (aL hi);refine ⟨λc hc=>?_,?_⟩
 ·unfold bV;rw[aa (l:=fD rows due),ej,aa (l:=rows),e1];show (rows[i]++[due[i]]).getD c 0=(rows[i]).getD c 0
  rw[aa,aa,cN (by lia)]
 ·unfold bV;rw[aa (l:=fD rows due),ej,aa (l:=due),e2];show (rows[i]++[due[i]]).getD n 0=due[i]
  rw[aa,bT (by lia),wi,mD];rfl
theorem ot:(uI R ps n j).length=n:=by unfold uI;rw[ah,cg]
theorem Ri {c:Nat} (h:c < n):(uI R ps n j).getD c 0=bH j λi=>if ps.getD i 0=c then bV R i n else 0:=by
 unfold uI;rw[aa,aD,cV h];rfl
theorem Nh:uI R ps n 0=List.replicate n 0:=by
 unfold uI;show (List.range n).map (λ_=>(0:Rat))=_
 rw[MT,cg]
theorem Ni {J:LR9} (RR:bK J (n+1) R ps) (hj:j < ps.length):(uI R ps n j).set (ps.getD j 0) (bV R j n)=uI R ps n (j+1):=by
 obtain ⟨_,_,rr⟩:=RR;apply d9 (by rw[dU,ot,ot]);intro c h1 h2;rw[ot] at h2;have e1:(uI R ps n j)[c]'(by rw[ot];exact h2)=bH j λi=>if ps.getD i 0=c then bV R i n else 0:=by simp only[uI,d7,kR]
 have e2:(uI R ps n (j+1))[c]'(by rw[ot];exact h2)=bH j (λi=>if ps.getD i 0=c then bV R i n else 0)+if ps.getD j 0=c then bV R j n else 0:=by simp only[uI,d7,kR];rfl
 rw[List.getElem_set,e2];by_cases q:ps.getD j 0=c
 ·rw[if_pos q,if_pos q,cS λi hi=>?_,Rat.zero_add];rw[if_neg];intro z;have:=rr.inc i j hi hj
  lia
 ·rw[if_neg q,if_neg q,e1,sG]
theorem Po (hd:due.length=rows.length) (hw:∀xs∈rows,xs.length=n) (RR:bK (fD rows due) (n+1) R ps) (hn:n∉ps) {i:Nat} {row:List Rat} (hr:rows[i]?=some row):cG row (uH R ps n)=due.getD i 0:=by
 obtain ⟨_,_,rr⟩:=RR;have hi:=(aB.mp hr).1;have wr:=hw row (au hr);have ef:∀c,bV rows i c=row.getD c 0:=λc=>by unfold bV;rw[aa (l:=rows),hr];rfl
 obtain ⟨f1,f2⟩:=L0 hd hw hi
 have low:∀j,j < ps.length->ps.getD j 0 < n:=λj hj=>by
  have:=rr.low j hj;have:ps.getD j 0≠n:=λz=>hn (by rw[<- z];exact getD_in hj)
  lia
 have co:=rr.coef (rr.span i (by rw[HS hd];exact hi)) n;rw[f2] at co;rw[co,cU (by unfold uH;rw[ot,wr]),wr]
 have e1:bH n (λc=>row.getD c 0*(uH R ps n).getD c 0)=bH n (λc=>bH ps.length λj=>if ps.getD j 0=c then row.getD (ps.getD j 0) 0*bV R j n else 0):=by
  refine aV λc hc=>?_
  unfold uH;rw[Ri hc,<- cR];refine aV λj _=>?_
  split
  ·rename_i q;rw[q]
  ·grind
 rw[e1,<- fv];refine aV λj hj=>?_
 rw[fP (i:=ps.getD j 0) (low j hj) λc _ ne=>if_neg λz=>ne z.symm,if_pos rfl,f1 _ (low j hj),ef]
theorem La (hd:due.length=rows.length) (hw:∀xs∈rows,xs.length=n) (RR:bK (fD rows due) (n+1) R ps) (hn:n∈ps):∃w:Nat->Rat,(∀c,c < n->bH rows.length (λi=>w i*bV rows i c)=0)/\bH rows.length (λi=>w i*due.getD i 0)=1:=by
 obtain ⟨_,_,rr⟩:=RR;obtain ⟨j,hj,ej⟩:=bP hn;have ejD:ps.getD j 0=n:=by rw[aa,ag hj];exact ej
 obtain ⟨w,hw'⟩:=rr.back j hj;rw[HS hd] at hw';refine ⟨w,λc hc=>?_,?_⟩
 ·have z:=rr.lead j hj c (by rw[ejD];exact hc);rw[hw' c] at z;rw[<- z];exact aV λi hi=>by rw[(L0 hd hw hi).1 c hc]
 ·have u:=rr.unit j hj j hj;rw[if_pos rfl,ejD,hw' n] at u;rw[<- u];exact aV λi hi=>by rw[(L0 hd hw hi).2]
theorem Pp (hd:due.length=rows.length) (hw:∀xs∈rows,xs.length=n) (RR:bK (fD rows due) (n+1) R ps) {x:Nat->Rat} (hx:∀i,i < rows.length->bH n (λc=>bV rows i c*x c)=due.getD i 0):n∉ps:=λhn=>by
 obtain ⟨w,h1,h2⟩:=La hd hw RR hn
 have e1:bH rows.length (λi=>w i*due.getD i 0)=bH rows.length (λi=>bH n λc=>x c*(w i*bV rows i c)):=aV λi hi=>by
  rw[<- hx i hi,<- cR];exact aV λc _=>by grind
 have e2:bH n (λc=>bH rows.length λi=>x c*(w i*bV rows i c))=0:=cS λc hc=>by
  rw[cR,h1 c hc];grind
 rw[e1,fv,e2] at h2;exact absurd h2 (by decide)
theorem OE {M W:Nat} (h0:0 < M) (tp:∀xs∈R,∀x∈xs,Tp M W x) {J:LR9} (RR:bK J (n+1) R ps):∀x∈uH R ps n,Tp M W x:=λx hx=>by
 obtain ⟨_,_,rr⟩:=RR;obtain ⟨c,hc,rfl⟩:=az.mp hx;by_cases hp:∃j,j < ps.length/\ps.getD j 0=c
 ·obtain ⟨j,hj,e⟩:=hp;rw[fP hj λi hi ne=>if_neg λz=>?_,if_pos e]
  ·exact KR tp j n
  ·rcases dM i j with q | q | q
   ·have:=rr.inc i j q hj;lia
   ·exact ne q
   ·have:=rr.inc j i q hi;lia
 ·rw[cS λj hj=>if_neg λz=>hp ⟨j,hj,z⟩];exact Tp.zero
end
inductive zB (K:FG9) (vs:List V) (H:Hp) (Q:VK) (E9:XK):Prop
 | mk (p q:Addr) (n w:Nat) (H0:Hp) (rows:LR9) (due:List Rat):vs=[.ref p,.int n,.ref q]->bA K H0 H p rows->cL K H q due->due.length=rows.length->rows.length<=99->n<=99->(∀xs∈rows,xs.length=n)->EK (fD rows due) (n+1) w->((∀x R ps M H',bK (fD rows due) (n+1) R ps->n∉ps->H x=none->aF H H'->cL K H' x (uH R ps n)->0 < M->M<=2^(min rows.length (n+1)*(w+4))->(∀y∈uH R ps n,Tp M (2^(min rows.length (n+1)*(w+4))) y)->Q (.ref x) H')/\(∀R ps H',bK (fD rows due) (n+1) R ps->n∈ps->aF H H'->Q .non H'))->zB K vs H Q E9
theorem LO {n:Nat}:((List.range n).map λ_=>(0:Rat))=List.replicate n 0:=by rw[MT,cg]
def Pl (K:FG9):Sp:=λvs H Q _=>∃m:Nat,vs=[.int m]/\m<=100/\∀r H',H r=none->aF H H'->cL K H' r (List.replicate m 0)->Q (.ref r) H'
section
variable {rows:LR9} {ws xs row:List Rat} {n j:Nat}
theorem Mr (h:xs.length=ws.length):cG xs ws=cG ws xs:=by
 rw[cU h,cU h.symm,h];exact aV λc _=>dJ ..
theorem KQ {c:Nat} (hc:c < n):(bJ rows n)[c]?=some (rows.map λxs=>xs.getD c 0):=by
 unfold bJ;rw[aD,cV hc];rfl
theorem Qi {c i:Nat}:(rows.map λxs=>xs.getD c 0).getD i 0=bV rows i c:=by
 unfold bV;rw[aa,aD,aa (l:=rows)];cases rows[i]? with
 | none=>rfl
 | some y=>rfl
end
theorem Fr.up {M V M' V':Nat} {x:Rat} (h:Fr M V x) (hd:M∣M') (hv:V<=V'):Fr M' V' x:=(h.dvd hd).mono hv
section
variable {rows R:LR9} {due:List Rat} {ps:List Nat} {n:Nat}
theorem K9 (hd:due.length=rows.length) (hw:∀xs∈rows,xs.length=n) (RR:bK (fD rows due) (n+1) R ps) (hn:n∉ps):(rows.map λys=>cG ys (uH R ps n))=due:=by
 apply d9 (by rw[ah,hd]);intro i h1 h2;rw[d7,Po hd hw RR hn (ag (by lia)),aa,ag h2];rfl
theorem Od {xs ys:List Rat} {M V D B:Nat} (h:ys.length=xs.length) (hx:∀x∈xs,Fr M V x) (hy:∀y∈ys,Fr D B y):Fr (M*D) (xs.length*(V*B)) (cG xs ys):=by
 rw[cU h.symm]
 have key:∀j,j<=xs.length->Fr (M*D) (j*(V*B)) (bH j λc=>xs.getD c 0*ys.getD c 0):=by
  intro j
  induction j with
  | zero=>intro _;exact Fr.zero
  | succ j ih =>
   intro hj;exact ((ih (by lia)).add ((hx _ (getD_in (by lia))).mul (hy _ (getD_in (by lia))))).mono (Nat.le_of_eq (j7 j (V*B)).symm)
 exact key _ (aw _)
end
def pC (K:FG9) (P:Addr->Prop) (H:Hp) (xs:List Rat) (v:V):Prop:=∃q,v=.ref q/\P q/\cL K H q xs
section
variable {K:FG9} {P:Addr->Prop} {H H':Hp} {xs:List Rat} {v:V} {b l:Addr}
theorem pC.same (h:pC K P H xs v) (s:aF H H'):pC K P H' xs v:=by obtain ⟨q,a,c,d⟩:=h;exact ⟨q,a,c,d.same s⟩
theorem pC.updL {ys:List V} {o:HO} (h:pC K P H xs v) (hl:H l=some (.lst ys)) (nb:∀q,P q->q≠l):pC K P (upd H l o) xs v:=by obtain ⟨q,a,c,d⟩:=h;exact ⟨q,a,c,d.updL hl (nb q c)⟩
theorem bA.ofE {H0:Hp} {rows:LR9} {us:List V} (g:H l=some (.lst us)) (h:Paired (pC K P H) rows us) (h0:∀q,P q->H0 q=none) (hn:∀q,P q->q≠l):bA K H0 H l rows :=
 ⟨us,g,Paired.imp' (λ_ _ ⟨q,a,c,d⟩=>⟨q,a,h0 q c,d⟩) h,λz=>by
  obtain ⟨_,_,q,e,c,_⟩:=dn h z;cases e;exact hn _ c rfl⟩
end
theorem qY {α β:Type} {F G:α->β->Prop}:∀{l1:List α} {l2:List β},(∀a b,b∈l2->F a b->G a b)->Paired F l1 l2->Paired G l1 l2
 | _,_,_,.nil=>.nil
 | _,_,h,.cons a r=>.cons (h _ _ (by simp) a) (qY (λx y hy=>h x y (by simp [hy])) r)
section
variable {rows rows' R R':LR9} {n w W:Nat} {ps ps':List Nat}
theorem wD (hw:∀xs∈rows,xs.length=n) (hW:1<=W) (ent:∀i,i < (rows.map gE).length->∀c,Fr 1 W (dH (rows.map gE) i c)):∀P,P<=n->∃ls ps d,De (rows.map gE) n P ls ps d:=by
 intro P
 induction P with
 | zero=>intro _;exact ⟨_,_,_,De.start λzs hz=>by obtain ⟨x,hx,rfl⟩:=az.mp hz;rw[nk];exact hw x hx⟩
 | succ P ih =>
  intro hP;obtain ⟨ls,ps,d,I⟩:=ih (by lia);by_cases e:∃t,ps.length<=t/\t < ls.length/\dH ls t P≠0
  ·obtain ⟨t,h1,h2,h3⟩:=e;exact ⟨_,_,_,I.step hW ent h1 h2 h3⟩
  ·exact ⟨_,_,_,I.skip λi h1 h2=>by
    by_cases z:dH ls i P=0
    ·exact z
    ·exact absurd ⟨i,h1,h2,z⟩ e⟩
theorem Cp (hw:∀xs∈rows,xs.length=n) (F:EK rows n w):∃R ps d ls,Td rows n w R ps d ls:=by
 obtain ⟨W,hW,W2,ent⟩:=F.ent;obtain ⟨ls,ps,d,I⟩:=wD hw hW ent n (aw _);obtain ⟨R,S⟩:=I.done hw F;exact ⟨R,ps,d,_,S⟩
theorem OF (hw:∀xs∈rows,xs.length=n) (F:EK rows n w) (RR:bK rows n R ps):ps.length<=rows.length/\∃M,0 < M/\M<=2^(min rows.length n*(w+4))/\∀xs∈R,∀x∈xs,Tp M (2^(min rows.length n*(w+4))) x:=by
 obtain ⟨R2,ps2,d,ls,S⟩:=Cp hw F;obtain ⟨rfl,rfl⟩:=S.rr.same RR;exact ⟨S.km,d.natAbs,Int.natAbs_pos.mpr S.d0,S.dsz,S.tp⟩
theorem Kd {k:Nat} {p q:Nat->Nat} (hp:∀i j,i < j->j < k->p i < p j) (hq:∀i j,i < j->j < k->q i < q j) (hs:∀i,i < k->∃j,j < k/\q j=p i):∀i,i < k->p i=q i:=by
 have hqm:∀i j,i<=j->j < k->q i<=q j:=λi j h hj=>by
  rcases b8 i j with z | z
  ·exact bc (hq i j z hj)
  ·have:i=j:=by lia
   rw[this];exact aw _
 have hqi:∀i j,i < k->j < k->q i < q j->i < j:=λi j hi hj h=>by
  rcases b8 i j with z | z
  ·exact z
  ·have:=hqm j i z hi
   lia
 have key:∀i,i < k->∀j,j < k->q j=p i->i<=j:=by
  intro i
  induction i with
  | zero=>intro _ j _ _;exact aZ _
  | succ i ih =>
   intro hi j hj e;obtain ⟨j',hj',e'⟩:=hs i (by lia);have h1:=ih (by lia) j' hj' e';have h2:=hp i (i+1) (by lia) hi;have:=hqi j' j hj' hj (by lia)
   lia
 have key2:∀t i,i+t+1=k->∀j,j < k->q j=p i->j<=i:=by
  intro t
  induction t with
  | zero=>intro i e j hj _;lia
  | succ t ih =>
   intro i e j hj ej;obtain ⟨j',hj',e'⟩:=hs (i+1) (by lia);have h1:=ih (i+1) (by lia) j' hj' e';have h2:=hp i (i+1) (by lia) (by lia);have:=hqi j j' hj hj' (by lia)
   lia
 intro i hi;obtain ⟨j,hj,e⟩:=hs i hi;have h1:=key i hi j hj e;have h2:=key2 (k - 1 - i) i (by lia) j hj e;have:j=i:=by lia
 rw[<- e,this]
theorem JO (h:bK rows n R ps) (h':bK rows' n R' ps') (hl:ps.length=ps'.length) (hs:∀i,i < ps.length->eG ps'.length (bV R') (bV R i)):R=R'/\ps=ps':=by
 obtain ⟨l1,w1,r1⟩:=h;obtain ⟨l2,w2,r2⟩:=h'
 have ep:∀i,i < ps.length->ps.getD i 0=ps'.getD i 0:=Kd r1.inc (by rw[hl];exact r2.inc) λi hi=>by
  have u:=r1.unit i hi i hi;rw[if_pos rfl] at u;obtain ⟨j,hj,e⟩:=r2.lead_in (hs i hi) (c:=ps.getD i 0) (by rw[u];decide) (λc hc=>r1.lead i hi c hc);exact ⟨j,by lia,e⟩
 have eps:ps=ps':=by
  apply d9 hl;intro i a b;have:=ep i a;rw[aa,aa,ag a,ag b] at this;exact this
 refine ⟨Mg (n:=n) (by lia) w1 w2 λi hi c=>?_,eps⟩;rw[l1] at hi;rw[r2.coef (hs i hi) c,<- hl,fP hi λj hj hj'=>?_]
 ·rw[<- ep i hi];have u:=r1.unit i hi i hi;rw[if_pos rfl] at u;rw[u];grind
 ·rw[<- ep j hj];have u:=r1.unit i hi j hj;rw[if_neg (Ne.symm hj')] at u;rw[u];grind
end
def lY (mv:LR9) (x:List Rat):List Rat:=mv.map λxs=>cG xs x
def kry (mv pt:LR9):Nat->LR9
 | 0=>[]
 | t+1=>pt++(kry mv pt t).map (lY mv)
section
variable {mv pt R R' S X Y:LR9} {n t m i c:Nat} {ps ps':List Nat} {a:Nat->Nat->Rat}
theorem oO {x:List Rat}:(lY mv x).length=mv.length:=ah ..
theorem Lz (lm:mv.length=n) (wm:∀xs∈mv,xs.length=n) (wR:∀xs∈R,xs.length=n) (hi:i < R.length) (c:Nat):bV (R.map (lY mv)) i c=bH n λj=>bV mv c j*bV R i j:=by
 have wi:=wR _ (aL hi);have e1:(R.map (lY mv)).getD i []=lY mv R[i]:=by rw[aa,aD,ag hi];rfl
 have e2:R.getD i []=R[i]:=by rw[aa,ag hi];rfl
 by_cases hc:c < n
 ·have wc:=wm _ (aL (show c < mv.length by lia));have e3:mv.getD c []=mv[c]'(by lia):=by rw[aa,ag (by lia)];rfl
  have e4:(lY mv R[i]).getD c 0=cG (mv[c]'(by lia)) R[i]:=by
   unfold lY;rw[aa,aD,ag (by lia)];rfl
  unfold bV;rw[e1,e2,e3,e4,cU (by lia),wc]
 ·have e3:mv.getD c []=[]:=by rw[aa,aO (by lia)];rfl
  unfold bV
  rw[e1,e3,aa,aO (by rw[oO];lia),cS λj _=>by
   show ([]:List Rat).getD j 0*_=0
   rw[aa];show (0:Rat)*_=0
   grind]
  rfl
theorem zo (lm:mv.length=n) (wm:∀xs∈mv,xs.length=n) (wR:∀xs∈R,xs.length=n) (wS:∀xs∈S,xs.length=n) (hi:i < R.length) (h:eG S.length (bV S) (bV R i)):eG (S.map (lY mv)).length (bV (S.map (lY mv))) (bV (R.map (lY mv)) i):=by
 obtain ⟨w,hw⟩:=h;refine ⟨w,λc=>?_⟩;rw[Lz lm wm wR hi,ah]
 have e1:bH n (λj=>bV mv c j*bV R i j)=bH n (λj=>bH S.length λs=>w s*(bV mv c j*bV S s j)):=aV λj _=>by
  rw[hw j,<- cR];exact aV λs _=>by grind
 rw[e1,fv];exact aV λs hs=>by rw[cR,Lz lm wm wS hs]
theorem BI (h:i < X.length):bV (X++Y) i=bV X i:=by
 funext c;unfold bV;rw[aa (l:=X++Y),cN h,<- aa]
theorem nR:bV (X++Y) (X.length+i)=bV Y i:=by
 funext c;unfold bV;rw[aa (l:=X++Y),bT (by lia),show X.length+i - X.length=i by lia,<- aa]
theorem uG (h1:∀i,i < X.length->eG m a (bV X i)) (h2:∀i,i < Y.length->eG m a (bV Y i)):∀i,i < (X++Y).length->eG m a (bV (X++Y) i):=λi hi=>by
 rw[ao] at hi;by_cases h:i < X.length
 ·rw[BI h];exact h1 i h
 ·obtain ⟨j,rfl⟩:∃j,i=X.length+j:=⟨i - X.length,by lia⟩;rw[nR];exact h2 j (by lia)
theorem qo (h:i < X.length):eG (X++Y).length (bV (X++Y)) (bV X i):=by
 have:=eG.row (a:=bV (X++Y)) (m:=(X++Y).length) (i:=i) (by rw[ao];lia);rwa [BI h] at this
theorem nv {x:Nat->Rat} (h:eG Y.length (bV Y) x):eG (X++Y).length (bV (X++Y)) x:=eG.trans (λs hs=>by
 have:=eG.row (a:=bV (X++Y)) (m:=(X++Y).length) (i:=X.length+s) (by rw[ao];lia);rwa [nR] at this) h
theorem eE (lm:mv.length=n) (wp:∀xs∈pt,xs.length=n):∀t,∀xs∈kry mv pt t,xs.length=n:=by
 intro t
 induction t with
 | zero=>intro xs hx;cases hx
 | succ t ih =>
  intro xs hx;rcases ax.mp hx with hx | hx
  ·exact wp xs hx
  ·obtain ⟨y,_,rfl⟩:=az.mp hx;rw[oO,lm]
theorem vf (lm:mv.length=n) (wm:∀xs∈mv,xs.length=n) (wp:∀xs∈pt,xs.length=n) (RR:bK (kry mv pt t) n R ps) (RR':bK (pt++R.map (lY mv)) n R' ps'):bK (kry mv pt (t+1)) n R' ps':=by
 have wk:=eE (mv:=mv) lm wp t;refine ⟨RR'.1,RR'.2.1,RR'.2.2.other ?_ ?_⟩
 ·refine uG (λi hi=>qo hi) λi hi=>nv ?_
  rw[ah] at hi;exact zo lm wm RR.2.1 wk hi (RR.2.2.back i (by rw[<- RR.1];exact hi))
 ·refine uG (λi hi=>qo hi) λi hi=>nv ?_
  rw[ah] at hi;have:=RR.2.2.span i hi;rw[<- RR.1] at this;exact zo lm wm wk RR.2.1 hi this
theorem LV (lm:mv.length=n) (wm:∀xs∈mv,xs.length=n) (wp:∀xs∈pt,xs.length=n):∀t i,i < (kry mv pt t).length->eG (kry mv pt (t+1)).length (bV (kry mv pt (t+1))) (bV (kry mv pt t) i):=by
 intro t
 induction t with
 | zero=>intro i hi;cases hi
 | succ t ih =>
  refine uG (λi hi=>qo hi) λi hi=>nv ?_
  rw[ah] at hi;exact zo lm wm (eE lm wp t) (eE lm wp (t+1)) hi (ih i hi)
theorem Az (lm:mv.length=n) (wm:∀xs∈mv,xs.length=n) (wp:∀xs∈pt,xs.length=n) (RR:bK (kry mv pt t) n R ps) (RR':bK (kry mv pt (t+1)) n R' ps'):∀i,i < ps.length->eG ps'.length (bV R') (bV R i):=λi hi =>
 eG.trans (λs hs=>RR'.2.2.span s hs) (eG.trans (LV lm wm wp t) (RR.2.2.back i hi))
theorem Cz (lm:mv.length=n) (wm:∀xs∈mv,xs.length=n) (wp:∀xs∈pt,xs.length=n) (RR:bK (kry mv pt t) n R ps) (RR':bK (pt++R.map (lY mv)) n R' ps') (hl:ps'.length=ps.length):∀s,bK (kry mv pt (t+s)) n R ps:=by
 have K1:=vf lm wm wp RR RR';obtain ⟨e1,e2⟩:=JO RR K1 hl.symm (Az lm wm wp RR K1);subst e1 e2;intro s
 induction s with
 | zero=>exact RR
 | succ s ih=>exact vf lm wm wp ih RR'
theorem FE (lm:mv.length=n) (wm:∀xs∈mv,xs.length=n) (wp:∀xs∈pt,xs.length=n) (RR:bK (kry mv pt t) n R ps) (RR':bK (kry mv pt (t+1)) n R' ps'):ps.length<=ps'.length:=by
 have h:=Az lm wm wp RR RR'
 have hs:∀i,i < ps.length->∃j,j < ps'.length/\ps'.getD j 0=ps.getD i 0:=λi hi=>by
  have u:=RR.2.2.unit i hi i hi;rw[if_pos rfl] at u;exact RR'.2.2.lead_in (h i hi) (c:=ps.getD i 0) (by rw[u];decide) (λc hc=>RR.2.2.lead i hi c hc)
 rcases b8 ps'.length ps.length with z | z
 ·exfalso
  have key:∀i,i < ps.length->∀j,j < ps'.length->ps'.getD j 0=ps.getD i 0->i<=j:=by
   intro i
   induction i with
   | zero=>intro _ j _ _;exact aZ _
   | succ i ih =>
    intro hi j hj e;obtain ⟨j',hj',e'⟩:=hs i (by lia);have h1:=ih (by lia) j' hj' e';have h2:=RR.2.2.inc i (i+1) (by lia) hi;rcases b8 j' j with y | y
    ·lia
    ·rcases b8 j j' with x | x
     ·have:=RR'.2.2.inc j j' x hj'
      lia
     ·have:j=j':=by lia
      rw[this] at e
      lia
  obtain ⟨j,hj,e⟩:=hs (ps.length - 1) (by lia);have:=key (ps.length - 1) (by lia) j hj e
  lia
 ·exact z
theorem LX {M V c:Nat} (lm:mv.length=n) (wm:∀xs∈mv,xs.length=n) (wp:∀xs∈pt,xs.length=n) (hc:(n+1)*V<=2^c) (fm:GF M V mv) (fp:GF M V pt):∀t,∀xs∈kry mv pt t,∀x∈xs,Fr (M^t) (2^(c*t)) x:=by
 intro t
 induction t with
 | zero=>intro xs hx;cases hx
 | succ t ih =>
  intro xs hx x hx';have hV:V<=2^c:=ai (dN _ (by lia)) hc;rcases ax.mp hx with hx | hx
  ·refine Fr.up (fp xs hx x hx') (by rw[gi];exact hJ _ _) (ai hV (av (by decide) (dC _ (by lia))))
  ·obtain ⟨y,hy,rfl⟩:=az.mp hx;unfold lY at hx';obtain ⟨r,hr,rfl⟩:=az.mp hx';have wr:=wm r hr;have wy:=eE (mv:=mv) lm wp t y hy;have f:=Od (by lia) (fm r hr) (ih y hy);rw[gi,cH (M^t)];refine f.mono ?_;rw[eH,MJ,aY,cH (2^(c*t)),<- cK,wr];exact aA _ (ai (aA _ (by lia)) hc)
def p6 (mv pt:LR9) (a c:Nat):Prop:=∃M V:Nat,0 < M/\M<=2^a/\(mv.length+1)*V<=2^c/\GF M V mv/\GF M V pt/\a<=400/\c<=40/\mv.length*(mv.length*(a+c)+4)<=1740/\mv.length*(mv.length*(mv.length*(a+c)+4)+a+c+4)<=445000
theorem p6.swf {a c:Nat} (F:p6 mv pt a c) (D:mv.length<=8) (wm:∀xs∈mv,xs.length=mv.length) (wp:∀xs∈pt,xs.length=mv.length) (ht:t<=mv.length):EK (kry mv pt t) mv.length (mv.length*(a+c)):=by
 obtain ⟨M,V,M0,Ma,hV,fm,fp,a3,c3,e14,e89⟩:=F;have f:=LX rfl wm wp hV fm fp t;have h1:mv.length*(a+c)<=8*440:=aJ D (by lia);have hM:M^t<=2^(a*mv.length):=ai (kh Ma _) (by rw[<- v9];exact av (by decide) (aU _ ht));have h2:a*mv.length<=mv.length*(a+c):=by rw[cH];exact aU _ (by lia)
 have h3:mv.length=0\/mv.length*(a+c)<=1740:=by
  rcases iw mv.length with z | z
  ·exact .inl z
  ·right
   have:=dN (mv.length*(a+c)+4) z
   lia
 have h4:mv.length*(a+c)<=1740:=by
  rcases h3 with z | z
  ·rw[z];lia
  ·exact z
 refine ⟨M^t,2^(mv.length*(a+c)),ip M0,ai hM (av (by decide) (by lia)),bW,aw _,λxs hx x hx'=>Tp.of (f xs hx x hx') ?_,by lia,by lia,?_⟩
 ·refine ai (aJ (av (by decide) (aU c ht)) hM) ?_;rw[<- aY];refine av (by decide) ?_;rw[cH c,cH a,<- eH,sH c];exact aw _
 ·exact ai (aA _ (KH _ _)) (by lia)
theorem p6.tp {a c:Nat} (F:p6 mv pt a c) (D:mv.length<=8) (wm:∀xs∈mv,xs.length=mv.length) (wp:∀xs∈pt,xs.length=mv.length) (ht:t<=mv.length) (RR:bK (kry mv pt t) mv.length R ps):∃M,0 < M/\M<=2^(mv.length*(mv.length*(a+c)+4))/\∀xs∈R,∀x∈xs,Tp M (2^(mv.length*(mv.length*(a+c)+4))) x:=by
 obtain ⟨_,M,h0,h1,h2⟩:=OF (eE rfl wp t) (F.swf D wm wp ht) RR;have le:2^(min (kry mv pt t).length mv.length*(mv.length*(a+c)+4))<=2^(mv.length*(mv.length*(a+c)+4)):=av (by decide) (aA _ (KH _ _));exact ⟨M,h0,ai h1 le,λxs hx x hx'=>(h2 xs hx x hx').mono le⟩
theorem p6.step {a c:Nat} (F:p6 mv pt a c) (D:mv.length<=8) (wm:∀xs∈mv,xs.length=mv.length) (wp:∀xs∈pt,xs.length=mv.length) (ht:t<=mv.length) (RR:bK (kry mv pt t) mv.length R ps):EK (pt++R.map (lY mv)) mv.length (mv.length*(mv.length*(a+c)+4)+a+c):=by
 obtain ⟨N,N0,N1,tN⟩:=F.tp D wm wp ht RR;obtain ⟨M,V,M0,Ma,hV,fm,fp,a3,c3,e14,e89⟩:=F;generalize mv.length*(mv.length*(a+c)+4)=e at *
 have V1:V<=2^c:=ai (dN _ (by lia)) hV;have eW:(2:Nat)^(e+a+c)=2^c*(2^a*2^e):=by rw[<- aY,<- aY];congr 1;lia
 refine ⟨N*M,2^(e+a+c),b7 N0 M0,?_,bW,aw _,λxs hx x hx'=>?_,by lia,by lia,?_⟩
 ·exact ai (aJ N1 Ma) (by rw[<- aY];exact av (by decide) (by lia))
 ·rcases ax.mp hx with hx | hx
  ·refine Tp.of ((fp xs hx x hx').scaleL N) ?_;rw[eW,cH N];exact aJ V1 (aJ Ma N1)
  ·obtain ⟨y,hy,rfl⟩:=az.mp hx;unfold lY at hx';obtain ⟨r,hr,rfl⟩:=az.mp hx';have wr:=wm r hr;have wy:=RR.2.1 y hy;rw[cU (by lia),wr];have t1:∀j,Tp M (V*M) (r.getD j 0):=λj=>oj (λx hx=>Tp.of (fm r hr x hx) (aw _)) j
   have t2:∀j,Tp N (2^e) (y.getD j 0):=λj=>oj (tN y hy) j
   have:=Tp.sum (k:=mv.length) (M:=N*M) (W:=V*M*2^e) (f:=λj=>r.getD j 0*y.getD j 0) λj _=>by
    have:=(t1 j).mul (t2 j);rwa [cH M N] at this
   refine this.mono ?_;rw[eW,cK V,<- cK mv.length];exact aJ (ai (aA _ (by lia)) hV) (aA _ Ma)
 ·exact ai (aA _ (KH _ _)) (by rw[show e+a+c+4=e+a+c+4 from rfl];exact e89)
theorem p6.fit {a c:Nat} (F:p6 mv pt a c) (D:mv.length<=8) (wm:∀xs∈mv,xs.length=mv.length) (wp:∀xs∈pt,xs.length=mv.length) (ht:t<=mv.length) (RR:bK (kry mv pt t) mv.length R ps):∀xs∈mv,∀r∈R,yO xs r:=λxs hx r hr=>by
 obtain ⟨N,N0,N1,tN⟩:=F.tp D wm wp ht RR;obtain ⟨M,V,M0,Ma,hV,fm,fp,a3,c3,e14,e89⟩:=F;have V1:V<=2^c:=ai (dN _ (by lia)) hV;have p14:=av (show 0 < 2 by decide) e14;exact ⟨400,40,1740,1740,⟨M,V,M0,ai Ma (av (by decide) a3),ai V1 (av (by decide) c3),fm xs hx⟩,⟨N,2^1740,N0,ai N1 p14,aw _,λx hx=>((tN r hr x hx).mono p14).fr N0⟩,by decide⟩
end
inductive Cf (K:FG9) (C:Addr) (vs:List V) (H:Hp) (Q:VK) (E9:XK):Prop
 | mk (x p:Addr) (H0 H1:Hp) (mv pt lk R:LR9):vs=[.ref x,.ref p]->kL K H0 H C x mv pt lk->fF mv pt lk->bA K H1 H p R->R.length<=100->(∀r∈R,r.length=mv.length)->(∀xs∈mv,∀r∈R,yO xs r)->(∀r H',H r=none->aF H H'->bA K H H' r (R.map (lY mv))->Q (.ref r) H')->Cf K C vs H Q E9
structure A8 (mv pt:LR9) (Rs:List (LR9)):Prop where
 ne:Rs≠[]
 rr:∀t R,Rs[t]?=some R->∃ps,bK (kry mv pt t) mv.length R ps
 up:∀t R R',Rs[t]?=some R->Rs[t+1]?=some R'->R.length < R'.length
def GrL (K:FG9) (H0 H:Hp) (l:Addr) (Rs:List (LR9)):Prop:=∃us,H l=some (.lst us)/\Paired (λR v=>∃q,v=V.ref q/\H0 q=none/\q≠l/\bA K H0 H q R) Rs us
inductive Cm (K:FG9) (C:Addr) (vs:List V) (H:Hp) (Q:VK) (E9:XK):Prop
 | mk (x:Addr) (a c st:Nat) (H0:Hp) (mv pt lk:LR9):vs=[.ref x,.int st]->st<=1000->kL K H0 H C x mv pt lk->fF mv pt lk->p6 mv pt a c->(∀r Rs H',H r=none->aF H H'->GrL K H H' r Rs->A8 mv pt Rs->Rs.length<=st+1->(∀R,Rs.getLast?=some R->∀s,(Rs.length - 1=st/\s=st\/Rs.length - 1 < st/\Rs.length - 1<=s)->∃ps,bK (kry mv pt s) mv.length R ps)->Q (.ref r) H')->Cm K C vs H Q E9
inductive Ca (K:FG9) (C:Addr) (vs:List V) (H:Hp) (Q:VK) (E9:XK):Prop
 | mk (x:Addr) (a c st:Nat) (H0:Hp) (mv pt lk:LR9):vs=[.ref x,.int st]->st<=1000->kL K H0 H C x mv pt lk->fF mv pt lk->p6 mv pt a c->(∀r R ps H',H r=none->aF H H'->bA K H H' r R->bK (kry mv pt st) mv.length R ps->Q (.ref r) H')->Ca K C vs H Q E9
section
variable {K:FG9} {H0 H1 H H':Hp} {p l:Addr} {rows mv pt R R':LR9} {Rs:List (LR9)} {t:Nat}
theorem bA.weakN (h:bA K H0 H p rows) (hn:∀q,H0 q=none->H1 q=none):bA K H1 H p rows:=by obtain ⟨xs,g,r,n⟩:=h;exact ⟨xs,g,Paired.imp' (λ_ _ ⟨q,a,b,c⟩=>⟨q,a,hn q b,c⟩) r,n⟩
theorem bA.updL {ys:List V} {o:HO} (h:bA K H0 H p rows) (hl:H l=some (.lst ys)) (nl:H0 l≠none) (pl:p≠l):bA K H0 (upd H l o) p rows:=by obtain ⟨xs,g,r,n⟩:=h;exact ⟨xs,by rw[bf pl];exact g,Paired.imp' (λ_ _ z=>cO.updL z hl nl) r,n⟩
theorem GY {n:Nat}:bK [] n [] []:=⟨rfl,(λ_ h=>by cases h),(λ_ _ _ h=>absurd h (cX _)),(λ_ h=>absurd h (cX _)),(λ_ h=>absurd h (cX _)),(λ_ h=>absurd h (cX _)),(λ_ h=>absurd h (cX _)),(λ_ h=>absurd h (cX _))⟩
theorem A8.len (h:A8 mv pt Rs):∀(t:Nat) (R:LR9),Rs[t]?=some R->t<=R.length:=by
 intro t
 induction t with
 | zero=>intro R _;exact aZ _
 | succ t ih =>
  intro R e;have ht:=(aB.mp e).1;have e0:=ag (show t < Rs.length by lia);have:=ih _ e0;have:=h.up t _ R e0 e
  lia
theorem A8.snoc {ps':List Nat} (h:A8 mv pt (Rs++[R])) (h1:bK (kry mv pt (Rs.length+1)) mv.length R' ps') (h2:R.length < R'.length):A8 mv pt ((Rs++[R])++[R']):=by
 have l1:(Rs++[R]).length=Rs.length+1:=by rw[ao];rfl
 refine ⟨by simp,λt S e=>?_,λt S S' e e'=>?_⟩
 ·rcases b8 t (Rs.length+1) with z | z
  ·rw[cN (by lia)] at e;exact h.rr t S e
  ·have ht:=(aB.mp e).1;rw[ao,aX] at ht;have:t=Rs.length+1:=by lia
   subst this;rw[bT (by lia),l1,mD] at e;cases e;exact ⟨ps',h1⟩
 ·have ht:=(aB.mp e').1;rw[ao,aX] at ht;rw[cN (by lia)] at e;rcases b8 (t+1) (Rs.length+1) with z | z
  ·rw[cN (by lia)] at e';exact h.up t S S' e e'
  ·have:t=Rs.length:=by lia
   subst this;rw[bT (by lia),l1,mD] at e';cases e';rw[bT (aw _),mD] at e;cases e;exact h2
end
def pL (k t i:Nat):Nat:=if i < k then i else if i=k then t else if i<=t then i - 1 else i
def Fl (k t i:Nat):Nat:=if i < k then i else if i=t then k else if i < t then i+1 else i
section
variable {k t m i j:Nat}
theorem uL (h : k ≤ t) (ht : t < m) (hi : i < m) : pL k t i < m := by     unfold pL; split; · exact hi
                                                                          · split; · exact ht
                                                                            · split <;> lia
theorem Rw (h : k ≤ t) (ht : t < m) (hi : i < m) : Fl k t i < m := by     unfold Fl; split; · exact hi
                                                                          · split; · lia
                                                                            · split <;> lia
theorem Rv (h:k<=t):pL k t (Fl k t i)=i:=by
 by_cases h1:i < k
 ·rw[show Fl k t i=i by unfold Fl;rw[if_pos h1]];unfold pL;rw[if_pos h1]
 ·by_cases h2:i=t
  ·rw[show Fl k t i=k by unfold Fl;rw[if_neg h1,if_pos h2]];unfold pL;rw[if_neg (by lia),if_pos rfl,h2]
  ·by_cases h3:i < t
   ·rw[show Fl k t i=i+1 by unfold Fl;rw[if_neg h1,if_neg h2,if_pos h3]];unfold pL;rw[if_neg (by lia),if_neg (by lia),if_pos (by lia)];lia
   ·rw[show Fl k t i=i by unfold Fl;rw[if_neg h1,if_neg h2,if_neg h3]];unfold pL;rw[if_neg h1,if_neg (by lia),if_neg (by lia)]
theorem OG (h:k<=t):Fl k t (pL k t i)=i:=by
 by_cases h1:i < k
 ·rw[show pL k t i=i by unfold pL;rw[if_pos h1]];unfold Fl;rw[if_pos h1]
 ·by_cases h2:i=k
  ·rw[show pL k t i=t by unfold pL;rw[if_neg h1,if_pos h2]];unfold Fl;rw[if_neg (by lia),if_pos rfl,h2]
  ·by_cases h3:i<=t
   ·rw[show pL k t i=i - 1 by unfold pL;rw[if_neg h1,if_neg h2,if_pos h3]];unfold Fl;rw[if_neg (by lia),if_neg (by lia),if_pos (by lia)];lia
   ·rw[show pL k t i=i by unfold pL;rw[if_neg h1,if_neg h2,if_neg h3]];unfold Fl;rw[if_neg h1,if_neg (by lia),if_neg (by lia)]
theorem qT (hi:i < k):pL k t i=i:=by unfold pL;rw[if_pos hi]
theorem uM (h:k<=t) (hi:k<=i):k<=pL k t i:=by
 unfold pL;rw[if_neg (by lia)]
 split
 ·exact h
 ·split <;> lia
variable {a l:Nat->Nat->Rat} {pm p:Nat->Nat} {d:Rat} {P:Nat}
theorem we.rot (B:we a m k pm p l d) (h:k<=t) (ht:t < m):we a m k (λi=>pm (pL k t i)) p (λi=>l (pL k t i)) d where
 inj i j hi hj e:=by
  have:=B.inj _ _ (uL h ht hi) (uL h ht hj) e;rw[<- OG (i:=i) h,this,OG h]
 rng i hi:=B.rng _ (uL h ht hi)
 km:=B.km
 d0:=B.d0
 det:=by rw[B.det,zZ (f:=pm) (g:=λi=>pm (pL k t i)) λj hj=>by rw[qT hj]]
 eqs i hi c:=by
  have e:=B.eqs (pL k t i) (uL h ht hi) c;have e1:bH k (λj=>a (pm (pL k t i)) (p j)*l (pL k t j) c)=bH k (λj=>a (pm (pL k t i)) (p j)*l j c):=aV λj hj=>by rw[qT hj]
  rw[e1];by_cases hk:i < k
  ·rw[qT hk] at e ⊢;exact e
  ·rw[if_neg hk];rw[if_neg (by have:=uM h (show k<=i by lia);lia)] at e;exact e
 unit i hi j hj:=by
  rw[B.unit _ (uL h ht hi) j hj];by_cases hk:i < k
  ·rw[qT hk]
  ·have:=uM h (show k<=i by lia);rw[if_neg (by lia),if_neg (by lia)]
theorem jU.rot (E:jU a m k P p l d) (h:k<=t) (ht:t < m):jU a m k P p (λi=>l (pL k t i)) d where
 km:=E.km
 d0:=E.d0
 unit i hi j hj:=by
  rw[E.unit _ (uL h ht hi) j hj];by_cases hk:i < k
  ·rw[qT hk]
  ·have:=uM h (show k<=i by lia);rw[if_neg (by lia),if_neg (by lia)]
 inc:=E.inc
 low:=E.low
 zero i h1 h2 c hc:=E.zero _ (uM h h1) (uL h ht h2) c hc
 lead j hj c hc:=by rw[qT hj];exact E.lead j hj c hc
 there i hi:=eG.trans (λs hs=>eG.congr (λc=>by rw[Rv h]) (eG.row (a:=λi=>l (pL k t i)) (i:=Fl k t s) (Rw h ht hs))) (E.there i hi)
 back i hi:=E.back _ (uL h ht hi)
end
section
variable {rows fs ls:LR9} {n P w a:Nat} {ps:List Nat}
theorem Na {k i:Nat}:jD k k i=i:=by unfold jD;split <;> (try split) <;> lia
theorem yC.rot (h:yC rows n P (fs++ls) ps) (hf:fs.length=ps.length) {t:Nat} (ht:t < ls.length):yC rows n P (fs++ls.getD t [] :: ls.eraseIdx t) ps:=by
 obtain ⟨len,wide,pm,l,d,B,E,v⟩:=h;rw[ao] at len;have h1:ps.length<=ps.length+t:=by lia
 have h2:ps.length+t < rows.length:=by lia
 have ef:∀i,i < rows.length->∀c,bV (fs++ls.getD t [] :: ls.eraseIdx t) i c=bV (fs++ls) (pL ps.length (ps.length+t) i) c:=λi hi c=>by
  by_cases z:i < ps.length
  ·rw[qT z,BI (by lia),BI (by lia)]
  ·obtain ⟨j,rfl⟩:∃j,i=fs.length+j:=⟨i - fs.length,by lia⟩;rw[nR];cases j with
   | zero =>
    rw[show pL ps.length (ps.length+t) (fs.length+0)=fs.length+t by unfold pL;rw[if_neg (by lia),if_pos (by lia)];lia,nR];rfl
   | succ j =>
    by_cases y:j < t
    ·rw[show pL ps.length (ps.length+t) (fs.length+(j+1))=fs.length+j by unfold pL;rw[if_neg (by lia),if_neg (by lia),if_pos (by lia)];lia,nR];show bV (ls.eraseIdx t) j c=_
     unfold bV;rw[aa (l:=ls.eraseIdx t),List.getElem?_eraseIdx_of_lt y,<- aa]
    ·rw[show pL ps.length (ps.length+t) (fs.length+(j+1))=fs.length+(j+1) by unfold pL;rw[if_neg (by lia),if_neg (by lia),if_neg (by lia)],nR];show bV (ls.eraseIdx t) j c=_
     unfold bV;rw[aa (l:=ls.eraseIdx t),List.getElem?_eraseIdx_of_ge (by lia),<- aa]
 refine ⟨?_,λxs hx=>?_,λi=>pm (pL ps.length (ps.length+t) i),λi=>l (pL ps.length (ps.length+t) i),d,B.rot h1 h2,E.rot h1 h2,λi hi c=>?_⟩
 ·rw[ao,bg,O9 ht];lia
 ·rcases ax.mp hx with hx | hx
  ·exact wide xs (ax.mpr (.inl hx))
  ·rcases aG.mp hx with rfl | hx
   ·exact wide _ (ax.mpr (.inr (getD_in ht)))
   ·exact wide xs (ax.mpr (.inr (QV hx)))
 ·rw[ef i hi c,v _ (uL h1 h2 hi) c];by_cases z:i < ps.length
  ·dsimp only
   rw[qT z]
  ·rw[if_neg z,if_neg (by have:=uM h1 (show ps.length<=i by lia);lia)]
def gH (P:Nat) (h:List Rat):List Rat:=h.map λy=>1 / h.getD P 0*y
def m7 (P:Nat) (u r:List Rat):List Rat:=List.zipWith (λx y=>x - y) r (u.map λy=>r.getD P 0*y)
theorem yC.lean (h:yC rows n P (fs++ls) ps) (hf:fs.length=ps.length) {t:Nat} (ht:t < ls.length) (hP:P < n) (hne:(ls.getD t []).getD P 0≠0):yC rows n (P+1) ((fs.map (m7 P (gH P (ls.getD t [])) )++[gH P (ls.getD t [])])++(ls.eraseIdx t).map (m7 P (gH P (ls.getD t [])))) (ps++[P]):=by
 have R:=h.rot hf ht;have len:=R.len;have wide:=R.wide;generalize ls.getD t []=hd at *
 generalize ls.eraseIdx t=l2 at *
 rw[ao,bg] at len;have whd:hd.length=n:=wide _ (ax.mpr (.inr (.head _)));have wu:(gH P hd).length=n:=by unfold gH;rw[ah];exact whd
 have ek:bV (fs++hd :: l2) ps.length=λc=>hd.getD c 0:=by
  have:=nR (X:=fs) (Y:=hd :: l2) (i:=0);rw[show fs.length+0=ps.length by lia] at this;rw[this];rfl
 have wl:∀r,r.length=n->(m7 P (gH P hd) r).length=n:=λr hr=>by unfold m7;rw[bO,ah,wu,hr];lia
 have vl:∀r,r.length=n->∀c,(m7 P (gH P hd) r).getD c 0=r.getD c 0 - r.getD P 0*(1 / hd.getD P 0*hd.getD c 0):=λr hr c=>by
  unfold m7;rw[Md (by rw[ah,wu,hr]),CD];unfold gH;rw[CD]
 refine R.step (t:=ps.length) (aw _) (by rw[ao,bg];lia) (by rw[ek];exact hne) ?_ ?_ λi hi c=>?_
 ·rw[ao,ao,ah,ah,aX];lia
 ·intro xs hx;rcases ax.mp hx with hx | hx
  ·rcases ax.mp hx with hx | hx
   ·obtain ⟨r,hr,rfl⟩:=az.mp hx;exact wl r (wide r (ax.mpr (.inl hr)))
   ·rw[cm.mp hx];exact wu
  ·obtain ⟨r,hr,rfl⟩:=az.mp hx;exact wl r (wide r (ax.mpr (.inr (.tail _ hr))))
 ·rw[Na,ek]
  dsimp only
  have lf:(fs.map (m7 P (gH P hd))).length=ps.length:=by rw[ah];exact hf
  have key:∀{X:LR9} {s:Nat} (hs:s < X.length) (_:∀r∈X,r.length=n),bV (X.map (m7 P (gH P hd))) s c=bV X s c - bV X s P*(1 / hd.getD P 0*hd.getD c 0):=λ{X s} hs hX=>by
   unfold bV;have e1:(X.map (m7 P (gH P hd))).getD s []=m7 P (gH P hd) X[s]:=by rw[aa,aD,ag hs];rfl
   have e2:X.getD s []=X[s]:=by rw[aa,ag hs];rfl
   rw[e1,e2];exact vl _ (hX _ (aL hs)) c
  rcases dM i ps.length with z | z | z
  ·rw[if_neg (by lia),ck,BI (by lia),BI (by lia),key (by lia) λr hr=>wide r (ax.mpr (.inl hr))]
  ·rw[if_pos z,ck,show i=(fs.map (m7 P (gH P hd))).length+0 by lia,nR];show (gH P hd).getD c 0=_
   unfold gH;rw[CD]
  ·rw[if_neg (by lia)];obtain ⟨j,rfl⟩:∃j,i=ps.length+1+j:=⟨i - ps.length - 1,by lia⟩
   have e1:bV (fs++hd :: l2) (ps.length+1+j)=bV l2 j:=by
    have:=nR (X:=fs) (Y:=hd :: l2) (i:=j+1);rw[show fs.length+(j+1)=ps.length+1+j by lia] at this;rw[this];rfl
   have e2:bV ((fs.map (m7 P (gH P hd))++[gH P hd])++l2.map (m7 P (gH P hd))) (ps.length+1+j)=bV (l2.map (m7 P (gH P hd))) j:=by
    have:=nR (X:=fs.map (m7 P (gH P hd))++[gH P hd]) (Y:=l2.map (m7 P (gH P hd))) (i:=j);rw[ao,lf,aX] at this;exact this
   rw[e1,e2,key (by lia) λr hr=>wide r (ax.mpr (.inr (.tail _ hr)))]
end
theorem uS {α β:Type} {F:α->β->Prop}:∀{l1:List α} {l2:List β} (_:Paired F l1 l2) (i:Nat),Paired F (l1.eraseIdx i) (l2.eraseIdx i)
 | _,_,.nil,_=>.nil
 | _,_,.cons _ r,0=>r
 | _,_,.cons h r,i+1=>.cons h (uS r i)
theorem HI {xs:List Rat} {i c:Nat}:c∈uC xs i↔c < i/\xs.getD c 0≠0:=by
 unfold uC;rw[kM,fJ];simp
theorem bA.toE {K:FG9} {H0 H:Hp} {l:Addr} {rows:LR9} (h:bA K H0 H l rows):∃us,H l=some (.lst us)/\Paired (pC K (λq=>H0 q=none/\q≠l) H) rows us:=by
 obtain ⟨us,g,pr,nn⟩:=h;exact ⟨us,g,qY (λxs v hv ⟨q,e,a,b⟩=>⟨q,e,⟨a,λz=>nn (by rw[<- z,<- e];exact hv)⟩,b⟩) pr⟩
theorem Ct {α:Type} {v:α}:∀{l:List α},l.Nodup->v∉l->∀j,(l.set j v).Nodup
 | [],_,_,_=>Dl
 | a :: l,h,hn,0=>by
  rw[dS] at h;rw[List.set_cons_zero,dS];exact ⟨λz=>hn (.tail _ z),h.2⟩
 | a :: l,h,hn,j+1=>by
  rw[dS] at h;rw[List.set_cons_succ,dS];refine ⟨λz=>?_,Ct h.2 (λz=>hn (.tail _ z)) j⟩;rcases cM z with z | z
  ·exact h.1 z
  ·exact hn (by rw[z];exact .head _)
structure jy (K:FG9) (A:Addr->Prop) (H:Hp) (n:Nat) (C:V->Rat->Prop) (m p l b q0:Addr) (us ws vs:List V):Prop where
 bag:ib H b
 inn:Inner H b q0
 gm:H m=some (.lst us)
 gp:H p=some (.lst ws)
 gl:H l=some (.lst vs)
 lm:us.length=n
 row:∀x∈us++vs++ws,fL K A H n (C x) x
 nd:(us++vs++ws).Nodup
section
variable {K:FG9} {A:Addr->Prop} {H H':Hp} {n:Nat} {C C':V->Rat->Prop} {m p l b q0 q:Addr} {us ws vs zs:List V} {y:Rat} {v:V}
theorem jy.same (h:jy K A H n C m p l b q0 us ws vs) (e:aF H H'):jy K A H' n C m p l b q0 us ws vs :=
 ⟨h.bag.same e,(e.upto (p:=b)).2 _ h.inn,e _ _ h.gm,e _ _ h.gp,e _ _ h.gl,h.lm,λx hx=>(h.row x hx).same e,h.nd⟩
theorem jy.upto (h:jy K A H n C m p l b q0 us ws vs) (M:F4 A m p l b q0) (u:c6 b H H') (B':ib H' b):jy K A H' n C m p l b q0 us ws vs :=
 ⟨B',u.2 _ h.inn,u.other M.mb h.gm,u.other M.pb h.gp,u.other M.lb h.gl,h.lm,λx hx=>(h.row x hx).upto u h.bag M.ab,h.nd⟩
theorem jy.weak (h:jy K A H n C m p l b q0 us ws vs) (w:∀x∈us++vs++ws,∀y,C x y->C' x y):jy K A H n C' m p l b q0 us ws vs :=
 ⟨h.bag,h.inn,h.gm,h.gp,h.gl,h.lm,λx hx=>(h.row x hx).weak (λ_ z=>z) (w x hx),h.nd⟩
theorem jy.put (h:jy K A H n C m p l b q0 us ws vs) (M:F4 A m p l b q0) (aq:A q) (hq:H q=some (.lst zs)) (hv:cA K H y v) (hc:C (.ref q) y) (j:Nat):jy K A (upd H q (.lst (zs.set j v))) n C m p l b q0 us ws vs:=by
 have ne:∀{z},¬A z->z≠q:=λh e=>h (by rw[e];exact aq)
 refine ⟨h.bag.upd h.inn (ne M.ab).symm (ne M.aq).symm,h.inn.upd (ne M.ab).symm,by rw[bf (ne M.am)];exact h.gm,by rw[bf (ne M.ap)];exact h.gp,by rw[bf (ne M.al)];exact h.gl,h.lm,λx hx=>?_,h.nd⟩;by_cases e:x=.ref q
 ·subst e;exact (h.row _ hx).put hq hv hc j
 ·obtain ⟨q1,qs,rfl,a1,r1,l1,c1⟩:=h.row x hx;exact ⟨q1,qs,rfl,a1,r1.updL hq (λz=>e (by rw[z])),l1,c1⟩
theorem jy.set (h:jy K A H n C m p l b q0 us ws vs) (M:F4 A m p l b q0) (hx:fL K A H n (C v) v) (hn:v∉us++vs++ws) (j:Nat):jy K A (upd H m (.lst (us.set j v))) n C m p l b q0 (us.set j v) ws vs:=by
 have mem:∀x∈us.set j v++vs++ws,x=v\/x∈us++vs++ws:=λx hx=>by
  rcases ax.mp hx with hx | hx
  ·rcases ax.mp hx with hx | hx
   ·rcases cM hx with hx | hx
    ·exact .inr (by simp [hx])
    ·exact .inl hx
   ·exact .inr (by simp [hx])
  ·exact .inr (by simp [hx])
 refine ⟨h.bag.upd h.inn M.mb M.mq,h.inn.upd M.mb,aE,by rw[bf M.mp.symm];exact h.gp,by rw[bf M.ml.symm];exact h.gl,by rw[dU];exact h.lm,λx hx'=>?_,?_⟩
 ·rcases mem x hx' with rfl | hx'
  ·exact hx.other h.gm M.am
  ·exact (h.row x hx').other h.gm M.am
 ·have nd:=h.nd;rw[ck] at nd hn ⊢;obtain ⟨n1,n2,n3⟩:=c9.mp nd;refine c9.mpr ⟨?_,n2,λa ha c hc=>?_⟩
  ·rcases b8 j us.length with z | z
   ·exact Ct n1 (λz'=>hn (ax.mpr (.inl z'))) j
   ·rw[List.set_eq_of_length_le z];exact n1
  ·rcases cM ha with ha | rfl
   ·exact n3 a ha c hc
   ·exact λz=>hn (ax.mpr (.inr (by rw[z];exact hc)))
end
theorem Jb {M W:Nat} {x:Rat} (h0:0 < M) (h1:M<=2^800) (hW:W<=2^140) (h:Fr M W x):kK x :=
 HX h0 (ai h1 (av (by decide) (by decide))) (ai hW (av (by decide) (by decide))) h
theorem NT {t V c:Nat} (ht:t<=3) (hV:V<=2^20) (hc:c<=9):c*(9^t*V)<=2^140:=by
 have h1:9^t<=9^3:=av (by decide) ht;have h2:c*(9^t*V)<=9*(9^3*2^20):=aJ hc (aJ h1 hV);exact ai h2 (ai (show 9*(9^3*2^20)<=2^40 by decide) (av (by decide) (by decide)))
theorem Ao {α:Type} {l:List α} {v:α} (h:l.Nodup) (hn:v∉l):(l++[v]).Nodup:=c9.mpr ⟨h,by simp,λa ha c hc=>by rw[cm.mp hc];exact λz=>hn (by rw[<- z];exact ha)⟩
section
variable {K:FG9} {a:Addr} {xs:List V} {g:TG} {tf:TT} {te:TE} {Q:VK} {σ₀:St} {H:Hp} {α β:Type}
theorem CV {n:Nat} {b:Addr} (G:Hp->β->V->Prop) (C:β->Prop) (hB:ib H b) (hl:n<=1000) (hG:∀{H' H'' c x},G H' c x->c6 b H' H''->ib H' b->G H'' c x)
  (hA:∀{H' c x},G H' c x->∃q,x=V.ref q/\H' q≠none)
  (hs:∀(i:Nat) H' NY NN,i < n->c6 b H H'->ib H' b->(∀y c H2,c6 b H' H2->ib H2 b->C c->G H2 c y->(∃q,y=V.ref q/\H' q=none)->NY y H2)->pI σ₀ g tf te (.int i) H' NY NN)
  (hd:∀ys cs H' p,H p=none->c6 b H H'->ib H' b->H' p=some (.lst ys)->cs.length=n->ys.Nodup->(∀c∈cs,C c)->Paired (G H') cs ys->(∃H2,H2 p=none/\Paired (G H2) cs ys)->Q (.ref p) H'):pU (F5 0 n) σ₀ g tf te Q H:=by
 refine jP (λi ys H'=>c6 b H H'/\ib H' b/\∃cs,cs.length=i/\ys.Nodup/\(∀c∈cs,C c)/\Paired (G H') cs ys) (bc (bC (by lia))) ⟨(aF.refl _).upto,hB,[],rfl,Dl,(λ_ z=>nomatch z),.nil⟩ ?_ ?_
 ·rintro i ys H' hi hlen ⟨u,B,cs,lc,nd,hc,pr⟩;rw[mE];refine hs i H' _ _ hi u B λy c H2 u2 B2 cc gy ⟨q,ey,nq⟩=>⟨u.trans u2,B2,cs++[c],by simp [lc],Ao nd (λz=>by obtain ⟨c',_,gc⟩:=dn pr z;obtain ⟨q',e',h'⟩:=hA gc;rw[ey] at e';cases e';exact h' nq),Jn hc cc,cp (Paired.imp' (λ_ _ z=>hG z u2 B) pr) (.cons gy .nil)⟩
 ·rintro ys H' hy ⟨u,B,cs,lc,nd,hc,pr⟩ p hp;have s:aF H' (upd H' p (.lst ys)):=aF.new hp;exact hd ys cs _ p (u.none B hp) (u.same s) (B.same s) aE lc nd hc (Paired.imp' (λ_ _ z=>hG z s.upto B) pr) ⟨H',hp,pr⟩
end
structure Ij (K:FG9) (A:Addr->Prop) (n:Nat) (C:Rat->Prop) (m p l b q0:Addr) (us ws vs:List V) (H0 H:Hp):Prop where
 mix:jy K A H n (λ_=>C) m p l b q0 us ws vs
 gp:H p=some (.lst ws)
 gl:H l=some (.lst vs)
 kp:gY A b m H0 H
section
variable {K:FG9} {A:Addr->Prop} {n:Nat} {C:Rat->Prop} {m p l b q0 q:Addr} {us ws vs:List V} {H0 H H':Hp} {y:Rat} {v:V}
theorem Ij.same (h:Ij K A n C m p l b q0 us ws vs H0 H) (e:aF H H'):Ij K A n C m p l b q0 us ws vs H0 H':=⟨h.mix.same e,e _ _ h.gp,e _ _ h.gl,h.kp.same e⟩
theorem Ij.upto (h:Ij K A n C m p l b q0 us ws vs H0 H) (M:F4 A m p l b q0) (u:c6 b H H') (B:ib H' b):Ij K A n C m p l b q0 us ws vs H0 H':=⟨h.mix.upto M u B,u.other M.pb h.gp,u.other M.lb h.gl,h.kp.upto u⟩
theorem Ij.row (h:Ij K A n C m p l b q0 us ws vs H0 H) {x:V} (hx:x∈ws\/x∈vs):fL K A H n C x:=h.mix.row x (by rcases hx with hx | hx <;> simp [hx])
theorem Ij.put (h:Ij K A n C m p l b q0 us ws vs H0 H) (M:F4 A m p l b q0) (hx:V.ref q∈ws\/V.ref q∈vs) (hv:cA K H y v) (hc:C y) (j:Nat):∃zs,H q=some (.lst zs)/\zs.length=n/\Ij K A n C m p l b q0 us ws vs H0 (upd H q (.lst (zs.set j v))):=by
 obtain ⟨q',zs,qs,e,a,g,lz,_⟩:=(h.row hx).at;cases e;have ne:∀{z},¬A z->z≠q:=λh e=>h (by rw[e];exact a)
 exact ⟨zs,g,lz,h.mix.put M a g hv hc j,by rw[bf (ne M.ap)];exact h.gp,by rw[bf (ne M.al)];exact h.gl,h.kp.upd (.inl a)⟩
end
inductive E4 (K:FG9) (vs:List V) (H:Hp) (Q:VK) (E9:XK):Prop
 | mk (b:Addr) (n w:Nat) (way first:Int):vs=[.ref b,.int n,.int way,.int first,.int w]->ib H b->n<=8->1<=w->w<=1000000->(∀r us H',H r=none->H' r=some (.lst us)->us.length=n->us.Nodup->(∀x∈us,fL K (λq=>H q=none/\q≠r) H' n (Dr (max w 6)) x)->ib H' b->c6 b H H'->Q (.ref r) H')->E4 K vs H Q E9
def PtF (n i o w c:Nat) (mv pt lk:LR9):Prop:=∃M V1:Nat,0 < M/\GF M V1 mv/\GF M V1 pt/\GF M V1 lk/\((w<=9/\M=2520/\V1=9^3*9)\/(9 < w/\M<=2^(c*((n+i+o)*n))/\V1=9^3*2^c))
theorem Eg {mv pt:LR9} {M V1 a c n0:Nat} (M0:0 < M) (hM:M<=2^a) (hn:mv.length<=n0) (hV:(n0+1)*V1<=2^c) (fm:GF M V1 mv) (fp:GF M V1 pt) (h4:a<=400/\c<=40/\n0*(n0*(a+c)+4)<=1740/\n0*(n0*(n0*(a+c)+4)+a+c+4)<=445000):p6 mv pt a c:=by
 obtain ⟨h1,h2,h3,h5⟩:=h4;have e1:mv.length*(a+c)<=n0*(a+c):=aA _ hn;have e2:mv.length*(mv.length*(a+c)+4)<=n0*(n0*(a+c)+4):=aJ hn (by lia);have e3:mv.length*(mv.length*(mv.length*(a+c)+4)+a+c+4)<=n0*(n0*(n0*(a+c)+4)+a+c+4):=aJ hn (by lia);exact ⟨M,V1,M0,hM,ai (aA _ (by lia)) hV,fm,fp,h1,h2,by lia,by lia⟩
def Nb (K:FG9):Sp:=λvs H Q _=>∃b:Addr,vs=[.ref b]/\ib H b /\
 ∀r mv pt lk H',fM K H H' r mv pt lk->6<=mv.length->fF mv pt lk->GF 1 (9^3) mv->GF 1 (9^3) pt->GF 1 (9^3) lk->ib H' b->c6 b H H'->Q (.ref r) H'
theorem LY {mv pt R R':LR9} {n t:Nat} {ps ps':List Nat} (lm:mv.length=n) (wm:∀xs∈mv,xs.length=n) (wp:∀xs∈pt,xs.length=n) (RR:bK (kry mv pt t) n R ps) (RR':bK (kry mv pt (t+1)) n R' ps'):bK (pt++R.map (lY mv)) n R' ps':=by
 have wk:=eE (mv:=mv) lm wp t;refine ⟨RR'.1,RR'.2.1,RR'.2.2.other ?_ ?_⟩
 ·refine uG (λi hi=>qo hi) λi hi=>nv ?_
  rw[ah] at hi;have:=RR.2.2.span i hi;rw[<- RR.1] at this;exact zo lm wm wk RR.2.1 hi this
 ·refine uG (λi hi=>qo hi) λi hi=>nv ?_
  rw[ah] at hi;exact zo lm wm RR.2.1 wk hi (RR.2.2.back i (by rw[<- RR.1];exact hi))
theorem OL {F G:List iP->Rat} {r:Nat} {σ:Nat->Nat} (hF:∀ws:List iP,F (ws.map λv i=>v (σ i))=G ws):∀(post pre:List iP) (s:Rat),Bi F r (pre.map λv i=>v (σ i)) (post.map λv i=>v (σ i)) s=Bi G (σ r) pre post s
 | [],_,_=>rfl
 | v :: post,pre,s=>by
  have i1:=hF (pre++post);have i2:=OL (r:=r) hF post (pre++[v]) (-s);simp only[cE,fI,List.map_nil,Bi] at i1 i2 ⊢;rw[i1,i2]
theorem OW {σ:Nat->Nat}:∀(rs:List Nat) (vs:List iP),p7 rs (vs.map λv i=>v (σ i))=p7 (rs.map σ) vs
 | [],[]=>rfl
 | [],_ :: _=>rfl
 | r :: rs,vs=>OL (λws=>OW rs ws) vs [] 1
theorem Lh {σ:Nat->Nat}:∀{k:Nat},(w5 (λi=>i) k).map σ=w5 σ k
 | 0=>rfl
 | k+1=>by show σ k :: _=_;rw[Lh];rfl
theorem cw_map {τ:iP->iP} {v:Nat->iP}:∀{k:Nat},(pd v k).map τ=pd (λj=>τ (v j)) k
 | 0=>rfl
 | k+1=>by show τ (v k) :: _=_;rw[cw_map];rfl
theorem Qy {σ:Nat->Nat} {v:Nat->iP} {k:Nat}:p7 (w5 σ k) (pd v k)=p7 (w5 (λi=>i) k) (pd (λj i=>v j (σ i)) k):=by
 rw[<- Lh,<- OW,cw_map]
structure Vb (r n:Nat) (Pm Y Z:Nat->Nat->Rat) (d:Rat) (W:Nat):Prop where
 d0:d≠0
 det:d=p7 (w5 (λi=>i) r) (pd (λj i=>Pm i j) r)
 eq:∀i,i < r->∀c,c < n->Z i c=bH r λs=>Pm i s*Y s c
 pf:∀i,i < r->∀s,s < r->Fr 1 W (Pm i s)
 zf:∀i,i < r->∀c,c < n->Fr 1 W (Z i c)
section
variable {rows fs ls:LR9} {n r M W Wv Wb k P:Nat} {Pm Y Z B E a:Nat->Nat->Rat} {d:Rat} {ps:List Nat} {rs:LR9}
def Tg (rows:LR9) (n S:Nat):Prop:=2*S<=199500/\∃J:Nat->LR9->List Nat->Prop,J 0 rows []/\(∀P rs ps,J P rs ps->(∀i,ps.length<=i->i < rs.length->bV rs i P=0)->J (P+1) rs ps) /\
 (∀P fs ls ps t,J P (fs++ls) ps->fs.length=ps.length->t < ls.length->P < n->(ls.getD t []).getD P 0≠0->J (P+1) ((fs.map (m7 P (gH P (ls.getD t [])) )++[gH P (ls.getD t [])])++(ls.eraseIdx t).map (m7 P (gH P (ls.getD t [])))) (ps++[P])) /\
 (∀P rs ps,J P rs ps->yC rows n P rs ps)/\∀P rs ps,J P rs ps->P<=n->∀i,i < rows.length->∃D:Nat,0 < D/\D<=2^S/\∀c,Tp D (2^S) (bV rs i c)
theorem O4.lws {w a:Nat} (F:O4 rows n w a) (hw:∀xs∈rows,xs.length=n):Tg rows n (min rows.length n*(w+4)+a):=by
 obtain ⟨_,_,_,_,_,_,_,_,e⟩:=id F;refine ⟨e,yC rows n,yC.start hw,λ_ _ _ h z=>h.skip z,λ_ _ _ _ _ h hf ht hP hne=>h.lean hf ht hP hne,λ_ _ _ h=>h,λP rs ps h hP i hi=>?_⟩;obtain ⟨D,D0,D1,D2⟩:=h.sz F hP hi;exact ⟨D,D0,D1,λc=>(D2 c).mono (av (by decide) (by lia))⟩
end
section
variable {rows R R1 R2 mv pt:LR9} {n r M V1 W W' Wv Wb k P:Nat} {Pm Y Z B E a:Nat->Nat->Rat} {d:Rat} {ps ps1 ps2:List Nat} {rs:LR9}
theorem KS (h0:0 < M) (h3:∀xs∈rows,∀x∈xs,Tp M W x):∀i,i < rows.length->∀c,Fr 1 W (dH (rows.map gE) i c):=λi hi c=>by
 have hx:=getD_in (e:=[]) hi;rw[xJ hi];unfold bV;generalize rows.getD i []=xs at hx ⊢;by_cases hc:c < xs.length
 ·have t:=h3 xs hx _ (getD_in (e:=0) hc);obtain ⟨s,e,b⟩:=wB t h0 (nO (xs:=xs)) (nP (az.mpr ⟨_,getD_in (e:=0) hc,rfl⟩)) (y9 h0 (h3 xs hx));rw[dJ,e];exact Fr.int b
 ·rw[aa,aO (by lia)];show Fr 1 W (_*0)
  rw[fZ];exact Fr.zero
theorem Vb.of (hw:∀xs∈rows,xs.length=n) (hW:1<=W) (h0:0 < M) (h3:∀xs∈rows,∀x∈xs,Tp M W x) (RR:bK rows n R ps):∃Pm Z d,Vb ps.length n Pm (bV R) Z d W:=by
 have ent:=KS h0 h3;obtain ⟨ls,ps2,d,I⟩:=wD hw hW (by rw[ah];exact ent) n (aw _);obtain ⟨_,_,⟨pm,B⟩,E⟩:=I;rw[ah] at B E
 have RF:Dg rows.length n (bV rows) ps2.length (λj=>ps2.getD j 0) (λi c=>dH ls i c / d):=Dg.other (E.done λi hi c hc=>uy (n:=n) (λzs hz=>by
  obtain ⟨xs,hx,rfl⟩:=az.mp hz;rw[nk];exact hw xs hx) hc) yQ yR
 obtain ⟨e1,e2,e3⟩:=RF.uniq RR.2.2 (λ_ hi=>eG.row hi) (λ_ hi=>eG.row hi);refine ⟨λi s=>dH (rows.map gE) (pm i) (ps2.getD s 0),λi c=>dH (rows.map gE) (pm i) c,d,?_⟩;rw[<- e1];have km:=B.km;refine ⟨B.d0,?_,λi hi c hc=>?_,λi hi s hs=>ent _ (B.rng i (by lia)) _,λi hi c hc=>ent _ (B.rng i (by lia)) _⟩
 ·rw[B.det];exact Qy
 ·have:=B.coef (i:=i) (c:=c) (by lia);rw[if_pos hi,sG] at this;rw[this];exact aV λs hs=>by rw[<- e3 s hs c];exact dJ _ _
theorem wF {f:Nat->Rat} {a:Nat}:∀{b:Nat},bH (a+b) f=bH a f+bH b λt=>f (a+t)
 | 0=>by show bH a f=bH a f+0;grind
 | b+1=>by
  show bH (a+b) f+f (a+b)=_+(bH b _+f (a+b))
  rw[wF];grind
end
section
variable {rows R R1 R2 mv pt:LR9} {n t t2 a c:Nat} {ps ps1 ps2:List Nat}
theorem uN (RR:bK rows n R ps):bK R n R ps:=⟨RR.1,RR.2.1,RR.2.2.other (λi hi=>by rw[RR.1];exact RR.2.2.span i hi) (λi hi=>RR.2.2.back i (by rw[<- RR.1];exact hi))⟩
theorem Nl (RR:bK rows n R ps) (e:ps.length=n) {i:Nat} (hi:i < n) (c:Nat):bV R i c=if c=i then 1 else 0:=by
 have lo:∀j,j < n->j<=ps.getD j 0:=by
  intro j
  induction j with
  | zero=>intro _;exact aZ _
  | succ j ih =>
   intro hj;have:=ih (by lia);have:=RR.2.2.inc j (j+1) (by lia) (by lia)
   lia
 have hi2:∀s j,j+s+1=n->ps.getD j 0<=j:=by
  intro s
  induction s with
  | zero =>
   intro j hj;have:=RR.2.2.low j (by lia)
   lia
  | succ s ih =>
   intro j hj;have:=ih (j+1) (by lia);have:=RR.2.2.inc j (j+1) (by lia) (by lia)
   lia
 have ep:∀j,j < n->ps.getD j 0=j:=λj hj=>MR (hi2 (n - 1 - j) j (by lia)) (lo j hj)
 by_cases hc:c < n
 ·have:=RR.2.2.unit i (by lia) c (by lia);rw[ep c hc] at this;rw[this];by_cases z:i=c
  ·rw[if_pos z,if_pos z.symm]
  ·rw[if_neg z,if_neg (Ne.symm z)]
 ·rw[HY RR.2.1 (by lia),if_neg (by lia)]
theorem Jc {M W:Nat} (h:∀i,i < rows.length->∀c,Tp M W (bV rows i c)):∀xs∈rows,∀x∈xs,Tp M W x:=λxs hx x hx'=>by
 obtain ⟨i,hi,rfl⟩:=bP hx;obtain ⟨c,hc,rfl⟩:=bP hx';have:=h i hi c;unfold bV at this;rw[aa (l:=rows),ag hi] at this;have e:(some rows[i]).getD []=rows[i]:=rfl;rw[e,aa,ag hc] at this;exact this
theorem p6.vb (F:p6 mv pt a c) (wm:∀xs∈mv,xs.length=mv.length) (wp:∀xs∈pt,xs.length=mv.length) (ht:t<=ps.length) (RR:bK (kry mv pt t) mv.length R ps):∃Pm Z d w,Vb ps.length mv.length Pm (bV R) Z d (2^w)/\(ps.length < mv.length/\w=(mv.length - 1)*(a+c)\/ps.length=mv.length/\w=0):=by
 have le:=RR.le;rcases b8 ps.length mv.length with z | z
 ·obtain ⟨M,V,M0,Ma,hV,fm,fp,_⟩:=F;have f:=LX rfl wm wp hV fm fp t
  obtain ⟨Pm,Z,d,vb⟩:=Vb.of (eE rfl wp t) (bW (n:=(mv.length - 1)*(a+c))) (ip M0 (n:=t)) (λxs hx x hx'=>Tp.of (f xs hx x hx') (by
   refine ai (aU _ (kh Ma t)) ?_;rw[<- v9,<- aY];refine av (by decide) ?_;rw[<- Di,cH,sH c];exact aA _ (by lia))) RR
  exact ⟨Pm,Z,d,_,vb,.inl ⟨z,rfl⟩⟩
 ·have e:ps.length=mv.length:=by lia
  obtain ⟨Pm,Z,d,vb⟩:=Vb.of (W:=2^0) (M:=1) RR.2.1 (by decide) (by decide) (Jc λi hi c=>by
   rw[RR.1,e] at hi;rw[Nl RR e hi c]
   split
   ·exact ⟨1,by rw[Rat.one_mul];rfl,by decide⟩
   ·exact ⟨0,by rw[Rat.zero_mul];rfl,by decide⟩) (uN RR)
  exact ⟨Pm,Z,d,0,vb,.inr ⟨e,rfl⟩⟩
end
def Gd (mv pt:LR9) (i:Nat) (R:LR9) (ps:List Nat):Prop:=bK (kry mv pt i) mv.length R ps/\∃t,t<=ps.length/\t<=i/\bK (kry mv pt t) mv.length R ps/\(t=i\/∀s,bK (kry mv pt (t+s)) mv.length R ps)
section
variable {mv pt R R':LR9} {i:Nat} {ps ps':List Nat}
theorem Gd.start:Gd mv pt 0 [] []:=⟨GY,0,aw _,aw _,GY,.inl rfl⟩
theorem Lg (wm:∀xs∈mv,xs.length=mv.length) (wp:∀xs∈pt,xs.length=mv.length) (h:bK (kry mv pt i) mv.length R ps) (h':bK (kry mv pt (i+1)) mv.length R' ps') (e:ps'.length=ps.length):∀s,bK (kry mv pt (i+s)) mv.length R ps:=Cz rfl wm wp h (LY rfl wm wp h h') e
theorem Gd.step (wm:∀xs∈mv,xs.length=mv.length) (wp:∀xs∈pt,xs.length=mv.length) (h:Gd mv pt i R ps) (h':bK (kry mv pt (i+1)) mv.length R' ps'):Gd mv pt (i+1) R' ps'/\(mv.length<=i->R'=R):=by
 obtain ⟨h0,t,t1,t2,ht,hs⟩:=h
 have st:(∀s,bK (kry mv pt (t+s)) mv.length R ps)->Gd mv pt (i+1) R' ps'/\(mv.length<=i->R'=R):=λhs=>by
  have:=hs (i+1 - t);rw[show t+(i+1 - t)=i+1 by lia] at this;obtain ⟨rfl,rfl⟩:=this.same h';exact ⟨⟨h',t,t1,by lia,ht,.inr hs⟩,λ_=>rfl⟩
 rcases hs with rfl | hs
 ·have gr:=FE rfl wm wp h0 h';by_cases e:ps'.length=ps.length
  ·exact st (Lg wm wp h0 h' e)
  ·refine ⟨⟨h',t+1,by lia,aw _,h',.inl rfl⟩,λhn=>?_⟩;have:=h'.le
   lia
 ·exact st hs
end
section
variable {rows R X K0:LR9} {due L:List Rat} {n m M W D E W0 W1:Nat} {ps:List Nat}
theorem Mo {N Wx:Nat} {rs:List Nat} {vs:List iP} (hl:vs.length<=N) (h:∀v∈vs,∀r∈rs,Fr 1 Wx (v r)):∃z:Int,p7 rs vs=(z:Rat)/\z.natAbs<=(N*Wx)^rs.length:=by
 have f:=AK hl h;obtain ⟨z,ez⟩:=vh f;rw[ez] at f;exact ⟨z,ez,ux f⟩
end
def fV (mv:LR9):Nat->List Rat->List Rat
 | 0,x=>x
 | t+1,x=>lY mv (fV mv t x)
section
variable {mv pt lk pus:LR9} {st pu go:List Rat} {n t T c:Nat}
theorem uQ (h:st.length=mv.length):∀t,(fV mv t st).length=mv.length
 | 0=>h
 | _+1=>oO
theorem HW {x y:List Rat} (h:x.length=y.length) (e:∀c,c < x.length->x.getD c 0=y.getD c 0):x=y:=by
 apply d9 h;intro c h1 h2;have:=e c h1;rwa [aa,aa,ag h1,ag h2] at this
theorem RU (wm:∀xs∈mv,xs.length=mv.length) (h:st.length=mv.length) (hc:c < mv.length):(lY mv st).getD c 0=bH mv.length λj=>bV mv c j*st.getD j 0:=by
 have e:(lY mv st).getD c 0=cG mv[c] st:=by
  unfold lY;rw[aa,aD,ag hc];rfl
 have wc:=wm _ (aL hc);rw[e,cU (by lia),wc];refine aV λj _=>?_
 unfold bV;rw[aa (l:=mv),ag hc];rfl
theorem LM (D:fF mv pt lk) (h:st.length=mv.length) (hp:pu.length=pt.length) (hc:c < mv.length):(fX mv pt st pu).getD c 0=bH mv.length (λj=>bV mv c j*st.getD j 0)+bH pt.length λi=>pu.getD i 0*bV pt i c:=by
 have wc:=D.mw _ (aL hc)
 have e:(fX mv pt st pu).getD c 0=cG (mv[c]++pt.map λxs=>xs.getD c 0) (st++pu):=by
  unfold fX;rw[aa,bS,ag hc,KQ hc];rfl
 rw[e,rK (by lia),cU (by lia),cU (by rw[ah];lia),wc,ah];congr 1
 ·refine aV λj _=>?_
  unfold bV;rw[aa (l:=mv),ag hc];rfl
 ·refine aV λi hi=>?_
  rw[dJ];congr 1;unfold bV;rw[aa,aD,aa (l:=pt),ag hi];rfl
theorem vg:∀t,(kry mv pt t).length=t*pt.length
 | 0=>by rw[Nat.zero_mul];rfl
 | t+1=>by
  show (pt++(kry mv pt t).map (lY mv)).length=_
  rw[ao,ah,vg t,j7,sH]
theorem Iy (D:fF mv pt lk) (ls:st.length=mv.length):∀k,k<=pus.length->(∀xs∈pus,xs.length=pt.length)->∀c,c < mv.length->(pJ mv pt st pus k).getD c 0=(fV mv k st).getD c 0+bH (kry mv pt k).length λi=>((pus.take k).reverse.flatten).getD i 0*bV (kry mv pt k) i c:=by
 intro k
 induction k with
 | zero =>
  intro _ _ c _;show st.getD c 0=st.getD c 0+0
  grind
 | succ k ih =>
  intro hk hp c hc;have hk':k < pus.length:=hk;have e:=ag hk';have hl:=hp _ (aL hk');have ls':=oq (pt:=pt) (pus:=pus) ls (k:=k) (by lia)
  have lf:((pus.take k).reverse.flatten).length=(kry mv pt k).length:=by
   rw[vg,AJ (i:=pt.length) λxs hx=>hp xs (cb (List.mem_reverse.mp hx)),List.length_reverse,bR,MQ (by lia)]
  rw[qj e,LM D ls' hl hc]
  have er:(pus.take (k+1)).reverse.flatten=pus[k]++(pus.take k).reverse.flatten:=by
   rw[take_snoc e,List.reverse_append];simp
  have ek:kry mv pt (k+1)=pt++(kry mv pt k).map (lY mv):=rfl;rw[er,ek,ao,ah,wF]
  have p1:(bH pt.length λi=>(pus[k]++(pus.take k).reverse.flatten).getD i 0*bV (pt++(kry mv pt k).map (lY mv)) i c)=bH pt.length λi=>pus[k].getD i 0*bV pt i c:=aV λi hi=>by
   rw[BI hi,aa,cN (by lia),aa]
  have p2:(bH (kry mv pt k).length λi=>(pus[k]++(pus.take k).reverse.flatten).getD (pt.length+i) 0*bV (pt++(kry mv pt k).map (lY mv)) (pt.length+i) c)=bH mv.length λj=>bV mv c j*bH (kry mv pt k).length λi=>((pus.take k).reverse.flatten).getD i 0*bV (kry mv pt k) i j:=by
   have q1:∀i,i < (kry mv pt k).length->(pus[k]++(pus.take k).reverse.flatten).getD (pt.length+i) 0*bV (pt++(kry mv pt k).map (lY mv)) (pt.length+i) c=bH mv.length λj=>bV mv c j*(((pus.take k).reverse.flatten).getD i 0*bV (kry mv pt k) i j):=λi hi=>by
    rw[nR,Lz rfl D.mw (eE rfl D.pw k) hi,aa,bT (by lia),hl,Nat.add_sub_cancel_left,<- aa,<- cR];exact aV λj _=>by grind
   rw[aV q1,fv];exact aV λj _=>cR
  rw[p1,p2];have p3:(fV mv (k+1) st).getD c 0=bH mv.length λj=>bV mv c j*(fV mv k st).getD j 0:=RU D.mw (uQ ls k) hc
  rw[p3]
  have p4:(bH mv.length λj=>bV mv c j*(pJ mv pt st pus k).getD j 0)=(bH mv.length λj=>bV mv c j*(fV mv k st).getD j 0)+bH mv.length λj=>bV mv c j*bH (kry mv pt k).length λi=>((pus.take k).reverse.flatten).getD i 0*bV (kry mv pt k) i j:=by
   rw[<- kU];refine aV λj hj=>?_
   rw[ih (by lia) hp j hj];grind
  rw[p4];grind
end
section
variable {mv pt lk pus R:LR9} {st pu go w pr L:List Rat} {n t T c u k:Nat} {ps:List Nat}
theorem GB {x y:List Rat} (h:x.length=y.length) (hc:c < x.length):(List.zipWith (λx y=>x - y) x y).getD c 0=x.getD c 0 - y.getD c 0:=by
 rw[aa,bS,aa (l:=x),aa (l:=y),ag hc,ag (by lia)];rfl
end
def Ea (l:Addr):Hp:=λq=>if q=l then some (.lst []) else none
theorem off_ne {l:Addr}:Ea l l≠none:=by unfold Ea;rw[if_pos rfl];exact λz=>nomatch z
theorem LD {l q:Addr} (h:q≠l):Ea l q=none:=by unfold Ea;rw[if_neg h]
def KD (K:FG9) (l:Addr) (H:Hp) (R:LR9) (v:V):Prop:=∃q,v=V.ref q/\q≠l/\bA K (Ea l) H q R
section
variable {K:FG9} {H0 H H':Hp} {l p q:Addr} {R:LR9} {v:V} {mv pt:LR9} {u T:Nat}
theorem bA.off (h:bA K H0 H p R) (hl:H l=none):p≠l/\bA K (Ea l) H p R:=by
 obtain ⟨xs,g,r,n⟩:=h;refine ⟨λz=>(by rw[z,hl] at g;cases g),xs,g,Paired.imp' (λ_ _ ⟨q,a,b,c⟩=>⟨q,a,LD λz=>?_,c⟩) r,n⟩;obtain ⟨_,gg,_⟩:=c;rw[z,hl] at gg;cases gg
theorem KD.same (h:KD K l H R v) (s:aF H H'):KD K l H' R v:=by obtain ⟨q,a,b,c⟩:=h;exact ⟨q,a,b,c.same s⟩
theorem KD.upd {ys zs:List V} (h:KD K l H R v) (g:H l=some (.lst ys)):KD K l (upd H l (.lst zs)) R v:=by obtain ⟨q,a,b,c⟩:=h;exact ⟨q,a,b,c.updL g off_ne b⟩
def Kq (mv pt:LR9) (u:Nat):List (LR9):=(List.range u).map λs=>pt.map (fV mv s)
theorem Jp:Kq mv pt (u+1)=Kq mv pt u++[pt.map (fV mv u)]:=by unfold Kq;rw[iT,cE];rfl
theorem vN:∀u,(Kq mv pt u).flatten=kry mv pt u
 | 0=>rfl
 | u+1=>by
  have e:Kq mv pt (u+1)=pt :: (Kq mv pt u).map (List.map (lY mv)):=by
   unfold Kq;rw[List.range_succ_eq_map,fI,iB];congr 1
   ·exact pY pt
   ·rw[iB];refine dP λs _=>?_
    show pt.map (fV mv (s+1))=(pt.map (fV mv s)).map (lY mv)
    rw[iB];rfl
  rw[e,JA,<- List.map_flatten,vN u];rfl
end
theorem Tp.up {M W x:Nat} {q:Rat} (h:Tp M W q) (k:Nat) (hx:W*k<=x):Tp (M*k) x q:=by
 obtain ⟨z,e,b⟩:=h;exact ⟨z*k,by rw[p9,aS,<- e,bh];grind,by rw[dO,cT];exact ai (aA _ b) hx⟩
section
variable {mv pt lk rows R N Hd:LR9} {st pr go:List Rat} {n r t T a c W B:Nat} {ps psd:List Nat} {Pm Y Z:Nat->Nat->Rat} {d:Rat}
theorem Vb.tp (V:Vb r n Pm Y Z d W) (r15:r<=15) (w1:1<=W):∃q:Nat,0 < q/\q<=(16*W)^r/\∀s,s < r->∀c,c < n->Tp q ((16*W)^r) (Y s c):=by
 have rlt:∀i∈w5 (λi=>i) r,i < r:=λi hi=>by
  obtain ⟨t,ht,e⟩:=mR hi;have e:i=t:=e
  lia
 obtain ⟨q,eq,bq⟩:=Mo (N:=16) (Wx:=W) (rs:=w5 (λi=>i) r) (vs:=pd (λj i=>Pm i j) r) (by rw[cw_len];lia) λw hw i hi=>by
  obtain ⟨s,hs,rfl⟩:=cw_in hw;exact V.pf i (rlt i hi) s hs
 rw[qU] at bq;rw[<- V.det] at eq;have q0:q≠0:=λz=>V.d0 (by rw[eq,z];rfl)
 refine ⟨q.natAbs,by lia,bq,λs hs c hc=>?_⟩
 have cr:=CH (rs:=w5 (λi=>i) r) (v:=λj i=>Pm i j) (c:=λj=>Y j c) (W:=λi=>Z i c) hs (λi hi=>by
  rw[V.eq i (rlt i hi) c hc];exact aV λj _=>dJ _ _)
 obtain ⟨z,ez,bz⟩:=Mo (N:=16) (Wx:=W) (rs:=w5 (λi=>i) r) (vs:=KC (λj i=>Pm i j) s r++(λi=>Z i c) :: pd (λj i=>Pm i j) s) (by
  have:=congrArg List.length (cw_split (v:=λj i=>Pm i j) hs);rw[ao,bg,cw_len] at this;rw[ao,bg]
  lia) λw hw i hi=>by
   rcases ax.mp hw with hw | hw
   ·obtain ⟨s',hs',rfl⟩:=FP hw;exact V.pf i (rlt i hi) s' hs'
   ·rcases aG.mp hw with rfl | hw
    ·exact V.zf i (rlt i hi) c hc
    ·obtain ⟨s',hs',rfl⟩:=cw_in hw;exact V.pf i (rlt i hi) s' (by lia)
 rw[qU] at bz;rw[ez,<- V.det,eq] at cr;have key:Y s c*(q:Rat)=(z:Rat):=cr.symm;rcases Gu q with h | h
 ·have hq:((q.natAbs:Nat):Rat)=(q:Rat):=by rw[<- bh,<- h]
  exact ⟨z,by rw[hq,key],bz⟩
 ·have hq:((q.natAbs:Nat):Rat)=-(q:Rat):=by rw[<- bh,<- cP];congr 1;lia
  exact ⟨-z,by rw[hq,cP,<- key];grind,by rw[jE];exact bz⟩
theorem Qt (F:p6 mv pt a c) (D8:mv.length<=8) (wm:∀xs∈mv,xs.length=mv.length) (wp:∀xs∈pt,xs.length=mv.length):∀T,∃R ps,Gd mv pt T R ps:=by
 intro T
 induction T with
 | zero=>exact ⟨_,_,Gd.start⟩
 | succ T ih =>
  obtain ⟨R,ps,G⟩:=ih;obtain ⟨RR,t,t1,t2,RRt,hs⟩:=id G;have le:=RR.le
  obtain ⟨R',ps',d,ls,S⟩:=Cp (n:=mv.length) (rows:=pt++R.map (lY mv)) (λxs hx=>by
   rcases ax.mp hx with hx | hx
   ·exact wp xs hx
   ·obtain ⟨y,_,rfl⟩:=az.mp hx;exact oO) (F.step D8 wm wp (t:=t) (by lia) RRt)
  have RR':=vf rfl wm wp RR S.rr;exact ⟨R',ps',(G.step wm wp RR').1⟩
theorem Sa (F:p6 mv pt a c) (D8:mv.length<=8) (wm:∀xs∈mv,xs.length=mv.length) (wp:∀xs∈pt,xs.length=mv.length) (RR:bK (kry mv pt T) mv.length R ps):Gd mv pt T R ps:=by
 obtain ⟨R',ps',G⟩:=Qt F D8 wm wp T;obtain ⟨rfl,rfl⟩:=RR.same G.1;exact G
theorem p6.rtp (F:p6 mv pt a c) (D8:mv.length<=8) (wm:∀xs∈mv,xs.length=mv.length) (wp:∀xs∈pt,xs.length=mv.length) (RR:bK (kry mv pt T) mv.length R ps):∃q,0 < q/\q<=2^(ps.length*((mv.length - 1)*(a+c)+4))/\∀xs∈R,∀x∈xs,Tp q (2^(ps.length*((mv.length - 1)*(a+c)+4))) x:=by
 obtain ⟨_,t,t1,_,RRt,_⟩:=Sa F D8 wm wp RR;obtain ⟨Pm,Z,d,w,vb,hw⟩:=F.vb wm wp t1 RRt;have le:=RR.le;obtain ⟨q,q0,q1,q2⟩:=vb.tp (by lia) bW
 have up:(16*2^w)^ps.length<=2^(ps.length*((mv.length - 1)*(a+c)+4)):=by
  have e:(16*2^w)^ps.length=2^(ps.length*(w+4)):=by rw[show (16:Nat)=2^4 from rfl,<- aY,<- v9,cH ps.length,sH w]
  rw[e];refine av (by decide) (aU _ ?_);rcases hw with ⟨_,rfl⟩ | ⟨_,rfl⟩ <;> lia
 refine ⟨q,q0,ai q1 up,Jc λi hi e=>?_⟩;by_cases he:e < mv.length
 ·exact (q2 i (by rw[<- RR.1];exact hi) e he).mono up
 ·rw[HY RR.2.1 (by lia)];exact Tp.zero
theorem JQ {M:Nat} (hw:∀xs∈N,xs.length=n) (hW:1<=W) (h0:0 < M) (h3:∀xs∈N,∀x∈xs,Tp M W x) (f:Nat->Nat) (hf:∀i,i < N.length->bV N i (f i)≠0/\∀j,j < N.length->j≠i->bV N j (f i)=0) (hn:∀i,i < N.length->f i < n) (RR:bK N n Hd psd):psd.length=N.length:=by
 have ent:=KS h0 h3;obtain ⟨ls,ps2,d,I⟩:=wD hw hW (by rw[ah];exact ent) n (aw _);obtain ⟨_,_,⟨pm,B⟩,E⟩:=I;rw[ah] at B E
 have RF:Dg N.length n (bV N) ps2.length (λj=>ps2.getD j 0) (λi c=>dH ls i c / d):=Dg.other (E.done λi hi c hc=>uy (n:=n) (λzs hz=>by
  obtain ⟨xs,hx,rfl⟩:=az.mp hz;rw[nk];exact hw xs hx) hc) yQ yR
 obtain ⟨e1,_,_⟩:=RF.uniq RR.2.2 (λ_ hi=>eG.row hi) (λ_ hi=>eG.row hi);rw[<- e1];have km:=B.km;rcases b8 ps2.length N.length with z | z
 ·exfalso
  have hk:=B.rng ps2.length z;obtain ⟨f1,f2⟩:=hf _ hk
  have low:∀i,i < ps2.length->dH (N.map gE) (pm i) (f (pm ps2.length))=0:=λi hi=>by
   rw[xJ (B.rng i (by lia)),f2 _ (B.rng i (by lia)) (λe=>by have:=B.inj i ps2.length (by lia) z e;lia),fZ]
  have lz:∀j,j < ps2.length->dH ls j (f (pm ps2.length))=0:=λj hj=>by
   rw[B.old hj]
   exact En (λr hr=>by
    obtain ⟨t,ht,rfl⟩:=mR hr;exact low t ht) _ _
  have:=B.eqs ps2.length z (f (pm ps2.length));rw[if_neg (dr _),E.zero ps2.length (aw _) z _ (hn _ hk),cS λj hj=>by rw[lz j hj,fZ],xJ hk] at this;have bne:=vK (rows:=N) (i:=pm ps2.length);have d0:=B.d0;rcases MP.mp (this.trans (by grind)) with q | q
  ·exact d0 q
  ·rcases MP.mp q with q | q
   ·exact bne q
   ·exact f1 q
 ·lia
theorem Qv (h1:∀i j,i < j->j < ps.length->ps.getD i 0 < ps.getD j 0) (h2:∀j,j < ps.length->ps.getD j 0 < n):(y8 ps n).length+ps.length=n:=by
 have key:∀i,∃k,k<=ps.length/\(y8 ps i).length+k=i/\(∀j,j < k->ps.getD j 0 < i)/\∀j,k<=j->j < ps.length->i<=ps.getD j 0:=by
  intro i
  induction i with
  | zero=>exact ⟨0,aZ _,rfl,λj hj=>absurd hj (cX _),λj _ _=>aZ _⟩
  | succ i ih =>
   obtain ⟨k,k1,k2,k3,k4⟩:=ih;rw[AI];by_cases hk:k < ps.length/\ps.getD k 0=i
   ·have hm:i∈ps:=by rw[<- hk.2];exact getD_in hk.1
    rw[if_neg (λz=>z hm)];refine ⟨k+1,hk.1,by lia,λj hj=>?_,λj hj hl=>?_⟩
    ·rcases b8 j k with z | z
     ·have:=k3 j z;lia
     ·rw[show j=k by lia,hk.2];lia
    ·have:=h1 k j (by lia) hl
     lia
   ·have hm:i∉ps:=λz=>by
     obtain ⟨j,hj,ej⟩:=bP z;have ej':ps.getD j 0=i:=by rw[aa,ag hj];exact ej
     rcases b8 j k with y | y
     ·have:=k3 j y;lia
     ·rcases b8 k j with x | x
      ·have:=h1 k j x hj;have:=k4 k (aw _) (by lia)
       lia
      ·exact hk ⟨by lia,by rw[show k=j by lia];exact ej'⟩
    rw[if_pos hm];refine ⟨k,k1,by rw[ao,aX];lia,λj hj=>by have:=k3 j hj;lia,λj hj hl=>?_⟩;have:=k4 j hj hl;rcases b8 i (ps.getD j 0) with y | y
    ·exact y
    ·exact absurd (by rw[show i=ps.getD j 0 by lia];exact getD_in hl) hm
 obtain ⟨k,k1,k2,k3,k4⟩:=key n;rcases b8 k ps.length with z | z
 ·have:=k4 k (aw _) z;have:=h2 k z
  lia
 ·lia
theorem Eb:∀xs∈dg R ps n,xs.length=n:=λxs hx=>by
 obtain ⟨_,_,_,rfl⟩:=xk hx;exact rz
theorem xl (RR:bK rows n R ps):(dg R ps n).length+ps.length=n:=by
 unfold dg;rw[ah];exact Qv RR.2.2.inc RR.2.2.low
theorem HJ {M:Nat} (RR:bK rows n R ps) (hW:1<=W) (h0:0 < M) (h3:∀xs∈dg R ps n,∀x∈xs,Tp M W x) (RN:bK (dg R ps n) n Hd psd):psd.length+ps.length=n:=by
 have fn:∀i,i < (dg R ps n).length->∀c,c < n->c∉ps->bV (dg R ps n) i c=if c=(y8 ps n).getD i 0 then 1 else 0:=λi hi c hc hp=>by
  unfold dg at hi ⊢;rw[ah] at hi;unfold bV;rw[aa (l:=List.map _ _),aD,ag hi];show (Ky R ps n (y8 ps n)[i]).getD c 0=_
  rw[N7 hc hp,aa,ag hi];rfl
 have fm:∀i,i < (dg R ps n).length->(y8 ps n).getD i 0 < n/\(y8 ps n).getD i 0∉ps:=λi hi=>by
  unfold dg at hi;rw[ah] at hi;exact Ek.mp (getD_in hi)
 have nd:(y8 ps n).Nodup:=by
  unfold y8;exact List.Nodup.sublist List.filter_sublist List.nodup_range
 rw[JQ Eb hW h0 h3 (λi=>(y8 ps n).getD i 0) (λi hi=>⟨?_,λj hj ne=>?_⟩) (λi hi=>(fm i hi).1) RN,xl RR]
 ·rw[fn i hi _ (fm i hi).1 (fm i hi).2,if_pos rfl];decide
 ·rw[fn j hj _ (fm i hi).1 (fm i hi).2,if_neg λz=>ne ?_];unfold dg at hi hj;rw[ah] at hi hj;rw[aa,aa,ag hi,ag hj] at z;have z:(y8 ps n)[i]=(y8 ps n)[j]:=z;have pw:=List.pairwise_iff_getElem.mp nd;rcases dM i j with y | y | y
  ·exact absurd z (pw i j hi hj y)
  ·exact y.symm
  ·exact absurd z.symm (pw j i hj hi y)
theorem GG (RR:bK rows n R ps) (RN:bK (dg R ps n) n Hd psd):∀h∈Hd,∀r∈R,cG h r=0:=λh hh r hr=>by
 obtain ⟨i,hi,rfl⟩:=bP hh;have wr:=RR.2.1 r hr;have wh:=RN.2.1 _ (aL hi);obtain ⟨v,hv⟩:=RN.2.2.back i (by rw[<- RN.1];exact hi);rw[cU (by lia),wh]
 have fnh:∀c,Hd[i].getD c 0=bV Hd i c:=λc=>by
  unfold bV;rw[aa (l:=Hd),ag hi];rfl
 have e1:(bH n λc=>Hd[i].getD c 0*r.getD c 0)=bH (dg R ps n).length λt=>v t*bH n λc=>bV (dg R ps n) t c*r.getD c 0:=by
  have q:∀c,c < n->Hd[i].getD c 0*r.getD c 0=bH (dg R ps n).length λt=>v t*(bV (dg R ps n) t c*r.getD c 0):=λc _=>by
   rw[fnh c,hv c,dJ,<- cR];exact aV λt _=>by grind
  rw[aV q,fv];exact aV λt _=>cR
 rw[e1];refine cS λt ht=>?_
 have mt:=aL ht;obtain ⟨at_,ha,hp,en⟩:=xk mt;obtain ⟨j,hj,rfl⟩:=bP hr;have dz:=Qg (uN RR) ha hp (ag hj) wr;rw[<- en] at dz;have wn:(dg R ps n)[t].length=n:=Eb _ mt;rw[cU (by lia),wr] at dz
 have q:(bH n λc=>bV (dg R ps n) t c*R[j].getD c 0)=0:=by
  refine Eq.trans (aV λc _=>?_) dz
  have:bV (dg R ps n) t c=(dg R ps n)[t].getD c 0:=by
   unfold bV;rw[aa (l:=dg R ps n),ag ht];rfl
  rw[this];exact dJ _ _
 rw[q,fZ]
end
structure So (mv pt:LR9) (st pu:List Rat):Prop where
 f2:∀xs∈mv,yO xs st
 part:∀kk,∀x∈nextK mv pt st pu kk,kK x
 su:∀u∈pu,kK u
 sp:∀row∈pt,∀y∈row,kK y
 mul:∀u∈pu,∀row∈pt,∀y∈row,kK (u*y)
inductive E3 (K:FG9) (vs:List V) (H:Hp) (Q:VK) (E9:XK):Prop
 | mk (r s u:Addr) (H0:Hp) (mv pt lk:LR9) (st pu:List Rat):vs=[.ref r,.ref s,.ref u]->fM K H0 H r mv pt lk->fF mv pt lk->cL K H s st->cL K H u pu->st.length=mv.length->pu.length=pt.length->So mv pt st pu->(∀t H',H t=none->aF H H'->cL K H' t (fX mv pt st pu)->Q (.ref t) H')->E3 K vs H Q E9
structure Bd (mv pt:LR9) (M1 M2 V a1 a2 c:Nat):Prop where
 m1:0 < M1
 m2:0 < M2
 b1:M1<=2^a1
 b2:M2<=2^a2
 gm:GF M1 V mv
 gp:GF M2 V pt
 vc:(mv.length+4)*V<=2^c
section
variable {mv pt lk pus:LR9} {st pu go:List Rat} {M1 M2 V a1 a2 c N Np p t T ν:Nat}
theorem Bd.v1 (B:Bd mv pt M1 M2 V a1 a2 c):V<=2^c:=ai (dN _ (by lia)) B.vc
theorem AH {M W:Nat} {x:Rat} (h0:0 < M) {a b:Nat} (h1:M<=2^a) (h2:W<=2^b) (hab:a+b<=199500) (h:Fr M W x):kK x:=by
 refine kT (Tp.of h (aw _)) h0 (ai h1 (av (by decide) (by lia))) ?_;refine ai (aJ h2 h1) ?_;rw[<- aY];exact av (by decide) (by lia)
theorem Bd.next (B:Bd mv pt M1 M2 V a1 a2 c) (D:fF mv pt lk) (ls:st.length=mv.length) (lu:pu.length=pt.length) (N0:0 < N) (dv:M2*Np∣M1*N) (hs:∀x∈st,Fr N (2^p) x) (hu:∀x∈pu,Fr Np (2^p) x) (hN:N<=2^ν) (sz:a1+ν+c+p<=195000) (sp2:a2+c<=195000):So mv pt st pu/\∀x∈fX mv pt st pu,Fr (M1*N) (2^(c+p)) x:=by
 have V1:=B.v1;have i4:=D.i4;have MN0:0 < M1*N:=b7 B.m1 N0;have MN:M1*N<=2^(a1+ν):=by rw[aY];exact aJ B.b1 hN
 have Np0:0 < Np:=by
  rcases iw Np with z | z
  ·rw[z,Jz] at dv;have:=Nat.eq_zero_of_zero_dvd dv
   lia
  ·exact z
 have NpMN:Np<=M1*N:=ai (dN _ B.m2) (gI MN0 dv)
 have one:∀u∈pu,∀row∈pt,∀y∈row,Fr (M1*N) (V*2^p) (u*y):=λu hu' row hr y hy=>by
  have:=(B.gp row hr y hy).mul (hu u hu');rw[dJ];exact this.dvd dv
 have part:∀kk,kk<=pt.length->∀x∈nextK mv pt st pu kk,Fr (M1*N) (2^(c+p)) x:=λkk hkk x hx=>by
  obtain ⟨j,hj,e⟩:=bP hx;rw[iM] at hj;have e2:=Ap (mv:=mv) (pt:=pt) (st:=st) (pu:=pu) (k:=kk) hj;rw[aa,ag (by rw[iM];exact hj)] at e2;have e3:x=cG (mv[j]++(pt.map λxs=>xs.getD j 0).take kk) (st++pu.take kk):=by rw[<- e,<- e2];rfl
  have wj:=D.mw _ (aL hj);rw[e3,rK (by lia)];have f1:=Fr.dot (B.gm _ (aL hj)) hs;rw[wj] at f1
  have f2:Fr (M1*N) (4*(V*2^p)) (cG ((pt.map λxs=>xs.getD j 0).take kk) (pu.take kk)):=by
   have hc:∀y∈(pt.map λxs=>xs.getD j 0).take kk,Fr M2 V y:=λy hy=>by
    obtain ⟨xs,hxs,rfl⟩:=az.mp (cb hy);rw[aa];cases e:xs[j]? with
    | none=>exact Fr.zero
    | some z=>exact B.gp xs hxs z (au e)
   have:=Fr.dot (ys:=pu.take kk) hc (λy hy=>hu y (cb hy));refine (this.dvd dv).mono (aA _ ?_);rw[bR,ah]
   lia
  refine (f1.add f2).mono ?_;rw[<- Di,aY,<- cK];exact aA _ B.vc
 have szb:∀{x:Rat},Fr (M1*N) (2^(c+p)) x->kK x:=λh=>AH MN0 MN (aw _) (by lia) h
 have all:∀kk,∀x∈nextK mv pt st pu kk,Fr (M1*N) (2^(c+p)) x:=λkk x hx=>by
  rcases b8 pt.length kk with z | z
  ·have e:nextK mv pt st pu kk=nextK mv pt st pu pt.length:=(rY (by lia) (by lia)).trans (rY (aw _) (by lia)).symm;rw[e] at hx;exact part _ (aw _) x hx
  ·exact part kk z x hx
 refine ⟨⟨λxs hx=>⟨a1,c,ν,p,⟨M1,V,B.m1,B.b1,V1,B.gm xs hx⟩,⟨N,2^p,N0,hN,aw _,hs⟩,by lia⟩,λkk x hx=>szb (all kk x hx),λu hu'=>?_,λrow hr y hy=>?_,λu hu' row hr y hy=>szb ((one u hu' row hr y hy).mono (by rw[aY];exact aA _ V1))⟩,λx hx=>?_⟩
 ·exact AH Np0 (ai NpMN MN) (aw _) (by lia) (hu u hu')
 ·exact AH B.m2 B.b2 V1 (by lia) (B.gp row hr y hy)
 ·rw[<- rY (k:=pt.length) (aw _) (by lia)] at hx;exact all _ x hx
end
section
variable {mv pt lk pus:LR9} {st pu go:List Rat} {M1 M2 V a1 a2 c N Np p t T ν k:Nat}
def Th (mv pt pus:LR9) (st:List Rat):Prop:=∃M1 M2 V a1 a2 c N Np p ν,Bd mv pt M1 M2 V a1 a2 c/\0 < N/\N<=2^ν/\M2*Np∣N/\(∀x∈st,Fr N (2^p) x)/\(∀xs∈pus,∀x∈xs,Fr Np (2^p) x)/\a1*(pus.length+1)+ν+c*(pus.length+1)+p<=195000/\a2+c<=195000
theorem lg {M a t N ν:Nat} (h:M<=2^a) (hN:N<=2^ν):M^t*N<=2^(a*t+ν):=by
 rw[aY,v9];exact aJ (kh h t) hN
theorem Bd.states (B:Bd mv pt M1 M2 V a1 a2 c) (D:fF mv pt lk) (ls:st.length=mv.length) (wp:∀xs∈pus,xs.length=pt.length) (N0:0 < N) (hN:N<=2^ν) (dv:M2*Np∣N) (hs:∀x∈st,Fr N (2^p) x) (hu:∀xs∈pus,∀x∈xs,Fr Np (2^p) x) (sz:a1*(pus.length+1)+ν+c*(pus.length+1)+p<=195000) (sp2:a2+c<=195000):∀k,k<=pus.length->(∀x∈pJ mv pt st pus k,Fr (M1^k*N) (2^(c*k+p)) x)/\∀pu,pus[k]?=some pu->So mv pt (pJ mv pt st pus k) pu:=by
 have key:∀k,k<=pus.length->(∀x∈pJ mv pt st pus k,Fr (M1^k*N) (2^(c*k+p)) x)->∀pu,pus[k]?=some pu->So mv pt (pJ mv pt st pus k) pu/\∀x∈fX mv pt (pJ mv pt st pus k) pu,Fr (M1*(M1^k*N)) (2^(c+(c*k+p))) x:=λk hk f pu hpu=>by
  have mp:=au hpu;have kl:=(aB.mp hpu).1;have e1:a1*(k+1)<=a1*(pus.length+1):=aU _ (by lia);have e2:c*(k+1)<=c*(pus.length+1):=aU _ (by lia);rw[eH,MJ] at e1 e2;refine B.next D (oq ls hk) (wp pu mp) (b7 (ip B.m1) N0) ?_ f (λx hx=>(hu pu mp x hx).mono (av (by decide) (Nat.le_add_left _ _))) (lg B.b1 hN) (by lia) sp2;exact wg dv (wg (hJ _ _) (hJ _ _))
 have fr:∀k,k<=pus.length->∀x∈pJ mv pt st pus k,Fr (M1^k*N) (2^(c*k+p)) x:=by
  intro k
  induction k with
  | zero =>
   intro _ x hx;rw[Nat.pow_zero,wa,Jz,Nat.zero_add];exact hs x hx
  | succ k ih =>
   intro hk x hx;have e:=ag (show k < pus.length by lia);rw[qj e] at hx;have:=(key k (by lia) (ih (by lia)) _ e).2 x hx;rw[<- cK,cH M1,<- gi,show c+(c*k+p)=c*(k+1)+p by rw[eH];lia] at this;exact this
 exact λk hk=>⟨fr k hk,λpu hpu=>(key k hk (fr k hk) pu hpu).1⟩
theorem Th.nx (h:Th mv pt pus st) (D:fF mv pt lk) (ls:st.length=mv.length) (wp:∀xs∈pus,xs.length=pt.length) (hk:k<=pus.length) (hpu:pus[k]?=some pu):So mv pt (pJ mv pt st pus k) pu:=by
 obtain ⟨M1,M2,V,a1,a2,c,N,Np,p,ν,B,N0,hN,dv,hs,hu,sz,sp2⟩:=h;exact (B.states D ls wp N0 hN dv hs hu sz sp2 k hk).2 pu hpu
def Tj (mv:LR9) (st:List Rat) (T:Nat):Prop:=∃M1 V a1 c N p ν,0 < M1/\M1<=2^a1/\GF M1 V mv/\(mv.length+4)*V<=2^c/\0 < N/\N<=2^ν/\(∀x∈st,Fr N (2^p) x)/\a1*(T+1)+ν+c*(T+1)+p<=195000
theorem P7 (gm:GF M1 V mv) (wm:∀xs∈mv,xs.length=mv.length) (vc:(mv.length+4)*V<=2^c) (ls:st.length=mv.length) (hs:∀x∈st,Fr N (2^p) x):∀t,∀x∈fV mv t st,Fr (M1^t*N) (2^(c*t+p)) x:=by
 intro t
 induction t with
 | zero =>
  intro x hx;rw[Nat.pow_zero,wa,Jz,Nat.zero_add];exact hs x hx
 | succ t ih =>
  intro x hx;obtain ⟨row,hr,rfl⟩:=az.mp (show x∈mv.map λxs=>cG xs (fV mv t st) from hx);have f:=Fr.dot (gm row hr) ih;rw[<- cK,cH M1,<- gi] at f;refine f.mono ?_;rw[wm row hr,<- cK,show c*(t+1)+p=c+(c*t+p) by rw[eH];lia,aY 2 c];exact aA _ (ai (aA V (show mv.length<=mv.length+4 by lia)) vc)
theorem Tj.fit (h:Tj mv st T) (wm:∀xs∈mv,xs.length=mv.length) (ls:st.length=mv.length) (ht:t<=T):(∀xs∈mv,yO xs (fV mv t st))/\∀x∈fV mv t st,kK x:=by
 obtain ⟨M1,V,a1,c,N,p,ν,m0,m1,gm,vc,N0,hN,hs,sz⟩:=h;have f:=P7 gm wm vc ls hs t;have V1:V<=2^c:=ai (dN _ (by lia)) vc;have e1:a1*t<=a1*T:=aU _ ht;have e2:c*t<=c*T:=aU _ ht;rw[eH,eH,MJ,MJ] at sz;exact ⟨λxs hx=>⟨a1,c,a1*t+ν,c*t+p,⟨M1,V,m0,m1,V1,gm xs hx⟩,⟨M1^t*N,2^(c*t+p),b7 (ip m0) N0,lg m1 hN,aw _,f⟩,by lia⟩,λx hx=>AH (b7 (ip m0) N0) (lg m1 hN) (aw _) (by lia) (f x hx)⟩
def Sw (mv pt:LR9) (T:Nat):Prop:=∃M1 M2 V a1 a2 c,Bd mv pt M1 M2 V a1 a2 c/\a1*(T+1)+a2+c*(T+2)<=195000
theorem Sw.row (h:Sw mv pt T) (wm:∀xs∈mv,xs.length=mv.length) (wp:∀xs∈pt,xs.length=mv.length):∀xs∈pt,Tj mv xs T:=λxs hx=>by
 obtain ⟨M1,M2,V,a1,a2,c,B,sz⟩:=h;refine ⟨M1,V,a1,c,M2,c,a2,B.m1,B.b1,B.gm,B.vc,B.m2,B.b2,λx hx'=>(B.gp xs hx x hx').mono B.v1,?_⟩;rw[eH c T 2] at sz;rw[eH c T 1]
 lia
end
section
variable {X:Cx}
end
def Ti (pt:LR9) (T w:Nat) (pus:LR9):Prop:=pus.length=T/\∀xs∈pus,xs.length=pt.length/\∀x∈xs,Dr (max w 6) x
theorem LK (ws vs:List V) (M1 M2 M3:Nat):∃μ:V->Nat,(∀x∈ws,μ x=M2)/\(∀x∈vs,x∉ws->μ x=M3)/\(∀x,x∉ws->x∉vs->μ x=M1)/\∀x,μ x=M1\/μ x=M2\/μ x=M3:=by
 classical
 refine ⟨λx=>if x∈ws then M2 else if x∈vs then M3 else M1,λx h=>if_pos h,λx h h'=>?_,λx h h'=>?_,λx=>?_⟩
 ·show (if x∈ws then M2 else if x∈vs then M3 else M1)=M3
  rw[if_neg h',if_pos h]
 ·show (if x∈ws then M2 else if x∈vs then M3 else M1)=M1
  rw[if_neg h,if_neg h']
 ·show (if x∈ws then M2 else if x∈vs then M3 else M1)=M1\/(if x∈ws then M2 else if x∈vs then M3 else M1)=M2\/(if x∈ws then M2 else if x∈vs then M3 else M1)=M3
  by_cases h:x∈ws
  ·rw[if_pos h];exact .inr (.inl rfl)
  ·rw[if_neg h];by_cases h':x∈vs
   ·rw[if_pos h'];exact .inr (.inr rfl)
   ·rw[if_neg h'];exact .inl rfl
theorem jy.apart {K:FG9} {A:Addr->Prop} {H:Hp} {n:Nat} {C:V->Rat->Prop} {m p l b q0:Addr} {us ws vs:List V} (h:jy K A H n C m p l b q0 us ws vs):(∀x∈us,x∉ws/\x∉vs)/\∀x∈vs,x∉ws:=by
 obtain ⟨n1,n2,n3⟩:=c9.mp h.nd;obtain ⟨n4,n5,n6⟩:=c9.mp n1;exact ⟨λx hx=>⟨λz=>n3 x (ax.mpr (.inl hx)) x z rfl,λz=>n6 x hx x z rfl⟩,λx hx z=>n3 x (ax.mpr (.inr hx)) x z rfl⟩
theorem jy.fr3 {K:FG9} {A:Addr->Prop} {H:Hp} {n c:Nat} {m p l b q0:Addr} {us ws vs:List V} (h:jy K A H n (λ_=>Dr (2^c)) m p l b q0 us ws vs):∃M1 M2 M3,0 < M1/\0 < M2/\0 < M3/\M1<=2^(c*(n*n))/\M2<=2^(c*(ws.length*n))/\M3<=2^(c*(vs.length*n))/\(∀x∈us,fL K A H n (Fr M1 (2^c)) x)/\(∀x∈ws,fL K A H n (Fr M2 (2^c)) x)/\∀x∈vs,fL K A H n (Fr M3 (2^c)) x:=by
 have one:∀l:List V,(∀x∈l,x∈us++vs++ws)->∃M,0 < M/\M<=2^(c*(l.length*n))/\∀x∈l,fL K A H n (Fr M (2^c)) x:=λl hl=>by
  obtain ⟨ra,pa,la,ha⟩:=zX λx hx=>h.row x (hl x hx)
  obtain ⟨M,m0,m1,m2⟩:=Nn (c:=c) (n:=n) (rows:=ra) ha;exact ⟨M,m0,by rw[la] at m1;exact m1,G6 pa λqs hq=>⟨(ha qs hq).1,m2 qs hq⟩⟩
 obtain ⟨M1,a1,a2,a3⟩:=one us λx hx=>by simp [hx]
 obtain ⟨M2,b1,b2,b3⟩:=one ws λx hx=>by simp [hx]
 obtain ⟨M3,c1,c2,c3⟩:=one vs λx hx=>by simp [hx]
 rw[h.lm] at a2;exact ⟨M1,M2,M3,a1,b1,c1,a2,b2,c2,a3,b3,c3⟩
inductive Ci (K:FG9) (xs:List V) (H:Hp) (Q:VK) (E9:XK):Prop
 | mk (b m p l q0:Addr) (n V1:Nat) (μ:V->Nat) (A:Addr->Prop) (us ws vs:List V):xs=[.ref b,.ref m,.ref p,.ref l]->F4 A m p l b q0->jy K A H n (λx=>Fr (μ x) V1) m p l b q0 us ws vs->n<=8->ws.length<=4->vs.length<=4->(∀x,0 < μ x)->(∀x,μ x<=2^800)->(∃M,∀x,x∉ws->x∉vs->μ x=M)->V1<=2^20->(∀q,H q=none->A q)->(∀r us' H',H' r=some (.tup [.ref m,.ref p,.ref l])->jy K A H' n (λx=>Fr (μ x) (9^3*V1)) m p l b q0 us' ws vs->gY A b m H H'->Q (.ref r) H')->Ci K xs H Q E9
def Te (n i o w c:Nat) (mv pt lk:LR9):Prop:=∃M1 M2 M3 V1:Nat,0 < M1/\0 < M2/\0 < M3/\GF M1 V1 mv/\GF M2 V1 pt/\GF M3 V1 lk/\((w<=9/\M1=2520/\M2=2520/\M3=2520/\V1=9^3*9)\/(9 < w/\M1<=2^(c*(n*n))/\M2<=2^(c*(i*n))/\M3<=2^(c*(o*n))/\V1=9^3*2^c))
inductive Cc (K:FG9) (vs:List V) (H:Hp) (Q:VK) (E9:XK):Prop
 | mk (b:Addr) (n i o w c:Nat):vs=[.ref b,.int n,.int i,.int o,.int w]->ib H b->n<=8->i<=4->o<=4->1<=w->w<=1000000->max w 6<=2^c->c<=20->c*((n+i+o)*n)<=800->(∀r mv pt lk H',fM K H H' r mv pt lk->mv.length=n->pt.length=i->lk.length=o->fF mv pt lk->Te n i o w c mv pt lk->ib H' b->c6 b H H'->Q (.ref r) H')->Cc K vs H Q E9
def Rg (mv pt:LR9) (w:Nat):Prop:=(w<=9/\Bd mv pt 1 1 (9^3) 0 0 14)\/(w<=9/\mv.length<=5/\Bd mv pt 2520 2520 (9^3*9) 12 12 16)\/(w=1000/\mv.length<=2/\∃M1 M2,Bd mv pt M1 M2 (9^3*2^20) 80 160 33)
theorem HU {M V:Nat} {l:LR9} (h:GF M V l) (k:Nat):GF (k*M) V l:=λxs hx x hx'=>(h xs hx x hx').scaleL k
theorem Te.n {n i o w c:Nat} {mv pt lk:LR9} (h:Te n i o w c mv pt lk):PtF n i o w c mv pt lk:=by
 obtain ⟨M1,M2,M3,V1,a1,a2,a3,f1,f2,f3,hc⟩:=h;rcases hc with ⟨w9,rfl,rfl,rfl,e⟩ | ⟨w9,e1,e2,e3,e⟩
 ·exact ⟨2520,V1,by decide,f1,f2,f3,.inl ⟨w9,rfl,e⟩⟩
 ·refine ⟨M1*M2*M3,V1,b7 (b7 a1 a2) a3,?_,?_,?_,.inr ⟨w9,?_,e⟩⟩
  ·have:=HU f1 (M2*M3);rwa [show M2*M3*M1=M1*M2*M3 by rw[cH (M2*M3),cK]] at this
  ·have:=HU f2 (M1*M3);rwa [show M1*M3*M2=M1*M2*M3 by rw[cK,cH M3,cK]] at this
  ·exact HU f3 (M1*M2)
  ·refine ai (aJ (aJ e1 e2) e3) ?_;rw[<- aY,<- aY,show c*((n+i+o)*n)=c*(n*n)+c*(i*n)+c*(o*n) by rw[Di,Di,eH,eH]];exact aw _
section
variable {mv pt lk pus:LR9} {st pu go pr:List Rat} {M1 M2 V a1 a2 c B b g p t T w:Nat}
theorem Bd.kry (X:Bd mv pt M1 M2 V a1 a2 c) (D:fF mv pt lk):∀t,∀xs∈kry mv pt t,∀x∈xs,Fr (M1^(t - 1)*M2) (2^(c*t)) x:=by
 intro t
 induction t with
 | zero=>intro xs hx;exact nomatch hx
 | succ t ih =>
  intro xs hx x hx';rcases ax.mp (show xs∈pt++(L2.kry mv pt t).map (lY mv) from hx) with hx | hx
  ·refine Fr.up (X.gp xs hx x hx') (hJ _ _) (ai X.v1 (av (by decide) ?_));exact dC _ (by lia)
  ·obtain ⟨ys,hy,rfl⟩:=az.mp hx;obtain ⟨row,hr,rfl⟩:=az.mp (show x∈mv.map λzs=>cG zs ys from hx');rcases t with _ | t
   ·exact nomatch hy
   have f:=Fr.dot (X.gm row hr) (ih ys hy);rw[show M1*(M1^(t+1 - 1)*M2)=M1^(t+1+1 - 1)*M2 by rw[<- cK,show t+1 - 1=t by lia,show t+1+1 - 1=t+1 by lia,gi,cH M1]] at f;refine f.mono ?_;rw[D.mw row hr,<- cK,show c*(t+1+1)=c+c*(t+1) by rw[eH c (t+1)];lia,aY 2 c];exact aA _ (ai (aA V (show mv.length<=mv.length+4 by lia)) X.vc)
end
section
variable {mv pt lk pus pus':LR9} {st st' pu go pr:List Rat} {M1 M2 V a1 a2 c B b1 b2 g p t T w:Nat}
theorem FH:∀(xs:List Rat) (k:Nat),cG xs (List.replicate k 0)=0
 | [],_=>by simp [cG]
 | x :: xs,0=>by simp [cG]
 | x :: xs,k+1=>by
  have:=FH xs k;simp only[cG,List.replicate_succ,List.zipWith_cons_cons,List.sum_cons] at this ⊢;rw[this];grind
theorem z7:∀t,fV mv t (List.replicate mv.length 0)=List.replicate mv.length 0
 | 0=>rfl
 | t+1=>by
  show (mv.map λxs=>cG xs (fV mv t (List.replicate mv.length 0)))=_
  rw[z7 t]
  have:∀xs:List Rat,cG xs (List.replicate mv.length (0:Rat))=0:=λxs=>by
   exact FH xs _
  rw[dP λxs _=>this xs,MT]
end
open PySem.MeetsSeq
theorem Bs (l:Addr) (items:Array Value) (n:Nat) (x:Value) (e:Nat->Bool) (j:Nat) (hj:j < items.size) (hit:e j=true) (k:Nat) (hs1:items.size<=sizeLine) :
  ∀i:Nat,j - i=k->i<=j->(∀m,i<=m->m < j->e m=false)->Meets (Builtin.«list.remove.loop» ⟨[.ref l,x,rawInt i],[]⟩)
   (λA R s=>s.heap.get? l=some { cls:=.type "list",dict:=none,data:=.seq items n,slots:=#[] }/\(∀m (hm:m < items.size),SeqAt.EqAt A.in1 s items[m] x (e m))/\R (.ok (.ret .none)) { s with heap:=s.heap.update l (Obj.mapSeq λxs=>xs.eraseIdxIfInBounds j) }):=by
 induction k with
 | zero =>
  intro i hk hij hno prog w A R s h;obtain ⟨hp,g,d,tk,os⟩:=s;obtain ⟨hl,he,h⟩:=h;have hij':i=j:=by lia
  subst hij'
  wp_walk using wpAny_loadPart' hl
  have hi:items[((i:Nat):Int).toNat]?=some items[i]:=by simp [hj]
  rw[hi];refine wpAny_bind (he _ hj prog w _ _ ?_);rw[hit];have hz':(items.eraseIdxIfInBounds i).size<=sizeLine+1:=ai (size_erased items _) (Nat.le_succ_of_le hs1)
  wp_walk using (wpAny_updateSeq hl rfl (hz:=hs1) (_hz':=hz')),wpAny_loadPart' hl
  simpa using h
 | succ k ih =>
  intro i hk hij hno prog w A R s h;obtain ⟨hp,g,d,tk,os⟩:=s;obtain ⟨hl,he,h⟩:=h;have hlt:i < items.size:=by lia
  wp_walk using wpAny_loadPart' hl
  have hi:items[((i:Nat):Int).toNat]?=some items[i]:=by simp [hlt]
  have hc:((i:Int)+1)=((i+1:Nat):Int):=by push_cast;rfl
  rw[hi];refine wpAny_bind (he _ hlt prog w _ _ ?_);rw[hno i (aw _) (by lia)]
  wp_walk
  rw[hc]
  exact ⟨plainId_quiet plain_remove_loop _,codeAny_builtin entry_remove_loop (by
   rw[Around.under_plainId plain_remove_loop _];exact ih (i+1) (by lia) (by lia) (λm h1 h2=>hno m (by lia) h2) prog w A R _ ⟨hl,he,h⟩)⟩
theorem BE (l:Addr) (items:Array Value) (n:Nat) (x:Value) (e:Nat->Bool) (j:Nat) (hj:j < items.size)
  (hit:e j=true) (hno:∀m,m < j->e m=false) (hs1:items.size<=sizeLine) :
  Meets (Builtin.«list.remove» ⟨[.ref l,x],[]⟩)
   (λA R s=>s.heap.get? l=some { cls:=.type "list",dict:=none,data:=.seq items n,slots:=#[] }/\(∀m (hm:m < items.size),SeqAt.EqAt A.in1 s items[m] x (e m))/\R (.ok (.ret .none)) { s with heap:=s.heap.update l (Obj.mapSeq λxs=>xs.eraseIdxIfInBounds j) }):=by
 intro prog w A R s h;obtain ⟨hp,g,d,tk,os⟩:=s;obtain ⟨hl,he,h⟩:=h
 wp_walk using wpAny_loadPart' hl
 exact ⟨plainId_quiet plain_remove_loop _,codeAny_builtin entry_remove_loop (by
  rw[Around.under_plainId plain_remove_loop _];exact Bs l items n x e j hj hit _ hs1 0 rfl (aZ _) (λm _ h2=>hno m h2) prog w A R _ ⟨hl,he,h⟩)⟩
def SV (K:FG9):V->List V->Hp->VK->Prop:=λx vs H Q=>∃(l:Addr) (xs:List V) (y:V) (α:Type) (_:DecidableEq α) (k:Kind α) (as:List α) (a:α) (j:Nat),x=.ref l/\vs=[y]/\H l=some (.lst xs)/\k.d<=40/\Paired (λa x=>k.R K H x a) as xs/\k.R K H y a/\as[j]?=some a/\(∀i,i < j->as[i]?≠some a)/\Q .non (upd H l (.lst (xs.eraseIdx j)))
theorem J7 {X:Cx} (hu:X.A.units+50 < cLine):Tf X "list.remove" (SV X.K):=by
 intro pins s σ H x vs v us Q I rx rv h;obtain ⟨l,xs,y,α,dα,k,as,a,j,rfl,rfl,hH,hd,pa,ha,hj,hno,q⟩:=h;cases rx;obtain ⟨u,rfl,ru⟩:=rv.one;obtain ⟨z,its,n,r,hl,e⟩:=I.lstM hH;have l1:=pa.length;have l2:=r.length;have jl:j < as.length:=(aB.mp hj).1
 refine call_meets F.slot_list_remove ⟨_,e,rfl⟩ F.entry_list_remove (F.args_list_remove_2 _ _)
  (BE l its.toArray n u (λm=>decide (as[m]?=some a)) j (by rw[aQ];lia) (decide_eq_true hj) (λm hm=>decide_eq_false (hno m hm)) (by rw[aQ];lia)) ⟨e,λm hm=>?_,?_⟩
 ·have ml:m < its.length:=by simpa using hm
  obtain ⟨w,hw,rw'⟩:=r.get (i:=m) (x:=xs[m]'(by lia)) (by simp)
  have ew:its.toArray[m]=w:=by
   rw[ag ml] at hw;simpa using hw
  have q:=k.eq (A:=X.A.in1) I rw' ru (iF pa (i:=m) (by lia) (by lia)) ha (by show X.A.units+1+k.d < cLine;lia);rw[ew,ag (show m < as.length by lia)];have e5:decide (some as[m]=some a)=decide (as[m]=a):=by simp
  rw[e5];exact q
 ·refine ⟨.non,_,I.lset (its':=its.eraseIdx j) hH e ?_ (r.eraseIdx j) ?_,rfl,q⟩
  ·show its.toArray.eraseIdxIfInBounds j=(its.eraseIdx j).toArray
   rw[List.eraseIdxIfInBounds_toArray]
  ·have:=Cw xs j
   lia
section
variable {rows rows0 fs l2 R Hd:LR9} {hd:List Rat} {n P:Nat} {ps psd:List Nat}
theorem LS (wide:∀r∈fs++hd :: l2,r.length=n) {i:Nat} (hi:i < (fs++hd :: l2).length) (c:Nat) :
  bV ((fs.map (m7 P (gH P hd))++[gH P hd])++l2.map (m7 P (gH P hd))) i c=if i=fs.length then 1 / hd.getD P 0*hd.getD c 0 else bV (fs++hd :: l2) i c - bV (fs++hd :: l2) i P*(1 / hd.getD P 0*hd.getD c 0):=by
 rw[ao,bg] at hi;have whd:hd.length=n:=wide _ (ax.mpr (.inr (.head _)));have wu:(gH P hd).length=n:=by unfold gH;rw[ah];exact whd
 have vl:∀r,r.length=n->∀c,(m7 P (gH P hd) r).getD c 0=r.getD c 0 - r.getD P 0*(1 / hd.getD P 0*hd.getD c 0):=λr hr c=>by
  unfold m7;rw[Md (by rw[ah,wu,hr]),CD];unfold gH;rw[CD]
 have lf:(fs.map (m7 P (gH P hd))).length=fs.length:=ah _
 have key:∀{X:LR9} {s:Nat} (hs:s < X.length) (_:∀r∈X,r.length=n),bV (X.map (m7 P (gH P hd))) s c=bV X s c - bV X s P*(1 / hd.getD P 0*hd.getD c 0):=λ{X s} hs hX=>by
  unfold bV;have e1:(X.map (m7 P (gH P hd))).getD s []=m7 P (gH P hd) X[s]:=by rw[aa,aD,ag hs];rfl
  have e2:X.getD s []=X[s]:=by rw[aa,ag hs];rfl
  rw[e1,e2];exact vl _ (hX _ (aL hs)) c
 rcases dM i fs.length with z | z | z
 ·rw[if_neg (by lia),ck,BI (by lia),BI (by lia),key (by lia) λr hr=>wide r (ax.mpr (.inl hr))]
 ·rw[if_pos z,ck,show i=(fs.map (m7 P (gH P hd))).length+0 by lia,nR];show (gH P hd).getD c 0=_
  unfold gH;rw[CD]
 ·rw[if_neg (by lia)];obtain ⟨j,rfl⟩:∃j,i=fs.length+1+j:=⟨i - fs.length - 1,by lia⟩
  have e1:bV (fs++hd :: l2) (fs.length+1+j)=bV l2 j:=by
   have:=nR (X:=fs) (Y:=hd :: l2) (i:=j+1);rw[show fs.length+(j+1)=fs.length+1+j by lia] at this;rw[this];rfl
  have e2:bV ((fs.map (m7 P (gH P hd))++[gH P hd])++l2.map (m7 P (gH P hd))) (fs.length+1+j)=bV (l2.map (m7 P (gH P hd))) j:=by
   have:=nR (X:=fs.map (m7 P (gH P hd))++[gH P hd]) (Y:=l2.map (m7 P (gH P hd))) (i:=j);rw[ao,lf,aX] at this;exact this
  rw[e1,e2,key (by lia) λr hr=>wide r (ax.mpr (.inr (.tail _ hr)))]
def Ks (rows:LR9) (n S:Nat):Prop:=2*S<=199500/\∃J:Nat->LR9->List Nat->Prop,J 0 rows []/\(∀P rs ps,J P rs ps->(∀i,ps.length<=i->i < rs.length->bV rs i P=0)->J (P+1) rs ps) /\
 (∀P fs ls ps t,J P (fs++ls) ps->fs.length=ps.length->t < ls.length->P < n->(ls.getD t []).getD P 0≠0->(∀j,j < t->bV ls j P=0)->J (P+1) ((fs.map (m7 P (gH P (ls.getD t [])) )++[gH P (ls.getD t [])])++(ls.eraseIdx t).map (m7 P (gH P (ls.getD t [])))) (ps++[P])) /\
 (∀P rs ps,J P rs ps->yC rows n P rs ps)/\∀P rs ps,J P rs ps->P<=n->∀i,i < rows.length->∃D:Nat,0 < D/\D<=2^S/\∀c,Tp D (2^S) (bV rs i c)
theorem Tg.lwt {S:Nat} (h:Tg rows n S):Ks rows n S:=by
 obtain ⟨a,J,j0,j1,j2,j3,j4⟩:=h;exact ⟨a,J,j0,j1,λP fs ls ps t h1 h2 h3 h4 h5 _=>j2 P fs ls ps t h1 h2 h3 h4 h5,j3,j4⟩
theorem Tp.neg {M W:Nat} {x:Rat} (h:Tp M W x):Tp M W (-x):=by
 obtain ⟨z,e,b⟩:=h;exact ⟨-z,by rw[Rat.neg_mul,e];exact (cP z).symm,by rw[jE];exact b⟩
theorem Ks.redJ {S:Nat} (RR:bK rows0 n Hd psd) (hx:∀i,i < rows.length->eG psd.length (bV Hd) (bV rows i)) (hwr:∀xs∈rows,xs.length=n) (hS:2*S<=199500) (s1:∀i,i < psd.length->∃D:Nat,0 < D/\D<=2^S/\∀c,Tp D (2^S) (bV Hd i c)) (s2:∀i,i < rows.length->∀k,k<=psd.length->∃D:Nat,0 < D/\D<=2^S/\∀c,Tp D (2^S) (bV rows i c - bH k λj=>bV rows i (psd.getD j 0)*bV Hd j c)):Ks (Hd++rows) n S:=by
 have lH:=RR.1;have Rf:=RR.2.2;have wA:∀xs∈Hd++rows,xs.length=n:=λxs h=>(ax.mp h).elim (RR.2.1 xs) (hwr xs)
 refine ⟨hS,λP rs ps=>yC (Hd++rows) n P rs ps/\∃k,k<=psd.length/\ps=psd.take k/\(∀j,j < k->psd.getD j 0 < P)/\(∀j,k<=j->j < psd.length->P<=psd.getD j 0)/\(∀i,i < psd.length->∀c,bV rs i c=bV Hd i c)/\∀i,i < rows.length->∀c,bV rs (psd.length+i) c=bV rows i c - bH k λj=>bV rows i (psd.getD j 0)*bV Hd j c,?_,?_,?_,λ_ _ _ h=>h.1,?_⟩
 ·refine ⟨yC.start wA,0,aZ _,rfl,(λ_ h=>absurd h (cX _)),(λ_ _ _=>aZ _),λi hi c=>by rw[BI (by lia)],λi hi c=>?_⟩;rw[<- lH,nR];show _=_ - (0:Rat)
  grind
 ·rintro P rs ps ⟨L,k,hk,rfl,h1,h2,h3,h4⟩ hz;refine ⟨L.skip hz,k,hk,rfl,λj hj=>wb (h1 j hj),λj hj hj'=>?_,h3,h4⟩;have:=h2 j hj hj';rcases b8 P (psd.getD j 0) with q | q
  ·exact q
  ·have e:psd.getD j 0=P:=by lia
   have len:=L.len;rw[ao] at len;have z:=hz j (by rw[bR];lia) (by lia);rw[h3 j hj',<- e,Rf.unit j hj' j hj',if_pos rfl] at z;exact absurd z (by decide)
 ·rintro P fs ls ps t ⟨L,k,hk,rfl,h1,h2,h3,h4⟩ hf ht hP hne hfst;have hfk:fs.length=k:=by rw[hf,bR];lia
  have L2:=L.lean hf ht hP hne;have len:=L.len;have wide:=L.wide;rw[ao,ao] at len
  have at0:bV (fs++ls) (k+t) P≠0:=by
   rw[<- hfk,nR];exact hne
  have kd:k < psd.length/\psd.getD k 0=P:=by
   by_cases z:k < psd.length/\psd.getD k 0=P
   ·exact z
   ·exfalso
    have lt:∀j,k<=j->j < psd.length->P < psd.getD j 0:=λj hj hj'=>by
     have:=h2 j hj hj';rcases b8 P (psd.getD j 0) with q | q
     ·exact q
     ·have e:psd.getD j 0=P:=by lia
      rcases b8 k j with y | y
      ·have a:=Rf.inc k j y hj';have b:=h2 k (aw _) (by lia)
       lia
      ·have:j=k:=by lia
       subst this;exact absurd ⟨hj',e⟩ z
    have zr:∀j,k<=j->j < psd.length->bV Hd j P=0:=λj hj hj'=>Rf.lead j hj' P (lt j hj hj')
    apply at0;by_cases y:k+t < psd.length
    ·rw[h3 _ y];exact zr _ (by lia) y
    ·obtain ⟨i,hi⟩:∃i,k+t=psd.length+i:=⟨k+t - psd.length,by lia⟩;have il:i < rows.length:=by lia
     rw[hi,h4 i il,Rf.coef (hx i il) P];obtain ⟨b,hb⟩:∃b,psd.length=k+b:=⟨psd.length - k,by lia⟩;rw[hb,wF,cS (k:=b) λj hj=>by rw[zr (k+j) (by lia) (by lia)];grind];grind
  obtain ⟨kd,eP⟩:=kd;have one:bV (fs++ls) k P=1:=by rw[h3 k kd,<- eP,Rf.unit k kd k kd,if_pos rfl]
  have t0:t=0:=by
   rcases iw t with z | z
   ·exact z
   ·have:=hfst 0 z;have e:=nR (X:=fs) (Y:=ls) (i:=0);rw[Nat.add_zero,hfk] at e;rw[e,this] at one;exact absurd one (by decide)
  subst t0
  obtain ⟨hd,l2,rfl⟩:∃hd l2,ls=hd :: l2:=by
   cases ls with
   | nil=>exact absurd ht (cX _)
   | cons a b=>exact ⟨a,b,rfl⟩
  have ehd:∀c,hd.getD c 0=bV Hd k c:=λc=>by
   rw[<- h3 k kd c];have e:=nR (X:=fs) (Y:=hd :: l2) (i:=0);rw[Nat.add_zero,hfk] at e;rw[e];rfl
  have hP1:hd.getD P 0=1:=by rw[ehd,<- h3 k kd];exact one
  refine ⟨L2,k+1,kd,?_,λj hj=>?_,λj hj hj'=>?_,λi hi c=>?_,λi hi c=>?_⟩
  ·rw[List.take_succ,ag kd];have:psd[k]=P:=by rw[<- eP,aa,ag kd];rfl
   rw[this];rfl
  ·rcases b8 j k with y | y
   ·exact wb (h1 j y)
   ·have:j=k:=by lia
    subst this
    lia
  ·have:=Rf.inc k j (by lia) hj'
   lia
  ·show bV ((fs.map (m7 P (gH P hd))++[gH P hd])++l2.map (m7 P (gH P hd))) i c=_
   rw[LS wide (by rw[ao];lia),hP1,ehd];by_cases y:i=fs.length
   ·rw[if_pos y,y,hfk];grind
   ·rw[if_neg y,h3 i hi,h3 i hi,<- eP,Rf.unit i hi k kd,if_neg (by lia)];grind
  ·show bV ((fs.map (m7 P (gH P hd))++[gH P hd])++l2.map (m7 P (gH P hd))) (psd.length+i) c=_
   rw[LS wide (by rw[ao];lia),hP1,ehd,if_neg (by lia),h4 i hi,h4 i hi];rw[show (bH k λj=>bV rows i (psd.getD j 0)*bV Hd j P)=0 from cS λj hj=>by rw[<- eP,Rf.unit j (by lia) k kd,if_neg (by lia)];grind];show _=bV rows i c - (bH k (λj=>bV rows i (psd.getD j 0)*bV Hd j c)+bV rows i (psd.getD k 0)*bV Hd k c)
   rw[eP];grind
 ·rintro P rs ps ⟨L,k,hk,rfl,h1,h2,h3,h4⟩ hP i hi;rw[ao] at hi;by_cases y:i < psd.length
  ·obtain ⟨D,a,b,c⟩:=s1 i y;exact ⟨D,a,b,λx=>by rw[h3 i y];exact c x⟩
  ·obtain ⟨j,rfl⟩:∃j,i=psd.length+j:=⟨i - psd.length,by lia⟩;obtain ⟨D,a,b,c⟩:=s2 j (by lia) k hk;exact ⟨D,a,b,λx=>by rw[h4 j (by lia)];exact c x⟩
theorem Ks.self {M e:Nat} (RR:bK rows0 n Hd psd) (M0:0 < M) (hM:M<=2^e) (th:∀xs∈Hd,∀x∈xs,Tp M (2^e) x) (he:2*e<=199500):Ks Hd n e:=by
 have q:Ks (Hd++[]) n e:=Ks.redJ (rows:=[]) RR (λi hi=>absurd hi (cX _)) (λ_ h=>nomatch h) he (λi _=>⟨M,M0,hM,λc=>KR th i c⟩) (λi hi=>absurd hi (cX _));rwa [qe] at q
end
inductive zF (K:FG9) (vs:List V) (H:Hp) (Q:VK) (E9:XK):Prop
 | mk (p:Addr) (n S:Nat) (H0:Hp) (rows:LR9):vs=[.ref p,.int n]->bA K H0 H p rows->rows.length<=100->n<=100->(∀xs∈rows,xs.length=n)->Ks rows n S->(∀r R ps H',H r=none->aF H H'->bA K H H' r R->bK rows n R ps->ps.length<=rows.length->Q (.ref r) H')->zF K vs H Q E9
theorem LH {xs : List Rat} {n t : Nat} {r : List Nat} (h : uC xs n = t :: r) : ∀ i, i < t → xs.getD i 0 = 0 := λi hi => by
  by_cases z : xs.getD i 0 = 0
  · exact z
  · exfalso
    have pw : (uC xs n).Pairwise (· < ·) := by unfold uC; exact List.Pairwise.filter _ List.pairwise_lt_range
    have tm : t ∈ uC xs n := by rw [h]; exact .head _
    have tn : t < n := (HI.mp tm).1;have im : i ∈ uC xs n := HI.mpr ⟨by lia, z⟩;rw [h] at pw im;rcases aG.mp im with e | e
    · lia
    · have := (List.pairwise_cons.mp pw).1 i e
      lia
inductive Cd (K:FG9) (vs:List V) (H:Hp) (Q:VK) (E9:XK):Prop
 | mk (p:Addr) (n w:Nat) (H0:Hp) (rows R:LR9) (ps:List Nat):vs=[.ref p,.int n]->bA K H0 H p R->R.length<=100->n<=100->bK rows n R ps->EK R n w->(∀xs∈R,∀x∈xs,kK x)->(∀r H',H r=none->aF H H'->bA K H H' r (dg R ps n)->Q (.ref r) H')->Cd K vs H Q E9
structure SK (A lk:LR9) (e:Nat):Prop where
 n8:A.length<=8
 wm:∀xs∈A,xs.length=A.length
 wp:∀xs∈lk,xs.length=A.length
 kf:∃a c,p6 A lk a c/\A.length*((A.length - 1)*(a+c)+4)<=900/\∀p,p<=A.length->(A.length - p)*(p*((A.length - 1)*(a+c)+4)+4)<=e
 e1:e<=1650
def v5 (A lk:LR9) (n t e:Nat) (Hd:LR9):Prop:=∃R ps psd M,bK (kry A lk t) n R ps/\bK (dg R ps n) n Hd psd/\psd.length+ps.length=n/\0 < M/\M<=2^e/\∀xs∈Hd,∀x∈xs,Tp M (2^e) x
section
variable {A lk R Hd:LR9} {e T n t:Nat} {ps psd:List Nat}
theorem SK.sw (h:SK A lk e) (RR:bK (kry A lk T) A.length R ps):(∃w,EK R A.length w)/\(∀xs∈R,∀x∈xs,kK x)/\∃w,EK (dg R ps A.length) A.length w/\min (dg R ps A.length).length A.length*(w+4)<=e/\∃q,0 < q/\∀xs∈dg R ps A.length,∀x∈xs,Tp q (2^w) x:=by
 obtain ⟨a,c,KF,b1,b2⟩:=h.kf;obtain ⟨q,q0,q1,q2⟩:=KF.rtp h.n8 h.wm h.wp RR;have n8:=h.n8;have le:=RR.le;have lR:=RR.1;have cnt:=xl RR;have e1:=h.e1;have bp:=b2 ps.length le;generalize (A.length - 1)*(a+c)+4=E at b1 b2 q1 q2 bp;have pE:ps.length*E<=900:=ai (aA _ le) b1;have up:∀{m:Nat},900<=m->2^(ps.length*E)<=2^m:=λh=>av (by decide) (by lia)
 have tn:∀xs∈dg R ps A.length,∀x∈xs,Tp q (2^(ps.length*E)) x:=λxs hx x hx'=>by
  obtain ⟨a,_,_,rfl⟩:=xk hx;exact RV q0 q1 q2 RR x hx'
 have bn:min (dg R ps A.length).length A.length*(ps.length*E+4)<=e:=ai (aA _ (show min (dg R ps A.length).length A.length<=A.length - ps.length by lia)) bp;refine ⟨⟨ps.length*E,q,2^(ps.length*E),q0,ai q1 (up (by decide)),bW,aw _,q2,by lia,by lia,?_⟩,λxs hx x hx'=>kT (q2 xs hx x hx') q0 (ai q1 (up (by decide))) (up (by decide)),ps.length*E,⟨q,2^(ps.length*E),q0,ai q1 (up (by decide)),bW,aw _,tn,by lia,by lia,by lia⟩,bn,q,q0,tn⟩;have:min R.length A.length*(ps.length*E+4)<=8*904:=aJ (by lia) (by lia)
 lia
theorem v5.lwt (h:v5 A lk n t e Hd) (he:e<=1650):Ks Hd n e:=by
 obtain ⟨R,ps,psd,M,_,RN,_,M0,M1,tp⟩:=h;exact Ks.self RN M0 M1 tp (by lia)
theorem v5.self (h:v5 A lk n t e Hd) {R':LR9} {ps':List Nat} (RR:bK Hd n R' ps'):R'=Hd:=by
 obtain ⟨R,ps,psd,M,_,RN,_⟩:=h;exact (RR.same (uN RN)).1
end
inductive zu (K:FG9) (C:Addr) (vs:List V) (H:Hp) (Q:VK) (E9:XK):Prop
 | mk (x:Addr) (T e:Nat) (H0:Hp) (mv pt lk:LR9):vs=[.ref x,.int T]->T<=99->kL K H0 H C x mv pt lk->fF mv pt lk->Jv mv pt lk->SK (bJ mv mv.length) lk e->(∀r Hd H',H r=none->aF H H'->bA K H H' r Hd->v5 (bJ mv mv.length) lk mv.length T e Hd->Q (.ref r) H')->zu K C vs H Q E9
def Sk (n w T:Nat):Prop:=T<=12/\(9 < w->T<=3)/\(3 < n->n<=5->T<=5)/\(n=3->T<=6)
structure SJ (A lk:LR9) (T e:Nat):Prop where
 un:SK A lk e
 ad:Sw A lk T
 lw:∃S,Ks (kry A lk T) A.length S
 ft:∃k j,2*e+k+j<=196500/\∀xs∈kry A lk T,kx k j xs
section
variable {A lk pk:LR9} {T w e:Nat}
theorem FV {M1 M2 Vx a1 a2 c n:Nat} (B:Bd A lk M1 M2 Vx a1 a2 c) (D:fF A lk pk) (hn:A.length<=n) (n15:n<=15) (sz:2*(n*(c*T+(a1*(T - 1)+a2)+4)+(a1*(T - 1)+a2))<=199500):(∃S,Ks (kry A lk T) A.length S)/\∀xs∈kry A lk T,kx (a1*(T - 1)+a2) (c*T) xs:=by
 have f:=B.kry D T;have M0:0 < M1^(T - 1)*M2:=b7 (ip B.m1) B.m2
 have hM:M1^(T - 1)*M2<=2^(a1*(T - 1)+a2):=by
  rw[aY];exact aJ (ai (kh B.b1 _) (by rw[<- v9];exact aw _)) B.b2
 refine ⟨⟨_,(O4.lws (w:=c*T+(a1*(T - 1)+a2)) (a:=a1*(T - 1)+a2) ⟨_,2^(c*T+(a1*(T - 1)+a2)),M0,hM,bW,aw _,λxs hx x hx'=>Tp.of (f xs hx x hx') (by rw[aY];exact aU _ hM),by lia,?_⟩ (eE rfl D.pw T)).lwt⟩,λxs hx=>⟨_,_,M0,hM,aw _,f xs hx⟩⟩;have:min (kry A lk T).length A.length*(c*T+(a1*(T - 1)+a2)+4)<=n*(c*T+(a1*(T - 1)+a2)+4):=aA _ (by lia)
 lia
theorem Nr (G:Rg A lk w) (D:fF A lk pk) (St:Sk A.length w T):∃e,SJ A lk T e:=by
 obtain ⟨s1,s2,s3,s4⟩:=St;have tri:∀{n N:Nat} (E e:Nat),n<=N->(∀p,p<=N->(N - p)*(p*E+4)<=e)->∀p,p<=n->(n - p)*(p*E+4)<=e:=λE e hn h p hp=>ai (aA _ (by lia)) (h p (by lia))
 rcases G with ⟨_,B⟩ | ⟨_,n5,B⟩ | ⟨w1,n2,M1,M2,B⟩
 ·obtain ⟨l1,l2⟩:=FV (T:=T) (n:=8) B D D.n8 (by decide) (by lia);refine ⟨1650,⟨D.n8,D.mw,D.pw,⟨0,14,Eg (M:=1) (V1:=9^3) (n0:=8) (by decide) (by decide) D.n8 (by decide) B.gm B.gp (by decide),?_,λp hp=>?_⟩,by decide⟩,⟨_,_,_,_,_,_,B,by lia⟩,l1,⟨_,_,by lia,l2⟩⟩
  ·exact ai (aJ D.n8 (show (A.length - 1)*(0+14)+4<=102 by have:=D.n8;lia)) (by decide)
  ·have:=tri 102 1650 D.n8 (by decide) p hp;exact ai (aU _ (Dj (aU _ (by have:=D.n8;lia)) _)) this
 ·obtain ⟨l1,l2⟩:(∃S,Ks (kry A lk T) A.length S)/\∀xs∈kry A lk T,kx (12*(T - 1)+12) (16*T) xs:=by
   rcases (show A.length<=2\/A.length=3\/3 < A.length by lia) with h | h | h
   ·exact FV (n:=2) B D h (by decide) (by lia)
   ·have:=s4 h;exact FV (n:=3) B D (by lia) (by decide) (by lia)
   ·have:=s3 h n5;exact FV (n:=5) B D n5 (by decide) (by lia)
  refine ⟨720,⟨D.n8,D.mw,D.pw,⟨12,16,Eg (M:=2520) (V1:=9^3*9) (n0:=5) (by decide) (by decide) n5 (by decide) B.gm B.gp (by decide),?_,λp hp=>?_⟩,by decide⟩,⟨_,_,_,_,_,_,B,by lia⟩,l1,⟨_,_,by lia,l2⟩⟩
  ·exact ai (aJ n5 (show (A.length - 1)*(12+16)+4<=116 by lia)) (by decide)
  ·have:=tri 116 720 n5 (by decide) p hp;exact ai (aU _ (Dj (aU _ (by lia)) _)) this
 ·have t3:=s2 (by lia);obtain ⟨l1,l2⟩:=FV (T:=T) (n:=2) B D n2 (by decide) (by lia);have fm:GF (M1*M2) (9^3*2^20) A:=λxs hx x hx'=>(B.gm xs hx x hx').scale M2
  have fp:GF (M1*M2) (9^3*2^20) lk:=λxs hx x hx'=>(B.gp xs hx x hx').scaleL M1
  have hM:M1*M2<=2^240:=ai (aJ B.b1 B.b2) (by rw[<- aY];exact aw _);refine ⟨600,⟨D.n8,D.mw,D.pw,⟨240,32,Eg (n0:=2) (b7 B.m1 B.m2) hM n2 (by decide) fm fp (by decide),?_,λp hp=>?_⟩,by decide⟩,⟨_,_,_,_,_,_,B,by lia⟩,l1,⟨_,_,by lia,l2⟩⟩
  ·exact ai (aJ n2 (show (A.length - 1)*(240+32)+4<=276 by lia)) (by decide)
  ·have:=tri 276 600 n2 (by decide) p hp;exact ai (aU _ (Dj (aU _ (by lia)) _)) this
theorem yO.symm {xs ys:List Rat} (h:yO xs ys):yO ys xs:=by obtain ⟨k,j,k',j',a,b,c⟩:=h;exact ⟨k',j',k,j,b,a,by lia⟩
end
inductive E5 (K:FG9) (vs:List V) (H:Hp) (Q:VK) (E9:XK):Prop
 | mk (r:Addr) (T:Nat) (H0:Hp) (mv pt lk:LR9):vs=[.ref r,.int T]->T<=12->fM K H0 H r mv pt lk->fF mv pt lk->Sw (bJ mv mv.length) lk T->(∀q H',H q=none->aF H H'->bA K H H' q (kry (bJ mv mv.length) lk T)->Q (.ref q) H')->E5 K vs H Q E9
inductive zA (vs:List V) (H:Hp) (Q:VK) (E9:XK):Prop
 | mk (b:Addr) (n w:Nat):vs=[.ref b,.int n,.int w]->ib H b->n<=8->(∀(T:Nat) H',Sk n w T->ib H' b->c6 b H H'->Q (.int T) H')->zA  vs H Q E9
section
variable {K:FG9} {g:TG} {tf:TT} {te:TE} {Q:VK} {σ₀:St} {H:Hp}
theorem Ic {n:Nat} (f:Nat->List Rat) (hl:n<=1000)
  (hs:∀(i:Nat) H' NY NN,i < n->aF H H'->(∀q H2,aF H' H2->H' q=none->cL K H2 q (f i)->NY (.ref q) H2)->pI σ₀ g tf te (.int i) H' NY NN)
  (hd:∀ys H' p,H p=none->aF H H'->H' p=some (.lst ys)->ys.Nodup->Paired (cO K H H') ((List.range n).map f) ys->V.ref p∉ys->Q (.ref p) H'):pU (F5 0 n) σ₀ g tf te Q H:=by
 refine jP (λi ys H'=>aF H H'/\Paired (cO K H H') ((List.range i).map f) ys/\ys.Nodup/\∀y∈ys,∃q,y=V.ref q/\H' q≠none) (bc (bC (by lia))) ⟨aF.refl _,.nil,Dl,(λ_ h=>nomatch h)⟩ ?_ ?_
 ·rintro i ys H' hi hlen ⟨s,pr,nd,ne⟩;rw[mE];refine hs i H' _ _ hi s λq H2 s2 nq R=>⟨s.trans s2,?_,?_,λy hy=>?_⟩
  ·rw[iT,cE];exact cp (Paired.imp' (λ_ _ z=>cO.same z s2) pr) (.cons ⟨q,rfl,s.none nq,R⟩ .nil)
  ·refine c9.mpr ⟨nd,by simp,λa ha b hb z=>?_⟩;rw[cm.mp hb] at z;obtain ⟨q',e,h⟩:=ne a ha;rw[z] at e;cases e;exact h nq
  ·rcases ax.mp hy with hy | hy
   ·obtain ⟨q',e,h⟩:=ne y hy;exact ⟨q',e,λz=>h (s2.none z)⟩
   ·obtain ⟨_,gg,_⟩:=R;exact ⟨q,cm.mp hy,by rw[gg];exact λz=>nomatch z⟩
 ·rintro ys H' hy ⟨s,pr,nd,ne⟩ p hp;refine hd ys _ p (s.none hp) (s.trans (aF.new hp)) aE nd (Paired.imp' (λ_ _ z=>cO.same z (aF.new hp)) pr) λz=>?_
  obtain ⟨q,e,h⟩:=ne _ z;cases e;exact h hp
end
theorem v5.dot {A lk Hd:LR9} {n t e:Nat} (h:v5 A lk n t e Hd) (hw:∀xs∈kry A lk t,xs.length=n):∀x∈Hd,∀y∈kry A lk t,cG x y=0:=λx hx y hy=>by
 obtain ⟨R,ps,psd,M,RR,RN,_⟩:=h;obtain ⟨i,hi,rfl⟩:=bP hy;have wx:=RN.2.1 x hx;have wy:=hw _ hy;obtain ⟨v,hv⟩:=RR.2.2.span i hi;rw[cU (by lia),wx]
 have e1:∀c,c < n->x.getD c 0*(kry A lk t)[i].getD c 0=bH ps.length λs=>v s*(x.getD c 0*bV R s c):=λc _=>by
  have:(kry A lk t)[i].getD c 0=bV (kry A lk t) i c:=by
   unfold bV;rw[aa (l:=kry A lk t),ag hi];rfl
  rw[this,hv c,<- cR];exact aV λs _=>by grind
 rw[aV e1,fv,cS λs hs=>?_];rw[cR];have hs':s < R.length:=by rw[RR.1];exact hs
 have wr:=RR.2.1 _ (aL hs');have dz:=GG RR RN x hx _ (aL hs');rw[cU (by lia),wx] at dz
 have:(bH n λc=>x.getD c 0*bV R s c)=0:=by
  refine Eq.trans (aV λc _=>?_) dz;unfold bV;rw[aa (l:=R),ag hs'];rfl
 rw[this];grind
theorem v5.cnt {A lk Hd R':LR9} {ps':List Nat} {n t e:Nat} (h:v5 A lk n t e Hd) (RR:bK (kry A lk t) n R' ps'):Hd.length+R'.length=n:=by
 obtain ⟨R,ps,psd,M,RR0,RN,c,_⟩:=h;obtain ⟨rfl,rfl⟩:=RR.same RR0;rw[RN.1,RR.1];exact c
theorem v5.szn {A lk Hd:LR9} {n t e:Nat} (h:v5 A lk n t e Hd) (he:e<=1650):(∀xs∈Hd,xs.length=n)/\Hd.length<=n/\(∀xs∈Hd,∀x∈xs,kK x)/\∀xs∈Hd,kx e e xs:=by
 obtain ⟨R,ps,psd,M,RR0,RN,c,M0,M1,tp⟩:=h;have up:2^e<=2^199750:=av (by decide) (by lia);exact ⟨RN.2.1,by rw[RN.1];lia,λxs hx x hx'=>kT (tp xs hx x hx') M0 (ai M1 up) up,λxs hx=>⟨M,2^e,M0,M1,aw _,λx hx'=>(tp xs hx x hx').fr M0⟩⟩
inductive zv (K:FG9) (vs:List V) (H:Hp) (Q:VK) (E9:XK):Prop
 | mk (td rw:Addr) (T e:Nat) (H0 H1:Hp) (A lk Hd:LR9):vs=[.ref td,.ref rw,.int A.length]->bA K H0 H td Hd->bA K H1 H rw (kry A lk T)->T<=12->lk.length<=4->A.length<=8->(∀xs∈lk,xs.length=A.length)->v5 A lk A.length T e Hd->SJ A lk T e->(∀H',aF H H'->Q (.bl true) H')->zv K vs H Q E9
section
variable {mv pt lk A ws pus:LR9} {x y st pr go:List Rat} {n t T o:Nat}
theorem Kj {P p q:List Rat} (h1:P.length=p.length) (h2:P.length=q.length):cG P (List.zipWith (λx y=>x - y) p q)=cG P p - cG P q:=by
 have l:(List.zipWith (λx y=>x - y) p q).length=P.length:=by rw[bO];lia
 rw[cU l.symm,cU h1,cU h2]
 have:∀k,k<=P.length->(bH k λc=>P.getD c 0*(List.zipWith (λx y=>x - y) p q).getD c 0)=(bH k λc=>P.getD c 0*p.getD c 0) - bH k λc=>P.getD c 0*q.getD c 0:=by
  intro k
  induction k with
  | zero=>intro _;show (0:Rat)=0 - 0;grind
  | succ k ih =>
   intro hk;show (bH k _)+P.getD k 0*(List.zipWith (λx y=>x - y) p q).getD k 0=(bH k _+P.getD k 0*p.getD k 0) - (bH k _+P.getD k 0*q.getD k 0)
   rw[ih (by lia),GB (by lia) (by lia)];grind
 exact this _ (aw _)
theorem Kg (hc:t < n):(bJ mv n).getD t []=mv.map λxs=>xs.getD t 0:=by
 unfold bJ;rw[aa,aD,cV hc];rfl
theorem Ly (hc:t < mv.length):(lY mv x).getD t 0=cG (mv.getD t []) x:=by
 unfold lY;rw[aa,aD,aa,ag hc];rfl
theorem Qc (wm:∀xs∈mv,xs.length=n) (lx:x.length=mv.length) (ly:y.length=n):cG (lY (bJ mv n) x) y=cG x (lY mv y):=by
 have lt:(bJ mv n).length=n:=cW;rw[cU (by rw[oO,lt,ly]),oO,lt,cU (by rw[oO,lx]),lx]
 have e1:∀c,c < n->(lY (bJ mv n) x).getD c 0*y.getD c 0=bH mv.length λi=>x.getD i 0*((mv.getD i []).getD c 0*y.getD c 0):=λc hc=>by
  rw[Ly (by lia),Kg hc,cU (by rw[ah,lx]),ah,dJ,<- cR];refine aV λi hi=>?_
  have:(mv.map λxs=>xs.getD c 0).getD i 0=(mv.getD i []).getD c 0:=by
   rw[aa,aD,aa (l:=mv),ag hi];rfl
  rw[this];grind
 rw[aV e1,fv];refine aV λi hi=>?_
 have wi:(mv.getD i []).length=n:=by
  rw[aa,ag hi];exact wm _ (aL hi)
 rw[cR,Ly hi,cU (by rw[wi,ly]),wi]
theorem Ls:∀t,fV mv t (lY mv x)=fV mv (t+1) x
 | 0=>rfl
 | t+1=>by
  show lY mv (fV mv t (lY mv x))=lY mv (fV mv (t+1) x)
  rw[Ls t]
theorem IF (wm:∀xs∈mv,xs.length=mv.length) (ly:y.length=mv.length):∀t (x:List Rat),x.length=mv.length->cG (fV (bJ mv mv.length) t x) y=cG x (fV mv t y)
 | 0,x,_=>rfl
 | t+1,x,lx=>by
  have lt:(bJ mv mv.length).length=mv.length:=cW;rw[<- Ls,IF wm ly t _ (by rw[oO,lt]),Qc wm lx (uQ ly t)];rfl
theorem Dv {pk:LR9} (D:fF mv pt pk) (ls:st.length=mv.length) (wp:∀xs∈pus,xs.length=pt.length) (ht:t<=pus.length) (lx:x.length=mv.length):cG x (pJ mv pt st pus t) - cG x (pJ mv pt (List.replicate mv.length 0) pus t)=cG (fV (bJ mv mv.length) t x) st:=by
 have l0:(List.replicate mv.length (0:Rat)).length=mv.length:=fN ..;have l1:=oq (mv:=mv) (pt:=pt) (pus:=pus) (k:=t) ls ht;have l2:=oq (mv:=mv) (pt:=pt) (pus:=pus) (k:=t) l0 ht;rw[IF D.mw ls t x lx,<- Kj (by lia) (by lia)];refine congrArg _ (HW (by rw[bO,uQ ls];lia) λc hc=>?_);rw[bO] at hc;rw[GB (by lia) (by lia),Iy D ls t ht wp c (by lia),Iy D l0 t ht wp c (by lia),z7]
 have:(List.replicate mv.length (0:Rat)).getD c 0=0:=by
  rw[aa];cases h:(List.replicate mv.length (0:Rat))[c]? with
  | none=>rfl
  | some x=>exact wo (au h)
 rw[this];grind
theorem IU (hx:x∈lk):∀T t,t < T->fV A t x∈kry A lk T
 | 0,_,h=>absurd h (cX _)
 | T+1,0,_=>ax.mpr (.inl hx)
 | T+1,t+1,h=>ax.mpr (.inr (az.mpr ⟨_,IU hx T t (by lia),rfl⟩))
end
structure B3 (mv pt lk:LR9) (M1 M2 M3 V a1 a2 c:Nat):Prop where
 p:Bd mv pt M1 M2 V a1 a2 c
 q:Bd (bJ mv mv.length) lk M1 M3 V a1 a2 c
def Rj (mv pt lk:LR9) (w:Nat):Prop:=(w<=9/\B3 mv pt lk 1 1 1 (9^3) 0 0 14)\/(w<=9/\mv.length<=5/\B3 mv pt lk 2520 2520 2520 (9^3*9) 12 12 16)\/(w=1000/\mv.length<=2/\∃M1 M2 M3,B3 mv pt lk M1 M2 M3 (9^3*2^20) 80 160 33)
theorem Rj.g {mv pt lk:LR9} {w:Nat} (h:Rj mv pt lk w):Rg (bJ mv mv.length) lk w:=by
 have et:(bJ mv mv.length).length=mv.length:=cW;rcases h with ⟨a,b⟩ | ⟨a,b,c⟩ | ⟨a,b,M1,M2,M3,c⟩
 ·exact .inl ⟨a,b.q⟩
 ·exact .inr (.inl ⟨a,by rw[et];exact b,c.q⟩)
 ·exact .inr (.inr ⟨a,by rw[et];exact b,M1,M3,c.q⟩)
structure MM (mv pt lk pus:LR9) (st:List Rat):Prop where
 en:Th mv pt pus st
 fit:∀t,t<=pus.length->∀xs∈lk,yO xs (pJ mv pt st pus t)
section
variable {mv pt lk ws pus:LR9} {st go pr:List Rat} {M1 M2 M3 V a1 a2 c N Np ν p T t e g x y v w:Nat}
theorem B3.looks (B:B3 mv pt lk M1 M2 M3 V a1 a2 c) (D:fF mv pt lk) (ls:st.length=mv.length) (wp:∀xs∈pus,xs.length=pt.length) (lp:pus.length=T) (N0:0 < N) (hN:N<=2^ν) (dv:M2*Np∣N) (hs:∀z∈st,Fr N (2^p) z) (hu:∀xs∈pus,∀z∈xs,Fr Np (2^p) z) (sz:a1*(T+1)+ν+c*(T+1)+p+a2<=195000) (sp2:a2+c<=195000):MM mv pt lk pus st/\∀t,t<=T->∀xs∈lk,Fr (M3*(M1^T*N)) (2^(c*(T+1)+p)) (cG xs (pJ mv pt st pus t)):=by
 subst lp;have f:=λt ht=>(B.p.states D ls wp N0 hN dv hs hu (by lia) sp2 t ht).1
 have V1:=B.p.v1;have ct:∀t,t<=pus.length->a1*t<=a1*(pus.length+1)/\c*t+c<=c*(pus.length+1):=λt ht=>⟨aU _ (by lia),by rw[<- Nat.mul_succ];exact aU _ (by lia)⟩
 refine ⟨⟨⟨M1,M2,V,a1,a2,c,N,Np,p,ν,B.p,N0,hN,dv,hs,hu,by lia,sp2⟩,λt ht xs hx=>?_⟩,λt ht xs hx=>?_⟩
 ·obtain ⟨c1,c2⟩:=ct t ht;exact ⟨a2,c,a1*t+ν,c*t+p,⟨M3,V,B.q.m2,B.q.b2,V1,B.q.gp xs hx⟩,⟨M1^t*N,2^(c*t+p),b7 (ip B.p.m1) N0,lg B.p.b1 hN,aw _,f t ht⟩,by lia⟩
 ·obtain ⟨c1,c2⟩:=ct t ht;have wx:=D.lw xs hx;refine Fr.up (Fr.dot (B.q.gp xs hx) (f t ht)) (Nat.mul_dvd_mul_left _ (Nat.mul_dvd_mul_right (Nat.pow_dvd_pow _ ht) _)) ?_;rw[wx,<- cK];refine ai (aA _ (show mv.length*V<=2^c from ai (aA _ (by lia)) B.p.vc)) ?_;rw[<- aY];exact av (by decide) (by lia)
def Sh (mv lk:LR9) (st:List Rat) (t:Nat):List Rat:=lk.map λxs=>cG (fV (bJ mv mv.length) t xs) st
def uw (mv pt lk:LR9) (st:List Rat) (pus:LR9):LR9:=(List.range pus.length).map λt=>lk.map λxs=>cG xs (pJ mv pt st pus t)
theorem Sg (D:fF mv pt lk) (ls:st.length=mv.length) (wp:∀xs∈pus,xs.length=pt.length) (ht:t<=pus.length):List.zipWith (λx y=>x - y) (lk.map λxs=>cG xs (pJ mv pt st pus t)) (lk.map λxs=>cG xs (pJ mv pt (List.replicate mv.length 0) pus t))=Sh mv lk st t:=by
 unfold Sh;rw[List.zipWith_map,List.zipWith_self];exact dP λxs hx=>Dv D ls wp ht (D.lw xs hx)
end
def GO (K:FG9):Sp:=λvs H Q _=>∃b:Addr,vs=[.ref b]/\ib H b /\
 ∀t r (w:Nat) mv pt lk H',H' t=some (.tup [.ref r,.int w])->fM K H H' r mv pt lk->fF mv pt lk->Jv mv pt lk->Rj mv pt lk w->1<=w->w<=1000->ib H' b->c6 b H H'->Q (.ref t) H'
inductive Ck (K:FG9) (vs:List V) (H:Hp) (Q:VK) (E9:XK):Prop
 | mk (r s p:Addr) (H0 H1:Hp) (mv pt lk pus:LR9) (st:List Rat):vs=[.ref r,.ref s,.ref p]->fM K H0 H r mv pt lk->fF mv pt lk->cL K H s st->st.length=mv.length->bA K H1 H p pus->pus.length<=100->(∀xs∈pus,xs.length=pt.length)->MM mv pt lk pus st->(∀q H',H q=none->aF H H'->bA K H H' q (uw mv pt lk st pus)->Q (.ref q) H')->Ck K vs H Q E9
def Ng:Sp:=λ_ _ _ _=>False
inductive E8 (vs:List V) (H:Hp) (Q:VK) (E9:XK):Prop
 | mk (p:Addr) (us:List V) (zss:List (List V)):vs=[.ref p]->H p=some (.lst us)->Paired (λzs u=>∃q,u=V.ref q/\H q=some (.lst zs)) zss us->zss.flatten.length<=1000->(∀r H',H r=none->aF H H'->H' r=some (.lst zss.flatten)->Q (.ref r) H')->E8 vs H Q E9
inductive Fd (K:FG9) (C:Addr) (vs:List V) (H:Hp) (Q:VK) (E9:XK):Prop
 | mk (x:Addr) (u:Nat) (H0:Hp) (mv pt lk:LR9):vs=[.ref x,.int u]->u<=99->kL K H0 H C x mv pt lk->fF mv pt lk->Sw mv pt u->(∀r us H',H r=none->aF H H'->H' r=some (.lst us)->Paired (KD K r H') (Kq mv pt u) us->Q (.ref r) H')->Fd K C vs H Q E9
inductive BZ (K:FG9) (vs:List V) (H:Hp) (Q:VK) (E9:XK):Prop
 | mk (p q:Addr) (n w:Nat) (H0:Hp) (rows:LR9) (due:List Rat):vs=[.ref p,.int n,.ref q]->bA K H0 H p rows->cL K H q due->due.length=rows.length->rows.length<=90->n<=90->(∀xs∈rows,xs.length=n)->EK (fD rows due) (n+1) w->(∀R ps,bK (fD rows due) (n+1) R ps->n∉ps)->(∀t x R ps H',bK (fD rows due) (n+1) R ps->H' t=some (.tup [.str (Str.ofString "yes"),.ref x])->H x=none->aF H H'->cL K H' x (uH R ps n)->Q (.ref t) H')->BZ K vs H Q E9
theorem FG {K:FG9} {l:Addr} {H:Hp}:∀{Rs:List (LR9)} {us:List V},Paired (KD K l H) Rs us->∃zss:List (List V),Paired (λzs u=>∃q,u=V.ref q/\H q=some (.lst zs)) zss us/\Paired (λR zs=>Paired (cO K (Ea l) H) R zs) Rs zss
 | _,_,.nil=>⟨[],.nil,.nil⟩
 | _,_,.cons h t=>by
  obtain ⟨zss,a,b⟩:=FG t;obtain ⟨q,e,_,zs,g,r,_⟩:=h;exact ⟨zs :: zss,.cons ⟨q,e,g⟩ a,.cons r b⟩
theorem oN {α β:Type} {F:α->β->Prop}:∀{Rs:List (List α)} {zss:List (List β)},Paired (λR zs=>Paired F R zs) Rs zss->Paired F Rs.flatten zss.flatten
 | _,_,.nil=>.nil
 | _,_,.cons h t=>cp h (oN t)
def Bl (x:List Rat) (Hd:LR9) (ps:List Nat) (n k:Nat):List Rat:=(List.range n).map λc=>x.getD c 0 - bH k λj=>x.getD (ps.getD j 0) 0*bV Hd j c
section
variable {rows Hd:LR9} {x r:List Rat} {ps:List Nat} {n k:Nat}
theorem jF:(Bl x Hd ps n k).length=n:=by unfold Bl;rw[ah,cg]
theorem ER {c:Nat} (hc:c < n):(Bl x Hd ps n k).getD c 0=x.getD c 0 - bH k λj=>x.getD (ps.getD j 0) 0*bV Hd j c:=by
 unfold Bl;rw[aa,aD,cV hc];rfl
theorem MY (lx:x.length=n):Bl x Hd ps n 0=x:=HW (by rw[jF,lx]) λc hc=>by
 rw[jF] at hc;rw[ER hc];show x.getD c 0 - 0=_
 grind
theorem Iq (RR:bK rows n Hd ps) (hk:k<=ps.length) {i:Nat} (hi:i < ps.length):(Bl x Hd ps n k).getD (ps.getD i 0) 0=if i < k then 0 else x.getD (ps.getD i 0) 0:=by
 have rr:=RR.2.2;rw[ER (rr.low i hi)];by_cases h:i < k
 ·rw[if_pos h,fP h λj hj ne=>by rw[rr.unit j (by lia) i hi,if_neg ne,fZ],rr.unit i hi i hi,if_pos rfl];grind
 ·rw[if_neg h,cS λj hj=>by rw[rr.unit j (by lia) i hi,if_neg (by lia),fZ]];grind
theorem MZ (RR:bK rows n Hd ps) {row:List Rat} (hk:k < ps.length) (hr:Hd[k]?=some row):List.zipWith (λu v=>u - v) (Bl x Hd ps n k) (row.map λy=>(Bl x Hd ps n k).getD (ps.getD k 0) 0*y)=Bl x Hd ps n (k+1):=by
 have wr:row.length=n:=RR.2.1 row (au hr);refine HW (by rw[bO,ah,jF,jF,wr,Nat.min_self]) λc hc=>?_
 rw[bO,ah,jF,wr,Nat.min_self] at hc;rw[GB (by rw[jF,ah,wr]) (by rw[jF];exact hc),getD_map (by lia),Iq RR (by lia) hk,if_neg (dr _),ER hc,ER hc]
 have e:row[c]'(by lia)=bV Hd k c:=by
  unfold bV;rw[aa (l:=Hd),hr,KG,aa,ag (by lia)];rfl
 rw[e];show _=x.getD c 0 - (bH k _+_)
 grind
theorem Pb (lx:x.length=n) (lr:r.length=n) (hw:∀xs∈Hd,xs.length=n) (hk:k<=Hd.length) (hz:∀xs∈Hd,cG xs r=0):cG r (Bl x Hd ps n k)=cG r x:=by
 rw[cU (by rw[lr,jF]),cU (by rw[lr,lx]),lr]
 have e:∀c,c < n->r.getD c 0*(Bl x Hd ps n k).getD c 0=r.getD c 0*x.getD c 0+-1*bH k λj=>x.getD (ps.getD j 0) 0*(bV Hd j c*r.getD c 0):=λc hc=>by
  rw[ER hc]
  have:(bH k λj=>x.getD (ps.getD j 0) 0*(bV Hd j c*r.getD c 0))=r.getD c 0*bH k λj=>x.getD (ps.getD j 0) 0*bV Hd j c:=by
   rw[<- cR];exact aV λj _=>by grind
  rw[this];grind
 rw[aV e,kU,cR,fv,cS (k:=k) λj hj=>?_]
 ·grind
 ·rw[cR];have:=hz _ (aL (l:=Hd) (n:=j) (by lia));have w:=hw _ (aL (l:=Hd) (n:=j) (by lia));rw[cU (by rw[w,lr]),w] at this
  have q:(bH n λc=>bV Hd j c*r.getD c 0)=0:=by
   refine Eq.trans (aV λc _=>?_) this;unfold bV;rw[aa (l:=Hd),ag (by lia)];rfl
  rw[q,fZ]
end
theorem Kl {K:FG9} {l1 l2:Addr} {xs ws:List V} {g:TG} {tf:TT} {te:TE} {Q:VK} {σ₀:St} {H:Hp} (Pv:Nat->List V->Hp->Prop) (hz:xs.length<=sizeLine) (hw:xs.length<=ws.length) (h0:Pv 0 [] H) (hl:∀i ys H,i<=xs.length->Pv i ys H->bE K H l1 xs/\bE K H l2 ws)
  (hs:∀i x y ys H p,xs[i]?=some x->ws[i]?=some y->ys.length<=i->Pv i ys H->H p=none->pI σ₀ g tf te (.ref p) (upd H p (.tup [x,y])) (λy H'=>Pv (i+1) (ys++[y]) H') (λH'=>Pv (i+1) ys H'))
  (hd:∀ys H,ys.length<=xs.length->Pv xs.length ys H->∀p,H p=none->Q (.ref p) (upd H p (.lst ys))):pU (O5 K l1 l2) σ₀ g tf te Q H:=by
 refine ⟨λi m ys H=>m=xs.length - i/\i<=xs.length/\ys.length<=i/\Pv i ys H,⟨xs.length,by simp,aZ _,aZ _,h0⟩,?_⟩;rintro i m ys H ⟨rfl,hi,hy,p⟩;obtain ⟨q1,q2⟩:=hl i ys H hi p;by_cases hlt:i < xs.length
 ·refine .inr ⟨⟨xs,ws,xs[i],ws[i]'(by lia),q1,q2,by simp [hlt],ag _⟩,by lia,λy H'=>Pv (i+1) (ys++[y]) H',λH'=>Pv (i+1) ys H',λy H' p'=>⟨xs.length - (i+1),by lia,rfl,hlt,by rw[ao,aX];lia,p'⟩,λH' p'=>⟨xs.length - (i+1),by lia,rfl,hlt,by lia,p'⟩,λx H' y=>?_⟩;obtain ⟨r,x',y',rfl,hr,rfl,e1,e2⟩:=y;exact hs i x' y' ys _ r (e1 xs q1) (e2 ws q2) hy p hr
 ·have e:i=xs.length:=by lia
  subst e;exact .inl ⟨⟨xs,ws,q1,q2,.inl (aw _)⟩,by lia,hd ys H hy p⟩
structure WoZ (x:List Rat) (Hd:LR9) (ps:List Nat) (n:Nat):Prop where
 sz:∀k,k<=ps.length->∀z∈Bl x Hd ps n k,kK z
 hz:∀xs∈Hd,∀z∈xs,kK z
 mul:∀k,k < ps.length->∀z∈Hd.getD k [],kK ((Bl x Hd ps n k).getD (ps.getD k 0) 0*z)
inductive OD (K:FG9) (vs:List V) (H:Hp) (Q:VK) (E9:XK):Prop
 | mk (s g:Addr) (n:Nat) (H0:Hp) (x:List Rat) (rows Hd:LR9) (ps:List Nat):vs=[.ref s,.ref g]->cL K H s x->x.length=n->bA K H0 H g Hd->n<=90->bK rows n Hd ps->WoZ x Hd ps n->(∀r H',aF H H'->(r=s\/H r=none)->cL K H' r (Bl x Hd ps n ps.length)->Q (.ref r) H')->OD K vs H Q E9
theorem Mx {xs:List V}:sI xs none (some (-1))=xs.take (xs.length - 1):=by
 unfold sI
 have e:HT.EJ xs.length xs.length (some (-1))=xs.length - 1:=by
  show (if (-1:Int) < 0 then ((-1:Int)+(xs.length:Int)).toNat else min (-1:Int).toNat xs.length)=xs.length - 1
  rw[if_pos (by decide)]
  lia
 rw[e,HT.zW,List.drop_zero,Nat.sub_zero]
def lS (mv lk:LR9) (st:List Rat) (T:Nat):List Rat:=(kry (bJ mv mv.length) lk T).map λxs=>cG xs st
theorem Mn {mv lk:LR9} {st:List Rat} {T:Nat}:((List.range T).map (Sh mv lk st)).flatten=lS mv lk st T:=by
 unfold lS;rw[<- vN,List.map_flatten];unfold Kq;rw[iB];refine congrArg _ (dP λt _=>?_);unfold Sh;rw[Function.comp_apply,iB];rfl
theorem Cq {K:FG9} {H0 H:Hp}:∀{Rs:LR9} {us:List V},Paired (cO K H0 H) Rs us->∃zss:List (List V),Paired (λzs u=>∃q,u=V.ref q/\H q=some (.lst zs)) zss us/\Paired (λR zs=>Paired (cA K H) R zs) Rs zss
 | _,_,.nil=>⟨[],.nil,.nil⟩
 | _,_,.cons h t=>by
  obtain ⟨zss,a,b⟩:=Cq t;obtain ⟨q,e,_,zs,g,r⟩:=h;exact ⟨zs :: zss,.cons ⟨q,e,g⟩ a,.cons r b⟩
section
variable {mv pt ps:LR9} {a:List Rat} {k j:Nat}
theorem Iw {j:Nat} (h:j<=k):pJ mv pt a (ps.take k) j=pJ mv pt a ps j:=by
 unfold pJ;rw[List.take_take,MQ h]
theorem xI.take (h:xI mv pt a ps) (hk:k<=ps.length):xI mv pt a (ps.take k):=λj hj=>by
 rw[bR] at hj;obtain ⟨N,W,x1,x2,x3,x4,x5⟩:=h j (by lia);exact ⟨N,W,x1,x2,x3,by rw[Iw (by lia)];exact x4,λxs hx=>x5 xs (cb hx)⟩
end
structure O2 (mv pt lk pus:LR9) (st:List Rat) (T e:Nat):Prop where
 v:SJ (bJ mv mv.length) lk T e
 t12:T<=12
 lp:pus.length=T
 wp:∀xs∈pus,xs.length=pt.length
 ls:st.length=mv.length
 cf:xI mv pt (List.replicate mv.length 0) pus
 sz:∀t,t < T->(∀z∈lk.map λxs=>cG xs (pJ mv pt st pus t),kK z)/\∀z∈lk.map λxs=>cG xs (pJ mv pt (List.replicate mv.length 0) pus t),kK z
 sw:∃w,EK (fD (kry (bJ mv mv.length) lk T) (lS mv lk st T)) (mv.length+1) w/\9*(w+4)<=7000
structure Ew (A lk:LR9) (n T e:Nat) (st y:List Rat) (Hd:LR9):Prop where
 un:v5 A lk n T e Hd
 ly:y.length=n
 dy:∀xs∈kry A lk T,cG xs y=cG xs st
 zy:∃psd,bK Hd n Hd psd/\∀i,i < psd.length->y.getD (psd.getD i 0) 0=0
 fy:∃q,0 < q/\q<=2^9000/\∀z∈y,Tp q (2^9000) z
inductive BY (K:FG9) (C:Addr) (vs:List V) (H:Hp) (Q:VK) (E9:XK):Prop
 | mk (x p l:Addr) (T e:Nat) (H0 H1 H2:Hp) (mv pt lk pus:LR9) (st:List Rat):vs=[.ref x,.ref p,.ref l]->kL K H0 H C x mv pt lk->fF mv pt lk->Jv mv pt lk->bA K H1 H p pus->bA K H2 H l (uw mv pt lk st pus)->O2 mv pt lk pus st T e->(∀t a r y Hd H',H' t=some (.tup [.str (Str.ofString "any"),.ref a,.ref r])->H a=none->H r=none->aF H H'->cL K H' a y->bA K H H' r Hd->Ew (bJ mv mv.length) lk mv.length T e st y Hd->Q (.ref t) H')->BY K C vs H Q E9
section
variable {mv pt lk pus:LR9} {st x:List Rat} {T e n:Nat} {rows Hd R:LR9} {ps psd:List Nat}
theorem OZ (D:fF mv pt lk) (ls:st.length=mv.length) (RR:bK (fD (kry (bJ mv mv.length) lk T) (lS mv lk st T)) (mv.length+1) R ps):mv.length∉ps:=by
 have et:(bJ mv mv.length).length=mv.length:=cW;have wk:=eE (mv:=bJ mv mv.length) (pt:=lk) et D.lw T;refine Pp (x:=λc=>st.getD c 0) (by unfold lS;rw[ah]) wk RR λi hi=>?_
 have wi:=wk _ (aL hi);unfold lS
 have e1:((kry (bJ mv mv.length) lk T).map λxs=>cG xs st).getD i 0=cG (kry (bJ mv mv.length) lk T)[i] st:=by
  rw[aa,aD,ag hi];rfl
 rw[e1,cU (by rw[wi,ls]),wi];refine aV λc _=>?_
 unfold bV;rw[aa (l:=kry _ _ _),ag hi];rfl
theorem QW {q X M E k:Nat} (q0:0 < q) (lx:x.length=n) (n8:n<=8) (tx:∀z∈x,Tp q X z) (th:∀xs∈Hd,∀z∈xs,Tp M E z) (hk:k<=8) (ME:M<=E):∀z∈Bl x Hd ps n k,Tp (q*M) (X*(9*E)) z:=λz hz=>by
 unfold Bl at hz;obtain ⟨c,_,rfl⟩:=az.mp hz;have t1:=(oj tx c).up M (aw _)
 have t2:=Tp.sum (k:=k) (f:=λj=>x.getD (ps.getD j 0) 0*bV Hd j c) λj _=>(oj tx (ps.getD j 0)).mul (show Tp M E (bV Hd j c) by
  unfold bV;by_cases h:j < Hd.length
  ·exact oj (th _ (getD_in h)) c
  ·rw[aa (l:=Hd),aO (by lia)];exact Tp.zero)
 rw[Rat.sub_eq_add_neg];refine (t1.add t2.neg).mono ?_;rw[Nat.mul_left_comm k X E,<- eH];refine aU _ ?_;have:=aA E hk
 lia
theorem Cr {a b:Nat} (h:a<=b):2^a<=2^b:=av (by decide) h
theorem SO (D:fF mv pt lk) (S:O2 mv pt lk pus st T e) (RR:bK (fD (kry (bJ mv mv.length) lk T) (lS mv lk st T)) (mv.length+1) R ps) (U:v5 (bJ mv mv.length) lk mv.length T e Hd):∃psd,bK Hd mv.length Hd psd/\WoZ (uH R ps mv.length) Hd psd mv.length/\Ew (bJ mv mv.length) lk mv.length T e st (Bl (uH R ps mv.length) Hd psd mv.length psd.length) Hd:=by
 have et:(bJ mv mv.length).length=mv.length:=cW;have wk:=eE (mv:=bJ mv mv.length) (pt:=lk) et D.lw T;have d8:=D.n8;have e1:=S.v.un.e1;have hd:(lS mv lk st T).length=(kry (bJ mv mv.length) lk T).length:=by unfold lS;rw[ah]
 have hn:=OZ D S.ls RR;obtain ⟨w,sw,hw⟩:=S.sw;obtain ⟨_,q,q0,q1,q2⟩:=OF (λxs hx=>IV wk xs hx) sw RR;have hb:min (fD (kry (bJ mv mv.length) lk T) (lS mv lk st T)).length (mv.length+1)*(w+4)<=7000:=ai (aA _ (by lia)) hw;have tx:∀z∈uH R ps mv.length,Tp q (2^7000) z:=λz hz=>(OE q0 q2 RR z hz).mono (Cr hb)
 have q1:=ai q1 (Cr hb);have lx:(uH R ps mv.length).length=mv.length:=ot;obtain ⟨R0,ps0,psd,M,RR0,RN,cn,M0,M1,th⟩:=id U;have RH:=uN RN;have le:=RH.le;have th:=th
 have tw:∀k,k<=psd.length->∀z∈Bl (uH R ps mv.length) Hd psd mv.length k,Tp (q*M) (2^9000) z:=λk hk z hz=>(QW q0 lx d8 tx th (by lia) M1 z hz).mono (by
  refine ai (aU _ (aA _ (show 9<=2^4 by decide))) ?_;rw[<- aY,<- aY];exact Cr (by lia))
 have qM0:0 < q*M:=b7 q0 M0;have qM1:q*M<=2^8700:=ai (aJ q1 M1) (by rw[<- aY];exact Cr (by lia));refine ⟨psd,RH,⟨λk hk z hz=>kT (tw k hk z hz) qM0 (ai qM1 (Cr (by decide))) (Cr (by decide)),λxs hx z hz=>kT (th xs hx z hz) M0 (ai M1 (Cr (by lia))) (Cr (by lia)),λk hk z hz=>?_⟩,⟨U,jF,λxs hx=>?_,⟨psd,RH,λi hi=>by rw[Iq RH (aw _) hi,if_pos hi]⟩,⟨q*M,qM0,ai qM1 (Cr (by decide)),tw _ (aw _)⟩⟩⟩
 ·have hk':k < Hd.length:=by rw[RH.1];exact hk
  have t1:=oj (tw k (by lia)) (psd.getD k 0);have t2:=th _ (getD_in (e:=[]) hk') z hz;refine kT (t1.mul t2) (b7 qM0 M0) (ai (aJ qM1 M1) ?_) ?_
  ·rw[<- aY];exact Cr (by lia)
  ·rw[<- aY];exact Cr (by lia)
 ·rw[Pb lx (wk xs hx) RH.2.1 (by rw[RH.1];exact aw _) λys hy=>U.dot wk ys hy xs hx];have sd:=K9 hd wk RR hn;unfold lS at sd;exact List.map_inj_left.mp sd xs hx
end
theorem IL {xs:List Rat}:∀{i:Nat},(∀c,c < i->xs.getD c 0=0)->uC xs i=[]
 | 0,_=>rfl
 | i+1,h=>by rw[mf,if_neg (by rw[h i (by lia)];simp),IL λc hc=>h c (by lia)]
theorem LG {xs:List Rat} {j:Nat} (hj:xs.getD j 0≠0) (hz:∀c,c < j->xs.getD c 0=0):∀{n:Nat},j < n->∃rest,uC xs n=j :: rest
 | 0,h=>absurd h (cX _)
 | n+1,h=>by
  rw[mf];by_cases e:n=j
  ·subst e;rw[if_pos hj,IL hz];exact ⟨[],rfl⟩
  ·obtain ⟨rest,er⟩:=LG hj hz (n:=n) (by lia);rw[er];by_cases h0:xs.getD n 0≠0
   ·rw[if_pos h0];exact ⟨rest++[n],rfl⟩
   ·rw[if_neg h0];exact ⟨rest,rfl⟩
inductive Fc (K:FG9) (vs:List V) (H:Hp) (Q:VK) (E9:XK):Prop
 | mk (r t p l a g:Addr) (T e:Nat) (H0 H1 H2 H3:Hp) (mv pt lk pus Hd:LR9) (st y:List Rat):vs=[.ref r,.ref t,.ref p,.ref l]->fM K H0 H r mv pt lk->fF mv pt lk->bA K H1 H p pus->bA K H2 H l (uw mv pt lk st pus)->O2 mv pt lk pus st T e->H t=some (.tup [.str (Str.ofString "any"),.ref a,.ref g])->cL K H a y->bA K H3 H g Hd->Ew (bJ mv mv.length) lk mv.length T e st y Hd->MM mv pt lk pus y->(∀H',aF H H'->Q (.bl true) H')->Fc K vs H Q E9
theorem Ew.looks {mv pt lk pus Hd:LR9} {st y:List Rat} {T e:Nat} (L:Ew (bJ mv mv.length) lk mv.length T e st y Hd) (D:fF mv pt lk) (S:O2 mv pt lk pus st T e):uw mv pt lk y pus=uw mv pt lk st pus:=by
 unfold uw;refine dP λt ht=>dP λxs hx=>?_
 have ht:=fJ.mp ht;have lp:=S.lp;have h1:=Dv D S.ls S.wp (by lia:t<=pus.length) (D.lw xs hx);have h2:=Dv D L.ly S.wp (by lia:t<=pus.length) (D.lw xs hx);rw[L.dy _ (IU hx T t (by lia))] at h2;grind
inductive BW (K:FG9) (C:Addr) (vs:List V) (H:Hp) (Q:VK) (E9:XK):Prop
 | mk (x r p l:Addr) (T e:Nat) (H0 H1 H2 H3:Hp) (mv pt lk pus:LR9) (st:List Rat):vs=[.ref x,.ref r,.ref p,.ref l]->kL K H0 H C x mv pt lk->fM K H1 H r mv pt lk->fF mv pt lk->Jv mv pt lk->bA K H2 H p pus->bA K H3 H l (uw mv pt lk st pus)->O2 mv pt lk pus st T e->(∀y Hd,Ew (bJ mv mv.length) lk mv.length T e st y Hd->MM mv pt lk pus y)->(∀H',aF H H'->Q (.str (Str.ofString "any")) H')->BW K C vs H Q E9
inductive Cb (K:FG9) (vs:List V) (H:Hp) (Q:VK) (E9:XK):Prop
 | mk (b r:Addr) (w:Nat) (H0:Hp) (mv pt lk:LR9):vs=[.ref b,.ref r,.int w]->ib H b->H0 b≠none->fM K H0 H r mv pt lk->fF mv pt lk->1<=w->w<=1000->(∀p pus T H',H p=none->bA K H H' p pus->Ti pt T w pus->Sk mv.length w T->ib H' b->c6 b H H'->Q (.ref p) H')->Cb K vs H Q E9
section
variable {mv pt lk pus:LR9} {st:List Rat} {w T e M1 M2 M3 Vx a1 a2 c:Nat}
theorem Nk (B:B3 mv pt lk M1 M2 M3 Vx a1 a2 c) (D:fF mv pt lk) (VV:SJ (bJ mv mv.length) lk T e) (t12:T<=12) (ls:st.length=mv.length) (wp:∀xs∈pus,xs.length=pt.length) (lp:pus.length=T) {B0:Nat} (b0:0 < B0) (b1:B0<=2^142) (hs:∀z∈st,Fr B0 (2^22) z) (hu:∀xs∈pus,∀z∈xs,Fr B0 (2^22) z) (h1:a1*(T+1)<=320) (h2:a2<=160) (h3:c*(T+1)<=208) (h4:c<=33) (h5:a1*(T - 1)+a2+c*T<=430):O2 mv pt lk pus st T e/\MM mv pt lk pus st/\∀y Hd,Ew (bJ mv mv.length) lk mv.length T e st y Hd->MM mv pt lk pus y:=by
 have et:(bJ mv mv.length).length=mv.length:=cW;have d8:=D.n8;have l0:(List.replicate mv.length (0:Rat)).length=mv.length:=fN ..;have N0:0 < M2*B0:=b7 B.p.m2 b0;have hN:M2*B0<=2^(a2+142):=by rw[aY];exact aJ B.p.b2 b1
 have hz:∀z∈List.replicate mv.length (0:Rat),Fr (M2*B0) (2^22) z:=λz hz=>by rw[wo hz];exact Fr.zero
 have hs':∀z∈st,Fr (M2*B0) (2^22) z:=λz hz=>(hs z hz).scaleL M2
 have sp:a2+c<=195000:=by lia
 obtain ⟨L1,f1⟩:=B.looks D ls wp lp N0 hN (ze _) hs' hu (by lia) sp;obtain ⟨L2,f2⟩:=B.looks D l0 wp lp N0 hN (ze _) hz hu (by lia) sp;have Mb0:0 < M3*(M1^T*(M2*B0)):=b7 B.q.m2 (b7 (ip B.p.m1) N0);have Mb:M3*(M1^T*(M2*B0))<=2^(a2+(a1*T+(a2+142))):=by rw[aY];exact aJ B.q.b2 (lg B.p.b1 hN)
 have aT:a1*T<=320:=ai (aU _ (wd _)) h1;have szl:∀{z:Rat},Fr (M3*(M1^T*(M2*B0))) (2^(c*(T+1)+22)) z->kK z:=λh=>AH Mb0 Mb (aw _) (by lia) h
 have ps:=B.p.states D l0 wp N0 hN (ze _) hz hu (by rw[lp];lia) sp;refine ⟨⟨VV,t12,lp,wp,ls,λk hk=>?_,λt ht=>⟨λz hz=>?_,λz hz=>?_⟩,⟨600,?_,by decide⟩⟩,L1,λy Hd TL=>?_⟩
 ·have k1:a1*k<=320:=ai (aU _ (by lia)) h1;have k2:c*k<=208:=ai (aU _ (by lia)) h3;refine ⟨M1^k*(M2*B0),2^(c*k+22),b7 (ip B.p.m1) N0,ai (lg B.p.b1 hN) (Cr (by lia)),Cr (by lia),(ps k hk).1,λxs hx x hx'=>Fr.up (hu xs hx x hx') ?_ (Cr (by lia))⟩;exact wg (hJ _ _) (hJ _ _)
 ·obtain ⟨xs,hx,rfl⟩:=az.mp hz;exact szl (f1 t (by lia) xs hx)
 ·obtain ⟨xs,hx,rfl⟩:=az.mp hz;exact szl (f2 t (by lia) xs hx)
 ·have kf:=B.q.kry D.turn T;have wk:=eE (mv:=bJ mv mv.length) (pt:=lk) et D.lw T;have K0:0 < M1^(T - 1)*M3:=b7 (ip B.q.m1) B.q.m2;have Kb:=lg (t:=T - 1) B.q.b1 B.q.b2;have KB:M1^(T - 1)*M3*B0<=2^(a1*(T - 1)+a2+142):=by rw[aY];exact aJ Kb b1
  refine Pj (m:=9) (M:=M1^(T - 1)*M3*B0) (b7 K0 b0) (ai KB (Cr (by lia))) (by decide) (λxs hx x hx'=>?_) (by lia) (by decide) (by decide);unfold fD at hx;obtain ⟨i,hi,rfl⟩:=bP hx;rw[pZ] at hx';rcases ax.mp hx' with z | z
  ·refine Tp.of ((kf _ (aL _) x z).scale B0) (ai (aU _ KB) ?_);rw[<- aY];exact Cr (by lia)
  ·rw[cm.mp z];unfold lS;rw[d7];have hi':i < (kry (bJ mv mv.length) lk T).length:=by rw[bO] at hi;lia
   refine Tp.of (Fr.dot (kf _ (aL hi')) hs) ?_;rw[wk _ (aL hi')];refine ai (aJ (aA _ (show mv.length<=2^3 by lia)) KB) ?_;rw[<- aY,<- aY,<- aY];exact Cr (by lia)
 ·obtain ⟨q,q0,q1,tq⟩:=TL.fy;have Nq:M2*B0*q<=2^(a2+142+9000):=by rw[aY];exact aJ hN q1
  exact (B.looks D TL.ly wp lp (b7 N0 q0) Nq (Nat.dvd_mul_right _ _) (p:=9000) (λz hz=>((tq z hz).fr q0).scaleL _) (λxs hx z hz=>(hu xs hx z hz).mono (Cr (by decide))) (by lia) sp).1
theorem Li (J:Rj mv pt lk w) (D:fF mv pt lk) (St:Sk mv.length w T) (ls:st.length=mv.length) (hs:∀z∈st,Dr (max w 6) z) (hp:Ti pt T w pus):∃e,O2 mv pt lk pus st T e/\MM mv pt lk pus st/\∀y Hd,Ew (bJ mv mv.length) lk mv.length T e st y Hd->MM mv pt lk pus y:=by
 have et:(bJ mv mv.length).length=mv.length:=cW;have i4:=D.i4;obtain ⟨e,VV⟩:=Nr J.g D.turn (by rw[et];exact St);obtain ⟨s1,s2,_,_⟩:=St;obtain ⟨lp,hp⟩:=hp;refine ⟨e,?_⟩
 have hl:∀z∈st++pus.flatten,Dr (max w 6) z:=λz hz=>by
  rcases ax.mp hz with hz | hz
  ·exact hs z hz
  ·obtain ⟨xs,hx,hz⟩:=yF.mp hz;exact (hp xs hx).2 z hz
 have len:(st++pus.flatten).length=mv.length+T*pt.length:=by rw[ao,AJ λxs hx=>(hp xs hx).1,lp,ls]
 have key:∀{M1 M2 M3 Vx a1 a2 c:Nat},B3 mv pt lk M1 M2 M3 Vx a1 a2 c->a1*(T+1)<=320->a2<=160->c*(T+1)<=208->c<=33->a1*(T - 1)+a2+c*T<=430->(∃B,0 < B/\B<=2^142/\∀z∈st++pus.flatten,Fr B (2^22) z)->O2 mv pt lk pus st T e/\MM mv pt lk pus st/\∀y Hd,Ew (bJ mv mv.length) lk mv.length T e st y Hd->MM mv pt lk pus y:=λB h1 h2 h3 h4 h5 ⟨B0,b0,b1,fr⟩ =>
  Nk B D VV s1 ls (λxs hx=>(hp xs hx).1) lp b0 b1 (λz hz=>fr z (ax.mpr (.inl hz))) (λxs hx z hz=>fr z (ax.mpr (.inr (yF.mpr ⟨xs,hx,hz⟩)))) h1 h2 h3 h4 h5
 have small:w<=9->∃B,0 < B/\B<=2^142/\∀z∈st++pus.flatten,Fr B (2^22) z:=λw9=>⟨2520,by decide,by decide,λz hz=>(Mp ⟨ai (hl z hz).1 (by lia),ai (hl z hz).2 (by lia)⟩ (ze _)).mono (by decide)⟩
 rcases J with ⟨w9,B⟩ | ⟨w9,n5,B⟩ | ⟨w9,n2,M1,M2,M3,B⟩
 ·exact key B (by lia) (by lia) (by lia) (by lia) (by lia) (small w9)
 ·exact key B (by lia) (by lia) (by lia) (by lia) (by lia) (small w9)
 ·have t3:=s2 (by lia);refine key B (by lia) (by lia) (by lia) (by lia) (by lia) ?_;obtain ⟨B0,h0,h1,h2⟩:=Ki (c:=10) (l:=st++pus.flatten) (λx hx=>⟨ai (hl x hx).1 (by rw[w9];decide),ai (hl x hx).2 (by rw[w9];decide)⟩) (by decide);have m:T*pt.length<=3*4:=aJ t3 i4;exact ⟨B0,h0,ai h1 (av (by decide) (by lia)),h2⟩
end
def yP (K:FG9) (H0:Hp) (b fd:Addr) (mv pt lk:LR9) (w:Nat) (H:Hp) (v:V):Prop:=∃c p l pus st T,v=.ref c/\H c=some (.tup [.ref p,.ref l])/\p≠b/\l≠b/\p≠fd/\l≠fd/\bA K H0 H p pus/\bA K H0 H l (uw mv pt lk st pus)/\Ti pt T w pus/\Sk mv.length w T/\st.length=mv.length/\∀z∈st,Dr (max w 6) z
section
variable {K:FG9} {H0 H H':Hp} {b fd:Addr} {mv pt lk:LR9} {w:Nat} {v:V}
theorem yP.same (h:yP K H0 b fd mv pt lk w H v) (s:aF H H'):yP K H0 b fd mv pt lk w H' v:=by
 obtain ⟨c,p,l,pus,st,T,e,g,h1,h2,h3,h4,G1,G2,r⟩:=h;exact ⟨c,p,l,pus,st,T,e,s _ _ g,h1,h2,h3,h4,G1.same s,G2.same s,r⟩
theorem yP.upto (h:yP K H0 b fd mv pt lk w H v) (u:c6 b H H') (B:ib H b) (nb:H0 b≠none):yP K H0 b fd mv pt lk w H' v:=by
 obtain ⟨c,p,l,pus,st,T,e,g,h1,h2,h3,h4,G1,G2,r⟩:=h;exact ⟨c,p,l,pus,st,T,e,u.tup B g,h1,h2,h3,h4,G1.upto u B h1 nb,G2.upto u B h2 nb,r⟩
theorem yP.app {ys:List V} {o:HO} (h:yP K H0 b fd mv pt lk w H v) (g:H fd=some (.lst ys)) (nf:H0 fd≠none):yP K H0 b fd mv pt lk w (upd H fd o) v:=by
 obtain ⟨c,p,l,pus,st,T,e,gc,h1,h2,h3,h4,G1,G2,r⟩:=h;exact ⟨c,p,l,pus,st,T,e,by rw[bf λz=>by rw[z,g] at gc;cases gc];exact gc,h1,h2,h3,h4,G1.updL g nf h3,G2.updL g nf h4,r⟩
end
theorem Oc {W:Nat} (h:1<=W):Dr W 0:=⟨by show (0:Rat).num.natAbs<=W;exact aZ _,by show (0:Rat).den<=W;exact h⟩
end L2
open L2
local macro_rules | `(tactic| walk_at "hl") => `(tactic| first | (show _ ≤ sizeLine; with_unfolding_all decide) | (with_unfolding_all exact (by decide)))
local macro_rules | `(tactic| walk_at "sq") => `(tactic| first | with_reducible assumption | with_reducible exact nY.of (by assumption) | with_reducible exact bE.of (by assumption) | with_reducible exact nY.of aE | with_reducible exact bE.of aE | assumption)
local macro_rules | `(tactic| walk_at "sc") => `(tactic| first | (with_reducible show (0 : Int) < _; decide) | with_reducible exact Og (by decide) (by decide) | with_reducible exact Jl (by decide) (by decide) | with_reducible exact cpow_of (by decide) (by decide) (by decide))
local macro_rules | `(tactic| walk_at "rd") => `(tactic| first
  | with_reducible refine Px ?_
  | with_reducible refine Ny ?_
  | with_reducible refine PZ ?_
  | with_reducible refine Lo ?_
  | ((with_reducible refine' Pu ?hx1 ?_); (case hx1 => with_unfolding_all rfl))
  | with_reducible refine SS ?_
  | with_reducible refine RJ ?_
  | with_reducible refine RM ?_
  | with_reducible refine Ry ?_
  | with_reducible refine SU ?_
  | with_reducible refine PY ?_
  | with_reducible refine PH ?_
  | with_reducible refine PX ?_
  | with_reducible refine PD ?_
  | with_reducible refine rd_eqB ?_
  | with_reducible refine rd_neB ?_
  | with_reducible refine NB ?_
  | with_reducible refine Ho ?_
  | with_reducible refine PV ?_
  | with_reducible refine Nv ?_
  | with_reducible refine Nz ?_
  | with_reducible refine NA ?_
  | with_reducible refine Ln ?_
  | with_reducible refine Nu ?_
  | with_reducible refine RA ?_
  | with_reducible refine Py ?_
  | with_reducible refine rd_retN ?_
  | with_reducible refine PN ?_
  | with_reducible refine P0 ?_
  | with_reducible refine RI ?_
  | with_reducible refine PB ?_
  | with_reducible refine NO ?_
  | with_reducible refine rd_orV ?_
  | with_reducible refine Nx ?_
  | with_reducible refine PR ?_
  | with_reducible refine Pt ?_
  | with_reducible refine L4 ?_
  | with_reducible refine RZ ?_
  | with_reducible refine R6 ?_
  | with_reducible refine R8 ?_
  | with_reducible refine OH ?_
  | with_reducible refine PC ?_
  | with_reducible refine NJ ?_
  | with_reducible refine Pw ?_
  | with_reducible refine PJ ?_
  | with_reducible refine NL ?_
  | with_reducible refine RK ?_
  | with_reducible refine NI ?_
  | with_reducible refine Pz ?_
  | with_reducible refine NM ?_
  | ((with_reducible refine' rd_aug ?hx1 ?_); (case hx1 => with_unfolding_all rfl))
  | with_reducible refine PM ?_
  | with_reducible refine NF ?_
  | with_reducible refine Lp ?_
  | with_reducible refine NG ?_
  | with_reducible refine RD ?_
  | with_reducible refine JP ?_
  | with_reducible refine Nw ?_
  | with_reducible refine PU ?_
  | with_reducible refine Lm ?_
  | with_reducible refine NC ?_
  | with_reducible refine Ll ?_
  | with_reducible refine Lk ?_
  | ((with_reducible refine' NK ?hx1 ?_); (case hx1 => with_unfolding_all rfl))
  | with_reducible refine Nt ?_
  | with_reducible refine RL ?_
  | with_reducible refine rd_bm0 ?_
  | with_reducible refine rd_brk ?_
  | ((with_reducible refine' ND ?hx1 ?hx2 ?_); (case hx1 => walk_at "sq"); (case hx2 => with_unfolding_all rfl))
  | with_reducible refine rd_cont ?_
  | ((with_reducible refine' fj ?hx1 ?_); (case hx1 => walk_at "sc"))
  | ((with_reducible refine' PK ?hx1 ?hx2 ?_); (case hx1 => walk_at "sq"); (case hx2 => with_unfolding_all rfl))
  | ((with_reducible refine' b9 ?hx1 ?hx2 ?_); (case hx1 => walk_at "sq"); (case hx2 => with_unfolding_all rfl))
  | ((with_reducible refine' NH ?hx1 ?hx2 ?_); (case hx1 => walk_at "sq"); (case hx2 => with_unfolding_all rfl))
  | ((with_reducible refine' eN ?hx1 ?hx2 ?hx3 ?_); (case hx1 => with_reducible first | assumption | exact aE); (case hx2 => with_unfolding_all rfl); (case hx3 => with_unfolding_all rfl))
  | with_reducible refine ⟨_, rfl, ?_⟩
  | with_reducible refine ⟨_, _, rfl, ?_⟩)
local macro_rules | `(tactic| walk_at "w") => `(tactic| repeat walk_at "rd")
local macro_rules | `(tactic| walk_at "d") => `(tactic| exact ⟨rfl,rfl,rfl,by decide +kernel,rfl,by decide +kernel,by decide +kernel⟩)
namespace Lw
open PySem PySem.Spec PyProof.Rows L2 Nm
local macro_rules | `(tactic| exists $e) => `(tactic| (walk_at "w";refine $e))
set_option maxHeartbeats 4000000
def top (i:Nat):Stmt:=PySem.Challenge.pw_helmsum_k53_starts.main.body.getD i (.Pass ⟨0,0,0,0⟩)
abbrev ug:Stmt:=top 64
abbrev qK:Stmt:=top 65
abbrev ue:Stmt:=top 66
abbrev t7:Stmt:=top 67
abbrev qO:Stmt:=top 74
abbrev qN:Stmt:=top 69
abbrev wZ:Stmt:=top 76
abbrev oG:Stmt:=top 78
abbrev qR:Stmt:=top 88
abbrev kD:Stmt:=top 81
abbrev mO:Stmt:=top 71
abbrev uc:Stmt:=top 72
abbrev qQ:Stmt:=top 77
abbrev oF:Stmt:=top 79
abbrev oK:Stmt:=top 89
abbrev qD:Stmt:=top 60
abbrev tZ:Stmt:=top 8
abbrev jG:Stmt:=top 9
abbrev qH:Stmt:=top 11
abbrev zU:Stmt:=top 16
abbrev mM:Stmt:=top 61
abbrev dI:Stmt:=inClass (top 62) 0
abbrev mQ:Stmt:=top 80
abbrev mN:Stmt:=top 87
abbrev oE:Stmt:=top 92
abbrev qM:Stmt:=top 98
abbrev uf:Stmt:=top 73
abbrev wY:Stmt:=top 82
abbrev qP:Stmt:=top 83
abbrev oI:Stmt:=top 94
abbrev ja:Stmt:=top 10
abbrev kn:Stmt:=top 19
abbrev qE:Stmt:=top 20
abbrev zT:Stmt:=top 12
abbrev wO:Stmt:=top 21
abbrev wW:Stmt:=top 25
abbrev fQ:Stmt:=inClass (top 62) 2
abbrev mK:Stmt:=top 26
abbrev fw:Stmt:=inClass (top 62) 1
abbrev zV:Stmt:=top 30
abbrev mJ:Stmt:=top 31
abbrev oz:Stmt:=top 22
abbrev DO:Stmt:=top 13
abbrev qG:Stmt:=top 17
abbrev oB:Stmt:=top 36
abbrev wX:Stmt:=top 38
abbrev oC:Stmt:=top 37
abbrev DK:Stmt:=top 39
abbrev zS:Stmt:=top 42
abbrev DM:Stmt:=top 43
abbrev GW:Stmt:=top 27
abbrev oA:Stmt:=top 47
abbrev qI:Stmt:=top 48
abbrev eK:Stmt:=inClass (top 62) 3
abbrev Le:Stmt:=top 28
abbrev wQ:Stmt:=top 40
abbrev mI:Stmt:=top 49
abbrev oy:Stmt:=top 50
abbrev tY:Stmt:=top 23
abbrev kj:Stmt:=top 33
abbrev wV:Stmt:=top 34
abbrev wU:Stmt:=top 44
abbrev mL:Stmt:=top 35
abbrev DN:Stmt:=top 45
abbrev mH:Stmt:=top 52
abbrev DJ:Stmt:=top 14
abbrev qF:Stmt:=top 18
abbrev wN:Stmt:=top 54
abbrev zR:Stmt:=top 55
abbrev jI:Stmt:=top 84
abbrev mP:Stmt:=top 85
abbrev k9:Stmt:=top 86
abbrev qL:Stmt:=top 70
abbrev qS:Stmt:=top 68
abbrev oH:Stmt:=top 75
abbrev k6:Stmt:=top 91
abbrev hZ:Stmt:=top 93
abbrev jH:Stmt:=top 90
abbrev oJ:Stmt:=top 95
abbrev jJ:Stmt:=top 96
abbrev qJ:Stmt:=top 97
abbrev Ld:Stmt:=top 99
set_option genInjectivity false in
set_option genSizeOf false in
structure Ads where
 A6:Addr
 AU:FuncData
 yp:Addr
 xV:FuncData
 A4:Addr
 AR:FuncData
 A1:Addr
 AO:FuncData
 yv:Addr
 xZ:FuncData
 yu:Addr
 xY:FuncData
 Dd:Addr
 CS:FuncData
 vW:Addr
 vF:FuncData
 yy:Addr
 yd:FuncData
 vU:Addr
 vD:FuncData
 tO:Addr
 tj:FuncData
 A3:Addr
 AQ:FuncData
 yx:Addr
 yc:FuncData
 vV:Addr
 vE:FuncData
 v3:Addr
 vJ:FuncData
 yh:Addr
 xO:FuncData
 A0:Addr
 AN:FuncData
 nU:Addr
 nJ:FuncData
 ym:Addr
 xS:FuncData
 F0:Addr
 FN:FuncData
 tK:Addr
 sY:FuncData
 jw:Addr
 ju:FuncData
 tQ:Addr
 tz:FuncData
 tL:Addr
 sZ:FuncData
 vT:Addr
 vC:FuncData
 yt:Addr
 xX:FuncData
 A5:Addr
 AS:FuncData
 Dc:Addr
 CQ:FuncData
 yw:Addr
 ya:FuncData
 vY:Addr
 vH:FuncData
 mo:Addr
 mi:FuncData
 pS:Addr
 pP:FuncData
 yi:Addr
 xP:FuncData
 FZ:Addr
 FL:FuncData
 C4:Addr
 CK:FuncData
 C8:Addr
 CO:FuncData
 m9:Addr
 m8:FuncData
 tI:Addr
 sW:FuncData
 lU:Addr
 lT:FuncData
 F2:Addr
 FO:FuncData
 tH:Addr
 sV:FuncData
 vP:Addr
 vw:FuncData
 Ju:Addr
 Jk:FuncData
 yk:Addr
 xR:FuncData
 vR:Addr
 vA:FuncData
 C9:Addr
 CP:FuncData
 vS:Addr
 vB:FuncData
 Jr:Addr
 Jh:FuncData
 FY:Addr
 FK:FuncData
 Js:Addr
 Ji:FuncData
 MD:Addr
 Mu:FuncData
 vQ:Addr
 vz:FuncData
 yn:Addr
 xT:FuncData
 ks:Addr
 kq:FuncData
 O1:Addr
 OY:FuncData
 C5:Addr
 CL:FuncData
 tG:Addr
 sU:FuncData
 vO:Addr
 vv:FuncData
 AZ:Addr
 AM:FuncData
 pR:Addr
 pO:FuncData
 C7:Addr
 CN:FuncData
 C6:Addr
 CM:FuncData
 tJ:Addr
 sX:FuncData
 Jt:Addr
 Jj:FuncData
 tE:Addr
 sT:FuncData
 Jq:Addr
 Jg:FuncData
 yj:Addr
 xQ:FuncData
 C3:Addr
 CJ:FuncData
 FX:Addr
 FJ:FuncData
 nW:Addr
 nL:FuncData
 tP:Addr
 tu:FuncData
 rQ:Addr
 rM:FuncData
 yr:Addr
 xW:FuncData
 yz:Addr
 ye:FuncData
 vX:Addr
 vG:FuncData
 rP:Addr
 rL:FuncData
 kB:Addr
 kz:FuncData
 nV:Addr
 nK:FuncData
 vZ:Addr
 vI:FuncData
 nX:Addr
 nM:FuncData
 yo:Addr
 xU:FuncData
 O0:Addr
 OX:FuncData
 a_NOUGHT:Addr
 a_ONE:Addr
 t_MOST_STATES:Tok
 t_MOST_PUTS:Tok
 t_MOST_LOOKS:Tok
 a_System:Addr
structure Txt (K:W.Frag) (mg:Str->Option Value) (Z:Ads):Prop where
 rC:Df K mg "_law_bag" ug ["_law_script"] Z.A6 Z.AU
 bx:Df K mg "_law_take" qK ["_law_bag_here","_law_many"] Z.yp Z.xV
 d4:Df K mg "_law_low" ue ["_law_top","_law_bottom"] Z.A4 Z.AR
 iN:Df K mg "_law_sum" t7 ["_law_one","_law_other"] Z.A1 Z.AO
 kI:Df K mg "_law_plus" qO ["_law_one","_law_other"] Z.yv Z.xZ
 gV:Df K mg "_law_prod" qN ["_law_one","_law_other"] Z.yu Z.xY
 iH:Df K mg "_law_by" wZ ["_law_factor","_law_row_here"] Z.Dd Z.CS
 jX:Df K mg "_law_mixed" oG ["_law_bag_here","_law_move_here","_law_put","_law_look"] Z.vW Z.vF
 o6:Df K mg "_law_line" qR ["_law_bag_here"] Z.yy Z.yd
 m3:Df K mg "_law_sizes" kD ["_law_bag_here"] Z.vU Z.vD
 lO:Df K mg "_law_number" mO ["_law_bag_here","_law_wide"] Z.tO Z.tj
 gQ:Df K mg "_law_row" uc ["_law_bag_here","_law_many","_law_wide"] Z.A3 Z.AQ
 o5:Df K mg "_law_move" qQ ["_law_bag_here","_law_n","_law_way","_law_first","_law_wide"] Z.yx Z.yc
 m4:Df K mg "_law_parts" oF ["_law_bag_here","_law_n","_law_ins","_law_outs","_law_wide"] Z.vV Z.vE
 m6:Df K mg "_law_drawn" oK ["_law_bag_here"] Z.v3 Z.vJ
 jk:Df K mg "want_list" qD ["thing","at","most"] Z.yh Z.xO
 mh:Df K mg "is_whole" tZ ["thing"] Z.A0 Z.AN
 eU:Df K mg "common_divisor" jG ["one","other"] Z.nU Z.nJ
 oT:Df K mg "is_number" qH ["thing"] Z.ym Z.xS
 xn:Df K mg "is_row" zU ["thing","many"] Z.F0 Z.FN
 gO:Df K mg "copied_rows" mM ["things","wide"] Z.tK Z.sY
 jv:Binds K Z.ju ["self","move","put","look"] []
 mC:KE K "__init__" "System.__init__" dI Z.jw Z.ju
 eC:Df K mg "_law_copied" mQ ["_law_grid"] Z.tQ Z.tz
 lN:Df K mg "_law_system" mN ["_law_parts_here"] Z.tL Z.sZ
 mZ:Df K mg "_law_steps" oE ["_law_bag_here","_law_n","_law_wide"] Z.vT Z.vC
 oY:Df K mg "_law_puts" qM ["_law_bag_here","_law_parts_here","_law_wide"] Z.yt Z.xX
 kb:Df K mg "_law_dot" uf ["_law_one","_law_other"] Z.A5 Z.AS
 oZ:Df K mg "_law_on" wY ["_law_grid","_law_row_here"] Z.Dc Z.CQ
 o3:Df K mg "_law_next" qP ["_law_parts_here","_law_state","_law_puts_here"] Z.yw Z.ya
 jZ:Df K mg "_law_looks" oI ["_law_parts_here","_law_start","_law_puts_here"] Z.vY Z.vH
 iG:Df K mg "common_multiple" ja ["wholes"] Z.mo Z.mi
 fB:Df K mg "common_bottom" kn ["row"] Z.pS Z.pP
 jm:Df K mg "tops_over" qE ["row","bottom"] Z.yi Z.xP
 jL:Df K mg "lowest" zT ["top","bottom"] Z.FZ Z.FL
 oS:Df K mg "row_dot" wO ["one","other"] Z.C4 Z.CK
 oU:Df K mg "grid_on" wW ["grid","row"] Z.C8 Z.CO
 rG:Kr K Z.a_System "seen" Z.m9
 tD:Binds K Z.m8 ["self","state"] []
 tT:KE K "seen" "System.seen" fQ Z.m9 Z.m8
 gN:Df K mg "grid_turned" mK ["grid","wide"] Z.tI Z.sW
 pN:Kr K Z.a_System "moved" Z.lU
 rO:Binds K Z.lT ["self","state","puts"] []
 rX:KE K "moved" "System.moved" fw Z.lU Z.lT
 xo:Df K mg "course" zV ["system","start","puts"] Z.F2 Z.FO
 lK:Df K mg "looks_along" mJ ["system","start","puts"] Z.tH Z.sV
 ig:Df K mg "nought_row" oz ["many"] Z.vP Z.vw
 vd:Df K mg "minus" DO ["one","other"] Z.Ju Z.Jk
 kH:Df K mg "row_minus" qG ["one","other"] Z.yk Z.xR
 mX:Df K mg "first_with" oB ["lines","begin","place"] Z.vR Z.vA
 uv:Df K mg "cleared" wX ["lines","at","place","before"] Z.C9 Z.CP
 mY:Df K mg "brought_up" oC ["lines","at","to"] Z.vS Z.vB
 u6:Df K mg "swept" DK ["rows","wide"] Z.Jr Z.Jh
 rZ:Df K mg "solved" zS ["rows","wide","due"] Z.FY Z.FK
 Ar:Df K mg "solve" DM ["rows","wide","due"] Z.Js Z.Ji
 yW:Df K mg "flat" GW ["lists"] Z.MD Z.Mu
 jW:Df K mg "moved_rows" oA ["system","rows"] Z.vQ Z.vz
 oV:Df K mg "additions" qI ["system","steps"] Z.yn Z.xT
 jN:Kr K Z.a_System "turned" Z.ks
 kr:Binds K Z.kq ["self"] []
 pT:KE K "turned" "System.turned" eK Z.ks Z.kq
 HM:Df K mg "cut" Le ["row","many","wide"] Z.O1 Z.OY
 lI:Df K mg "reduced" wQ ["rows","wide"] Z.C5 Z.CL
 lJ:Df K mg "reach_grown" mI ["system","steps"] Z.tG Z.sU
 mW:Df K mg "reach_rows" oy ["system","steps"] Z.vO Z.vv
 rB:Df K mg "unit_row" tY ["many","at"] Z.AZ Z.AM
 jM:Df K mg "leading_place" kj ["row"] Z.pR Z.pO
 lL:Df K mg "leading" wV ["rows"] Z.C7 Z.CN
 uu:Df K mg "null_at" wU ["rows","wide","at"] Z.C6 Z.CM
 lM:Df K mg "free_places" mL ["rows","wide"] Z.tJ Z.sX
 As:Df K mg "nulls" DN ["rows","wide"] Z.Jt Z.Jj
 lG:Df K mg "unseen_rows" mH ["system","steps"] Z.tE Z.sT
 Aq:Df K mg "times" DJ ["one","other"] Z.Jq Z.Jg
 oR:Df K mg "row_times" qF ["by","row"] Z.yj Z.xQ
 uq:Df K mg "without" wN ["state","rows"] Z.C3 Z.CJ
 xm:Df K mg "starts" zR ["system","puts","looks"] Z.FX Z.FJ
 jr:Df K mg "_law_is_number" jI ["_law_thing"] Z.nW Z.nL
 jq:Df K mg "_law_is_row" mP ["_law_thing","_law_many"] Z.tP Z.tu
 ko:Df K mg "_law_is_grid" k9 ["_law_thing","_law_many","_law_wide"] Z.rQ Z.rM
 oX:Df K mg "_law_quot" qL ["_law_one","_law_other"] Z.yr Z.xW
 o7:Df K mg "_law_less" qS ["_law_one","_law_other"] Z.yz Z.ye
 jY:Df K mg "_law_minus" oH ["_law_one","_law_other"] Z.vX Z.vG
 iq:Df K mg "_law_reduced" k6 ["_law_rows","_law_wide"] Z.rP Z.rL
 gP:Df K mg "_law_unseen_right" hZ ["_law_told_here","_law_rows","_law_n"] Z.kB Z.kz
 jo:Df K mg "_law_look_rows" jH ["_law_parts_here","_law_steps_here"] Z.nV Z.nK
 m5:Df K mg "_law_leads" oJ ["_law_rows"] Z.vZ Z.vI
 js:Df K mg "_law_any_right" jJ ["_law_parts_here","_law_told_here","_law_puts_here","_law_looks_here"] Z.nX Z.nM
 oW:Df K mg "_law_told" qJ ["_law_system_here","_law_parts_here","_law_puts_here","_law_looks_here"] Z.yo Z.xU
 O8:KE K "law" "law" Ld Z.O0 Z.OX
 abs:mg "abs"=none
 len:mg "len"=none
 range:mg "range"=none
 int:mg "int"=none
 min:mg "min"=none
 isinstance:mg "isinstance"=none
 list:mg "list"=none
 bool:mg "bool"=none
 tuple:mg "tuple"=none
 all:mg "all"=none
 enumerate:mg "enumerate"=none
 zip:mg "zip"=none
 sum:mg "sum"=none
 mg_NOUGHT:mg "NOUGHT"=some (.ref Z.a_NOUGHT)
 sq_NOUGHT:∀H,nY K H Z.a_NOUGHT [.int 0,.int 1]
 mg_ONE:mg "ONE"=some (.ref Z.a_ONE)
 sq_ONE:∀H,nY K H Z.a_ONE [.int 1,.int 1]
 mg_MOST_STATES:mg "MOST_STATES"=some (.int 8 Z.t_MOST_STATES)
 mg_MOST_PUTS:mg "MOST_PUTS"=some (.int 4 Z.t_MOST_PUTS)
 mg_MOST_LOOKS:mg "MOST_LOOKS"=some (.int 4 Z.t_MOST_LOOKS)
 mg_System:mg "System"=some (.ref Z.a_System)
 cl_System:Kw K Z.a_System
 na_move:jx K Z.a_System "move"
 na_states:jx K Z.a_System "states"
 na_put:jx K Z.a_System "put"
 na_ins:jx K Z.a_System "ins"
 na_look:jx K Z.a_System "look"
 na_outs:jx K Z.a_System "outs"
 mk_System:Mk K Z.a_System Z.jw
section
variable {P:Program} {w:World} {K:W.Frag} {mg:Str->Option Value} {base:Heap} {Z:Ads}
theorem Fj:aP ["_law_script"] ["_law_script"] (aH ug):=by walk_at "d"
theorem Fy (T:Txt K mg Z) (ptree:P.given.tree=none):cC P w K mg base eY 1 Z.A6 Z.AU ["_law_script"] (K8 K):=by
 refine T.rC.F.ok Fj (λvs H Q E h=>?_) (λcdv A outer s H vs Q E hr h=>?_)
 ·obtain ⟨a,ns,rfl,_⟩:=h;rfl
 ·obtain ⟨a,ns,rfl,hS,hlen,k⟩:=h;refine ⟨_,(ay (aN (du (ae ak (ae ak (ae ak (ae (cv ["_law_cell"] [] [] (cu (z9 Dz (pv 0) DR (DQ ak))) (λ_=>(aK (i:=0) (show ND9 ["_law_cell"] by decide +kernel))) (λ_=>cB) (λ_=>(bF AX (by rfl) T.abs PyProof.Rows.boot_abs (ae (pv 0) aj)))) aj))))))),?_⟩;refine aM (σ:=[some (.ref a)]) rfl ?_;exists ⟨a,_,rfl,hS,λl hl=>?_⟩;have hcl:(sI (ns.map V.int) none (some 63)).length<=63:=ai (yg _ _ _) (by simpa using hlen);refine ⟨l,rfl,⟨_,bE.of aE⟩,?_⟩;refine d6 (K:=K) (a:=l) (xs:=sI (ns.map V.int) none (some 63)) (λi ys H'=>H'=upd H l (.lst (sI (ns.map V.int) none (some 63)))/\∃cs:List Int,ys=cs.map V.int/\∀x∈cs,0<=x) (ai hcl (by decide)) ⟨rfl,[],rfl,λ_ z=>nomatch z⟩ (λi ys H' _ ⟨e,_⟩=>by subst e;exact bE.of aE) ?_ ?_
  ·rintro i x ys H' hx hi ⟨rfl,cs,rfl,hcs⟩
   obtain ⟨z,rfl⟩:∃z,x=V.int z:=by
    have hm:x∈ns.map V.int:=List.mem_of_mem_drop (cb (au hx));obtain ⟨z,_,e⟩:=az.mp hm;exact ⟨z,e.symm⟩
   exists ⟨rfl,cs++[if z < 0 then -z else z],by simp,λx hx=>?_⟩;rcases ax.mp hx with hx | hx
   ·exact hcs x hx
   ·have e:x=if z < 0 then -z else z:=by simpa using hx
    subst e
    split <;> lia
  ·rintro ys H' hy ⟨rfl,cs,rfl,hcs⟩ p hp;exists ⟨by show 4<=sizeLine;decide,λb hb=>?_⟩;have n1:b≠p:=λz=>by rw[z,aE] at hb;cases hb
   have hb1:(upd H l (.lst (sI (ns.map V.int) none (some 63)))) b=none:=by rw[bf n1] at hb;exact hb
   have s1:aF H (upd H l (.lst (sI (ns.map V.int) none (some 63)))):=aF.new hl;refine k b _ (s1.free hb1) ⟨p,0,1234567891,0,cs,aE,by rw[bf n1.symm];exact aE,by decide,by decide,by lia,hcs⟩ ((s1.trans (aF.new hp)).trans (aF.new hb))
theorem dW:aP ["_law_bag_here","_law_many","_law_more","_law_cell","_law_value","_law_first","_law_second"] ["_law_bag_here","_law_many"] (aH qK):=by walk_at "d"
theorem eT (T:Txt K mg Z) (ptree:P.given.tree=none):cC P w K mg base eY 1 Z.yp Z.xV ["_law_bag_here","_law_many"] Nc:=by
 refine T.bx.F.ok dW (λvs H Q E h=>?_) (λcdv A outer s H vs Q E hr h=>?_)
 ·obtain ⟨p,n,rfl,_⟩:=h;rfl
 ·obtain ⟨p,n,rfl,⟨q,a,b,c,cs,hp,hq,ha,hc,hcl,hcs⟩,hn,hn2,k⟩:=h;have nqp:q≠p:=Kp hp hq
  refine ⟨_,(iK (cY (be eS (aW bL (pv 0) ak) ak (bB _)) (ar (a9 (i:=2) dW.nd rfl (Or.inl rfl) ak)
   (iK (cY (be pM (aW bL (pv 0) ak) (bF a7 (by rfl) T.len aR (ae (aW bL (pv 0) ak) aj)) (bB _)) (ar (a9 (i:=3) dW.nd rfl (Or.inl rfl) (aW bL (aW bL (pv 0) ak) (aW bL (pv 0) ak)))
   (ar (NS (pv 0) ak Mc ak Qp set_list)
   (ar (cY (be Cs (pv 3) ak (bB _)) (ay (eI (pv 3) (gK (pv 0) ak set_list))) bQ)
   (ay (a9 (i:=2) dW.nd rfl (Or.inl rfl) (bM fW (bM mT (pv 3) ak) ak)))))) bQ)
   (ay (eI (bM mT (bM fW (bM c5 (aW bL (pv 0) ak) ak) (pv 2)) ak) (gK (pv 0) ak set_list))))) bQ)
   (ar (cY (be qZ (aW bL (pv 0) ak) ak (bB _)) (ar (a9 (i:=4) dW.nd rfl (Or.inl rfl) (bM mT (aW bL (pv 0) ak) (pv 1)))
   (ar (eI (bM (jh rfl dW rfl rfl rfl ptree (vo hr)) (aW bL (pv 0) ak) (pv 1)) (gK (pv 0) ak set_list))
   (ay (aN (pv 4))))) bQ)
   (ar (a9 (i:=5) dW.nd rfl (Or.inl rfl) (bM mT (bM c5 (aW bL (pv 0) ak) ak) ak))
   (ar (a9 (i:=6) dW.nd rfl (Or.inl rfl) (bM mT (bM c5 (pv 5) ak) ak))
   (ar (cY (be qZ (pv 1) ak (bB _)) (ay (aN (bM mT (bM fW (bM c5 (pv 6) ak) (pv 5)) (pv 1)))) bQ)
   (ay (aN (bM mT (bM (jh rfl dW rfl rfl rfl ptree (vo hr)) (pv 6) ak) (pv 1))))))))),?_⟩
  refine aM (σ:=[some (.ref p),some (.int n),none,none,none,none,none]) rfl ?_;refine ⟨λσ' H'=>∃(x y:Option V) (a' b' c':Int),σ'=[some (.ref p),some (.int n),x,y,none,none,none]/\H' p=some (.lst [.int a',.int b',.int c',.ref q])/\0<=a'/\0<=c'/\c'<=cs.length/\c6 p H H',?_,?_⟩
  ·exists gR (λh0=>?_) (λh0=>?_)
   ·exists ⟨λσ' H'=>∃(m:Int) (y:Option V) (a' c':Int),σ'=[some (.ref p),some (.int n),some (.int m),y,none,none,none]/\H' p=some (.lst [.int a',.int b,.int c',.ref q])/\0<=a'/\0<=c'/\c'<=cs.length/\c6 p H H',?_,?_⟩
    ·exists ⟨_,_,rfl,.inl (bE.of hq),?_⟩;exists gR (λh1=>?_) (λh1=>?_)
     ·have h1':c < cs.length:=by simpa using of_decide_eq_true h1
      obtain ⟨z,hz⟩:∃z,cs[c.toNat]?=some z:=⟨_,ag (by lia)⟩;have hz0:0<=z:=hcs z (au hz);exists b9 (bE.of hq) (v:=.int z) ?_ ?_
      ·have:=dX (xs:=cs.map V.int) (j:=c.toNat) (v:=.int z) (by rw[aD,hz];rfl);rwa [Int.toNat_of_nonneg hc] at this
      exists gR (λh2=>?_) (λh2=>?_)
      ·exists ⟨_,_,z,c+1,rfl,aE,hz0,by lia,by lia,(c6.set hp).trans (c6.set aE)⟩
      ·exists ⟨_,_,a,c+1,rfl,aE,ha,by lia,by lia,c6.set hp⟩
     ·exists ⟨_,_,a,c,rfl,hp,ha,hc,hcl,c6.refl _⟩
    ·rintro σ' H' ⟨m,y,a',c',rfl,hp',ha',hc',hcl',u'⟩;exists ⟨_,_,a',_,c',rfl,aE,ha',hc',hcl',u'.trans (c6.set hp')⟩
   ·exists ⟨_,_,a,b,c,rfl,hp,ha,hc,hcl,c6.refl _⟩
  ·rintro σ' H' ⟨x,y,a',b',c',rfl,hp',ha',hc',hcl',u'⟩;have hq':H' q=some (.lst (cs.map V.int)):=u'.1 q _ hq nqp
   have sn:Sz 449950 n:=by
    show n.natAbs < 2^449950
    exact bD (show n.natAbs < 2^64 by lia) (av (by decide) (by decide))
   exists gR (λh0=>?_) (λh0=>?_)
   ·exists fj (show (0:Int) < n from hn) ?_;exists fj (show pW _ _ from ⟨by lia,sn⟩) ?_;exists k _ _ (kN _ (by lia)) (iC _ hn) ⟨q,_,b',c',cs,aE,by rw[bf nqp];exact hq',?_,hc',hcl',hcs⟩ (u'.trans (c6.set hp'));rw[cF _ (by lia)];exact Int.ediv_nonneg ha' (by lia)
   ·exists gR (λh1=>?_) (λh1=>?_)
    ·exists fj (show (0:Int) < n from hn) ?_;exact k _ _ (kN _ (by lia)) (iC _ hn) ⟨q,a',b',c',cs,hp',hq',ha',hc',hcl',hcs⟩ u'
    ·exists fj (show pW _ _ from ⟨by decide,by show (3:Nat) < 2^449950;exact bD (show 3 < 2^2 by decide) (av (by decide) (by decide))⟩) ?_;exists fj (show (0:Int) < n from hn) ?_;exact k _ _ (kN _ (by lia)) (iC _ hn) ⟨q,a',b',c',cs,hp',hq',ha',hc',hcl',hcs⟩ u'
theorem iJ:aP ["_law_top","_law_bottom","_law_one","_law_other"] ["_law_top","_law_bottom"] (aH ue):=by walk_at "d"
theorem iL (T:Txt K mg Z) (ptree:P.given.tree=none):cC P w K mg base eY 1 Z.A4 Z.AR ["_law_top","_law_bottom"] Pn:=by
 refine T.d4.F.ok iJ (λvs H Q E h=>?_) (λcdv A outer s H vs Q E hr h=>?_)
 ·obtain ⟨t,b,rfl,_⟩:=h;rfl
 ·obtain ⟨t,b,rfl,hb,hs,k⟩:=h
  refine ⟨_,(ar (a9 (i:=2) iJ.nd rfl (Or.inl rfl) (bF AX (by rfl) T.abs PyProof.Rows.boot_abs (ae (pv 0) aj)))
   (ar (a9 (i:=3) iJ.nd rfl (Or.inl rfl) (pv 1))
   (ar (z5 PassesOwn.never (be sP (pv 2) ak (bB _))
    (ay (Lq (i:=2) (j:=3) rfl iJ.nd rfl rfl (by decide) rfl rfl (ae (bM mT (pv 3) (pv 2)) (ae (pv 2) aj)) rfl)))
   (ay (aN (c8 (ae (bM (jh rfl iJ rfl rfl rfl ptree (vo hr)) (pv 0) (pv 3)) (ae (bM (jh rfl iJ rfl rfl rfl ptree (vo hr)) (pv 1) (pv 3)) aj)))))))),?_⟩
  refine aM (σ:=[some (.int t),some (.int b),none,none]) rfl ?_;walk_at "w"
  refine Dp (λσ' H'=>∃(u v:Int),σ'=[some (.int t),some (.int b),some (.int u),some (.int v)]/\H'=H/\0<=u/\0 < v/\Int.gcd u v=Int.gcd t b) (λσ' _=>match σ' with | [_,_,some (.int u),_]=>u.natAbs | _=>0) ⟨_,b,rfl,rfl,by split <;> lia,hb,by
   split
   ·rw[Int.neg_gcd]
   ·rfl⟩ ?_
  rintro σ' H' ⟨u,v,rfl,rfl,hu,hv,hg⟩;exists gR (λh=>?_) (λh=>?_)
  ·have hu0:u≠0:=λz=>by subst z;simp at h
   exists fj (show (0:Int) < u by lia) ?_;walk_at "w";have h1:=kN v hu0;have h2:=iC v (show 0 < u by lia);exact ⟨⟨v % u,u,rfl,rfl,h1,by lia,by rw[j9,Mf,j9];exact hg⟩,by show (v % u).natAbs < u.natAbs;lia⟩
  ·have hu0:u=0:=by
    by_cases z:u=0
    ·exact z
    ·exfalso;apply h;simp [z]
   subst hu0
   have e:v=g t b:=by
    unfold g;rw[<- hg,Int.gcd_zero_left]
    lia
   have hgs:Sz 449950 v:=hs.le (by
    rw[e];have h1:(g t b).natAbs=Int.gcd t b:=by unfold g;simp
    rw[h1];exact gI (by lia) (by have:=eZ (a:=t) (b:=b);exact d5.mpr this |> λz=>by simpa using z))
   exists fj (show pW _ _ from ⟨by lia,hgs⟩) ?_;exists fj (show pW _ _ from ⟨by lia,hgs⟩) ?_;exists cD λr H' s' h'=>?_
   rw[cF _ (by lia),cF _ (by lia),e] at h';exact k r H' s' h'
theorem Fh:aP ["_law_one","_law_other"] ["_law_one","_law_other"] (aH t7):=by walk_at "d"
theorem rh (T:Txt K mg Z) (ptree:P.given.tree=none):cC P w K mg base eY 2 Z.A1 Z.AO ["_law_one","_law_other"] (mF K (λx y=>x+y)):=by
 have dA:=iL (P:=P) (w:=w) (base:=base) T ptree;refine T.iN.F.ok Fh (λvs H Q E h=>?_) (λcdv A outer s H vs Q E hr h=>?_)
 ·obtain ⟨p,q,a,b,c,d,rfl,hp,hq,hb,hd,sa,sb,sc,sd,k⟩:=Jo h;rfl
 ·obtain ⟨p,q,a,b,c,d,rfl,hp,hq,hb,hd,sa,sb,sc,sd,k⟩:=Jo h;refine ⟨_,(ay (aN (cJ dA hr T.d4 (ae (bM fW (bM c5 (aW bI (pv 0) ak) (aW bI (pv 1) ak)) (bM c5 (aW bI (pv 1) ak) (aW bI (pv 0) ak))) (ae (bM c5 (aW bI (pv 0) ak) (aW bI (pv 1) ak)) aj))))),?_⟩;refine aM (σ:=[some (.ref p),some (.ref q)]) rfl ?_;have hbd:0 < b*d:=gD hb hd;have sbd:Sz 449950 (b*d):=(sb.mul sd).mono (by decide);exists fj (show fh _ _ from .inr ⟨_,_,sa,sd,by decide⟩) ?_;exists fj (show fh _ _ from .inr ⟨_,_,sc,sb,by decide⟩) ?_;exists fj (show fh _ _ from .inr ⟨_,_,sb,sd,by decide⟩) ?_;walk_at "w";exists ⟨_,_,rfl,hbd,sbd,k⟩
theorem DH:aP ["_law_one","_law_other"] ["_law_one","_law_other"] (aH qO):=by walk_at "d"
theorem uV (T:Txt K mg Z) (ptree:P.given.tree=none):cC P w K mg base eY 3 Z.yv Z.xZ ["_law_one","_law_other"] (E2 K):=by
 have jR:=rh (P:=P) (w:=w) (base:=base) T ptree;refine T.kI.F.ok DH (λvs H Q E h=>?_) (λcdv A outer s H vs Q E hr h=>?_)
 ·obtain ⟨p,q,xs,ys,rfl,_⟩:=h;rfl
 ·obtain ⟨p,q,xs,ys,rfl,hp,hq,hl,hz,h1,h2,kk⟩:=h;refine ⟨_,(ay (aN (cv ["_law_k"] ["_law_one","_law_other"] [0,1] (cy rfl T.range (ae (bF a7 (by rfl) T.len aR (ae (pv 0) aj)) aj)) (λ_=>(aK (i:=0) (show ND9 ["_law_k","_law_one","_law_other"] by decide +kernel))) (λ_=>cB) (λ_=>(cJ jR hr T.iN (ae (aW (fE K (by rfl)) (pv 1) (pv 0)) (ae (aW (fE K (by rfl)) (pv 2) (pv 0)) aj))))))),?_⟩;refine aM (σ:=[some (.ref p),some (.ref q)]) rfl ?_;obtain ⟨us,gu,qu⟩:=id hp;obtain ⟨ws,gw,qw⟩:=id hq;have lu:=qu.length;exists ⟨_,_,rfl,.inl (bE.of gu),?_⟩;exists ⟨by lia,by lia,?_⟩;refine fR (n:=us.length) (cA K) (λi=>xs.getD i 0+ys.getD i 0) (by lia) (λa b=>a.same b) ?_ ?_
  ·rintro i H' NY NN hi s k1;have ix:i < xs.length:=by lia
   have iy:i < ys.length:=by lia
   obtain ⟨vx,ex,nx⟩:=BF (Paired.imp' (λ_ _ z=>z.same s) qu) ix;obtain ⟨vy,ey,ny⟩:=BF (Paired.imp' (λ_ _ z=>z.same s) qw) iy;exists b9 (bE.of (s _ _ gu)) ex ?_;exists b9 (bE.of (s _ _ gw)) ey ?_;exists ⟨_,_,_,_,rfl,nx,ny,h1 _ (getD_mem ix),h2 _ (getD_mem iy),λr3 H3 s3 n3=>k1 _ _ s3 n3⟩
  ·rintro ys' H' l hl' s g pr nx;exact kk l H' hl' s ⟨ys',g,by rw[BR (by lia)];rw[<- lu] at pr;exact pr⟩
theorem DG:aP ["_law_one","_law_other"] ["_law_one","_law_other"] (aH qN):=by walk_at "d"
theorem oP (T:Txt K mg Z) (ptree:P.given.tree=none):cC P w K mg base eY 2 Z.yu Z.xY ["_law_one","_law_other"] (mF K (λx y=>x*y)):=by
 have dA:=iL (P:=P) (w:=w) (base:=base) T ptree;refine T.gV.F.ok DG (λvs H Q E h=>?_) (λcdv A outer s H vs Q E hr h=>?_)
 ·obtain ⟨p,q,a,b,c,d,rfl,hp,hq,hb,hd,sa,sb,sc,sd,k⟩:=yV h;rfl
 ·obtain ⟨p,q,a,b,c,d,rfl,hp,hq,hb,hd,sa,sb,sc,sd,k⟩:=yV h;refine ⟨_,(ay (aN (cJ dA hr T.d4 (ae (bM c5 (aW bI (pv 0) ak) (aW bI (pv 1) ak)) (ae (bM c5 (aW bI (pv 0) ak) (aW bI (pv 1) ak)) aj))))),?_⟩;refine aM (σ:=[some (.ref p),some (.ref q)]) rfl ?_;have hbd:0 < b*d:=gD hb hd;have sbd:Sz 449950 (b*d):=(sb.mul sd).mono (by decide);exists fj (show fh _ _ from .inr ⟨_,_,sa,sc,by decide⟩) ?_;exists fj (show fh _ _ from .inr ⟨_,_,sb,sd,by decide⟩) ?_;walk_at "w";exists ⟨_,_,rfl,hbd,sbd,k⟩
theorem GV:aP ["_law_factor","_law_row_here"] ["_law_factor","_law_row_here"] (aH wZ):=by walk_at "d"
theorem uo (T:Txt K mg Z) (ptree:P.given.tree=none):cC P w K mg base eY 3 Z.Dd Z.CS ["_law_factor","_law_row_here"] (GP K):=by
 have iS:=oP (P:=P) (w:=w) (base:=base) T ptree;refine T.iH.F.ok GV (λvs H Q E h=>?_) (λcdv A outer s H vs Q E hr h=>?_)
 ·obtain ⟨u,q,c,ys,rfl,_⟩:=h;rfl
 ·obtain ⟨u,q,c,ys,rfl,hc,sc,hq,hz,h2,kk⟩:=h;refine ⟨_,(ay (aN (cv ["_law_one"] ["_law_factor"] [0] (cu (pv 1)) (λ_=>(aK (i:=0) (show ND9 ["_law_one","_law_factor"] by decide +kernel))) (λ_=>cB) (λ_=>(cJ iS hr T.gV (ae (pv 1) (ae (pv 0) aj))))))),?_⟩;refine aM (σ:=[some u,some (.ref q)]) rfl ?_;obtain ⟨us,gu,qu⟩:=id hq;exists ⟨⟨_,bE.of gu⟩,?_⟩;refine dw (K:=K) (F:=cA K) (cA K) (λy=>c*y) gu qu hz (λa b=>a.same b) (λa b=>a.same b) ?_ ?_
  ·rintro i y x H' NY NN en s hx k;exists ⟨_,_,_,_,rfl,hc.same s,hx,sc,h2 y (au en),λr H2 s2 h2'=>k _ _ s2 h2'⟩
  ·rintro ys' H' r hr s g pr nx;exact kk r H' hr s ⟨ys',g,pr⟩
theorem dF:aP ["_law_bag_here","_law_move_here","_law_put","_law_look","_law_n","_law_turn","_law_i","_law_j","_law_by_here","_law_less_here","_law_row_here"] ["_law_bag_here","_law_move_here","_law_put","_law_look"] (aH oG):=by walk_at "d"
theorem sR (T:Txt K mg Z) (ptree:P.given.tree=none):cC P w K mg base eY 4 Z.vW Z.vF ["_law_bag_here","_law_move_here","_law_put","_law_look"] (Ci K):=by
 have bu:=eT (P:=P) (w:=w) (base:=base) T ptree;have rW:=uV (P:=P) (w:=w) (base:=base) T ptree;have jS:=uo (P:=P) (w:=w) (base:=base) T ptree;have jR:=rh (P:=P) (w:=w) (base:=base) T ptree;have iS:=oP (P:=P) (w:=w) (base:=base) T ptree;refine T.jX.F.ok dF (λvs H Q E h=>?_) (λcdv A outer s H vs Q E hr h=>?_)
 ·obtain ⟨b,m,p,l,q0,n,WV,μ,A,us,ws,vs,rfl,_⟩:=h;rfl
 ·obtain ⟨b,m,p,l,q0,n,WV,μ,A,us,ws,vs,rfl,MA,X,n8,i4,o4,M0,M1,⟨M,eM⟩,V1,hA,k⟩:=h
  refine ⟨_,(ar (a9 (i:=4) dF.nd rfl (Or.inl rfl) (bF a7 (by rfl) T.len aR (ae (pv 1) aj)))
   (ar (cY (PW.pt (ky (be pM (pv 4) ak (bB _)) (jb (be eS (cJ bu hr T.bx (ae (pv 0) (ae ak aj))) ak (bB _))))) (ay (aN (c8 (ae (pv 1) (ae (pv 2) (ae (pv 3) aj)))))) bQ)
   (ar (df PassesOwn.never rfl (cy rfl T.range (ae (bM fW ak (cJ bu hr T.bx (ae (pv 0) (ae ak aj)))) aj)) (aK (i:=5) dF.nd)
    (ar (a9 (i:=6) dF.nd rfl (Or.inl rfl) (cJ bu hr T.bx (ae (pv 0) (ae (pv 4) aj))))
   (ar (a9 (i:=7) dF.nd rfl (Or.inl rfl) (bM mT (bM fW (bM fW (pv 6) ak) (cJ bu hr T.bx (ae (pv 0) (ae (bM lB (pv 4) ak) aj)))) (pv 4)))
   (ar (a9 (i:=8) dF.nd rfl (Or.inl rfl) (c8 (ae (aW bL (du (ae ak (ae (uR oi ak) (ae ak (ae (uR oi ak) aj))))) (cJ bu hr T.bx (ae (pv 0) (ae ak aj)))) (ae ak aj))))
   (ar (a9 (i:=9) dF.nd rfl (Or.inl rfl) (c8 (ae (bM lB ak (aW bI (pv 8) ak)) (ae ak aj))))
   (ar (eI (cJ rW hr T.kI (ae (aW bL (pv 1) (pv 6)) (ae (cJ jS hr T.iH (ae (pv 8) (ae (aW bL (pv 1) (pv 7)) aj))) aj))) (gK (pv 1) (pv 6) set_list))
   (ar (df PassesOwn.never rfl (cu (bM rd (pv 1) (pv 3))) (aK (i:=10) dF.nd)
    (ay (eI (cJ jR hr T.iN (ae (aW bL (pv 10) (pv 7)) (ae (cJ iS hr T.gV (ae (pv 9) (ae (aW bL (pv 10) (pv 6)) aj))) aj))) (gK (pv 10) (pv 7) set_list))))
   (ay (df PassesOwn.never rfl (cu (pv 2)) (aK (i:=10) dF.nd)
    (ay (eI (cJ jR hr T.iN (ae (aW bL (pv 10) (pv 6)) (ae (cJ iS hr T.gV (ae (pv 8) (ae (aW bL (pv 10) (pv 7)) aj))) aj))) (gK (pv 10) (pv 6) set_list))))))))))))
   (ay (aN (c8 (ae (pv 1) (ae (pv 2) (ae (pv 3) aj))))))))),?_⟩
  refine aM (σ:=[some (.ref b),some (.ref m),some (.ref p),some (.ref l),none,none,none,none,none,none,none]) rfl ?_;have done:∀r us' H' t,t<=3->H' r=some (.tup [.ref m,.ref p,.ref l])->jy K A H' n (λx=>Fr (μ x) (9^t*WV)) m p l b q0 us' ws vs->gY A b m H H'->Q (.ref r) H':=λr us' H' t ht g x kp=>k r us' H' g (x.weak λ_ _ y h=>h.mono (aA _ (av (by decide) ht))) kp
  have X0:jy K A H n (λx=>Fr (μ x) (9^0*WV)) m p l b q0 us ws vs:=X.weak λ_ _ y h=>h.mono (by simp)
  clear X k;have gu:=X0.gm;have lu:=X0.lm;exists ⟨_,_,rfl,.inl (bE.of gu),?_⟩;rw[lu];clear gu lu;have kp0:gY A b m H H:=λ_ _ h _ _ _=>h
  exists gR (λh0=>?_) (λh0=>?_)
  ·exists cD λr H' s' g'=>?_
   exact done r us H' 0 (by decide) g' (X0.same s') (kp0.same s')
  have n2:2<=n:=by
   rcases b8 n 2 with z | z
   ·exact absurd (decide_eq_true (show (n:Int) < 2 by lia)) h0
   ·exact z
  exists ⟨b,2,rfl,X0.bag,by decide,by decide,λv H1 v0 v1 B1 u1=>?_⟩;have X1:=X0.upto MA u1 B1;have kp1:=kp0.upto u1;exists gR (λh1=>?_) (λh1=>?_)
  ·exists cD λr H' s' g'=>?_
   exact done r us H' 0 (by decide) g' (X1.same s') (kp1.same s')
  exists ⟨b,3,rfl,B1,by decide,by decide,λc H2 c0 c1 B2 u2=>?_⟩;have X2:=X1.upto MA u2 B2;have kp2:=kp1.upto u2;clear X0 X1 kp0 kp1 u1 u2 B1;exists ⟨by lia,by lia,?_⟩;refine eF (n:=(1+c).toNat) (λt σ' H'=>∃(x1 x2 x3 x4 x5 x6:Option V) (us:List V),σ'=[some (.ref b),some (.ref m),some (.ref p),some (.ref l),some (.int n),x1,x2,x3,x4,x5,x6]/\jy K A H' n (λx=>Fr (μ x) (9^t*WV)) m p l b q0 us ws vs/\gY A b m H H') ⟨none,none,none,none,none,none,us,rfl,X2,kp2⟩ ?_ ?_
  ·rintro t σ' H' ht ⟨x1,x2,x3,x4,x5,x6,us,rfl,X,kp⟩;have t3:t<=2:=by lia
   exists ⟨b,n,rfl,X.bag,by lia,by lia,λii Ha i0 i1 Ba ua=>?_⟩;obtain ⟨ii,rfl⟩:=cI i0;have Xa:=X.upto MA ua Ba;have kpa:=kp.upto ua;exists ⟨b,_,rfl,Ba,by lia,by lia,λd Hb d0 d1 Bb ub=>?_⟩;have Xb:=Xa.upto MA ub Bb;have kpb:=kpa.upto ub;exists fj (show (0:Int) < n by lia) ?_;have j0:=kN ((ii:Int)+1+d) (show (n:Int)≠0 by lia);have j1:=iC ((ii:Int)+1+d) (show (0:Int) < n by lia);generalize ((ii:Int)+1+d) % (n:Int)=jj at j0 j1 ⊢;obtain ⟨jj,rfl⟩:=cI j0;exists dd λl0 Hc sc nc gc=>?_
   exists ⟨b,4,rfl,Bb.same sc,by decide,by decide,λv' Hd v0' v1' Bd ud=>?_⟩;have gd:=ud.other (λz=>Bb.at (by rw[<- z];exact nc)) gc;obtain ⟨x,ex,mx,_⟩:=nQ (xs:=[V.int 1,V.int (-1),V.int 2,V.int (-2)]) v0' (by simpa using v1')
   obtain ⟨z,rfl,hz⟩:∃z:Int,x=.int z/\z.natAbs<=2:=by
    simp only[aG,br,or_false] at mx;rcases mx with rfl | rfl | rfl | rfl
    ·exact ⟨1,rfl,by decide⟩
    ·exact ⟨-1,rfl,by decide⟩
    ·exact ⟨2,rfl,by decide⟩
    ·exact ⟨-2,rfl,by decide⟩
   have Xd:=(Xb.same sc).upto MA ud Bd;have kpd:=(kpb.same sc).upto ud;exists b9 (bE.of gd) ex ?_;exists cD λbt He se ge=>?_
   exists cD λlt Hf sf gf=>?_
   have Xf:=(Xd.same se).same sf;have kpf:=(kpd.same se).same sf;have nb:cA K Hf ((z:Int):Rat) (.ref bt):=cA.mk (sf _ _ ge) rfl;have nl:cA K Hf ((0 - z:Int):Rat) (.ref lt):=cA.mk gf rfl;clear X Xa Xb Xd kp kpa kpb kpd ua ub ud sc gc gd ex mx ge gf se sf Ba Bb Bd nc;have gu:=Xf.gm;have lu:=Xf.lm
   have ru:∀x∈us,fL K A Hf n (Fr M (9^t*WV)) x:=λx hx=>by
    have:=Xf.row x (by simp [hx]);rwa [eM x (Xf.apart.1 x hx).1 (Xf.apart.1 x hx).2] at this
   have hM:0 < M/\M<=2^800:=by
    have hx:us[ii]'(by lia)∈us:=aL _;have:=eM _ (Xf.apart.1 _ hx).1 (Xf.apart.1 _ hx).2;rw[<- this];exact ⟨M0 _,M1 _⟩
   have e1:us[ii]?=some (us[ii]'(by lia)):=by simp
   have e2:us[jj]?=some (us[jj]'(by lia)):=by simp
   obtain ⟨q1,z1,qs1,w1,a1,g1,k1,p1,l1,c1⟩:=(ru _ (au e1)).at;obtain ⟨q2,z2,qs2,w2,a2,g2,k2,p2,l2,c2⟩:=(ru _ (au e2)).at;rw[w1] at e1;rw[w2] at e2;generalize eW:9^t*WV=W at *
   have W9:9*W<=2^140:=by rw[<- eW];exact NT (by lia) V1 (by decide)
   have sz9M:∀{x:Rat} {U:Nat},U<=9*W->Fr M U x->kK x:=λhU h=>Jb hM.1 hM.2 (ai hU W9) h
   have sz9:∀{x:Rat} {U:Nat} {v:V},U<=9*W->Fr (μ v) U x->kK x:=λhU h=>Jb (M0 _) (M1 _) (ai hU W9) h
   exists b9 (bE.of gu) (dX e1) ?_;exists b9 (bE.of gu) (dX e2) ?_;exists ⟨_,q2,_,qs2,rfl,nb,Dt (by lia),⟨z2,g2,p2⟩,by lia,λy hy=>sz9M (by lia) (c2 y hy),λr1 Hg n1 sg R1=>?_⟩;exists ⟨q1,r1,qs1,_,rfl,⟨z1,sg _ _ g1,Paired.imp' (λ_ _ y=>y.same sg) p1⟩,R1,by rw[ah,l1,l2],by lia,λy hy=>sz9M (by lia) (c1 y hy),λy hy=>?_,λr2 Hh n2' sh R2=>?_⟩
   ·obtain ⟨y',hy',rfl⟩:=az.mp hy;exact zi hz (c2 y' hy') hM.1 hM.2 (by lia)
   have sfh:=sg.trans sh
   have new:V.ref r2∉us++vs++ws:=λz=>by
    obtain ⟨q',_,_,e',_,g',_⟩:=((Xf.same sg).row _ z).at;cases e';rw[n2'] at g';cases g'
   have Xh:=(Xf.same sfh).weak (C':=λx y=>(x∈ws->Fr (μ x) W y)/\Fr (μ x) (3*W) y) λx _ y h=>⟨λ_=>h,h.mono (by lia)⟩
   have kph:=kpf.same sfh;have guh:=sfh _ _ gu;have ar2:A r2:=(kpf.same sg).new hA (Xf.same sg).bag (by rw[sg _ _ gu];simp) n2'
   have rp2:fL K A Hh n (λy=>(V.ref r2∈ws->Fr (μ (.ref r2)) W y)/\Fr (μ (.ref r2)) (3*W) y) (.ref r2):=by
    rw[eM (.ref r2) (λz=>new (ax.mpr (.inr z))) (λz=>new (ax.mpr (.inl (ax.mpr (.inr z)))))];refine ⟨r2,_,rfl,ar2,R2,by rw[bO,ah];lia,λy hy=>⟨λz=>absurd (ax.mpr (.inr z)) new,?_⟩⟩;obtain ⟨j',hj',e⟩:=bP hy;rw[pZ,d7] at e;rw[<- e];exact Ej hz (c1 _ (aL _)) (c2 _ (aL _))
   exists eN guh (fo (by lia)) rfl ?_;have Xi:=Xh.set MA rp2 new ii;have kpi:=kph.upd (o:=.lst (us.set ii (.ref r2))) (q:=m) (.inr rfl);have nli:cA K (upd Hh m (.lst (us.set ii (.ref r2)))) ((0 - z:Int):Rat) (.ref lt):=(nl.same sfh).updL guh;have nbi:cA K (upd Hh m (.lst (us.set ii (.ref r2)))) ((z:Int):Rat) (.ref bt):=(nb.same sfh).updL guh;generalize upd Hh m (.lst (us.set ii (.ref r2)))=Hi at Xi kpi nli nbi ⊢;generalize us.set ii (.ref r2)=um at Xi;clear nb nl Xf kpf gu ru e1 e2 g1 p1 g2 p2 R1 R2 Xh kph guh rp2 sg sh sfh new;have gm:=Xi.gm;have lm:=Xi.lm;have gl:=Xi.gl;have nd:=Xi.nd;obtain ⟨nd1,nd2,nd3⟩:=c9.mp nd;exists xa gm gl (bc (bC (by lia))) λcl Hj sj nj gj=>?_
   have kpj:=kpi.same sj
   have rows:∀x∈um++vs,∀q,x=V.ref q->q≠cl:=λx hx q e y=>by
    obtain ⟨q',zs,_,e',_,g',_⟩:=(Xi.row x (ax.mpr (.inl hx))).at;rw[e] at e';cases e';rw[y,nj] at g';cases g'
   have Xj:=(Xi.same sj).weak (C':=λx y=>(x∈ws->Fr (μ x) W y)/\(x∈(um++vs).drop 0->Fr (μ x) (3*W) y)/\Fr (μ x) (9*W) y) λx _ y h=>⟨h.1,λ_=>h.2,h.2.mono (by lia)⟩
   have lj:cA K Hj ((0 - z:Int):Rat) (.ref lt):=nli.same sj;have bj:cA K Hj ((z:Int):Rat) (.ref bt):=nbi.same sj;clear Xi kpi nli nbi;refine ⟨_,rfl,⟨_,bE.of gj⟩,?_⟩;refine eX (K:=K) (a:=cl) (xs:=um++vs) (λs σ' H'=>∃x6:Option V,σ'=[some (.ref b),some (.ref m),some (.ref p),some (.ref l),some (.int n),some (.int t),some (.int ii),some (.int jj),some (.ref bt),some (.ref lt),x6]/\jy K A H' n (λx y=>(x∈ws->Fr (μ x) W y)/\(x∈(um++vs).drop s->Fr (μ x) (3*W) y)/\Fr (μ x) (9*W) y) m p l b q0 um ws vs/\gY A b m H H'/\H' cl=some (.lst (um++vs))/\cA K H' ((0 - z:Int):Rat) (.ref lt)/\cA K H' ((z:Int):Rat) (.ref bt)) ⟨_,rfl,Xj,kpj,gj,lj,bj⟩ (λs σ' H' _ ⟨_,_,_,_,e,_⟩=>bE.of e) ?_ ?_
   ·rintro s x σ' Hk hx ⟨y6,rfl,Xk,kpk,gk,lk,bk⟩;have hs:s < (um++vs).length:=(aB.mp hx).1;have mx:=au hx
    have xd:x∈(um++vs).drop s:=by
     rw[dY hs,(aB.mp hx).2];exact .head _
    have xd2:x∉(um++vs).drop (s+1):=λz=>by
     have:=nd1.sublist (List.drop_sublist s _);rw[dY hs,dS,(aB.mp hx).2] at this;exact this.1 z
    have xw:x∉ws:=λz=>nd3 x mx x z rfl
    have rx:=Xk.row x (ax.mpr (.inl mx));obtain ⟨q,zs,qs,rfl,aq,gq,lq,pq,lq2,cq⟩:=rx.at;have qcl:=rows _ mx q rfl;obtain ⟨vj,ej,nj'⟩:=BF pq (j:=jj) (by lia);obtain ⟨vi,ei,ni'⟩:=BF pq (j:=ii) (by lia);have cj:=(cq _ (getD_mem (xs:=qs) (i:=jj) (by lia))).2.1 xd;have ci:=(cq _ (getD_mem (xs:=qs) (i:=ii) (by lia))).2.1 xd;exists b9 (bE.of gq) ej ?_;exists b9 (bE.of gq) ei ?_;exists ⟨_,_,_,_,rfl,lk,ni',Dt (by lia),sz9 (by lia) ci,λr3 Hl sl n3=>?_⟩;exists ⟨_,_,_,_,rfl,nj'.same sl,n3,sz9 (by lia) cj,zi (by lia) ci (M0 _) (M1 _) (by lia),λr4 Hm sm n4=>?_⟩;have slm:=sl.trans sm;exists eN (slm _ _ gq) (fo (by lia)) rfl ?_;refine ⟨_,rfl,?_,(kpk.same slm).upd (.inl aq),by rw[bf qcl.symm];exact slm _ _ gk,(lk.same slm).updL (slm _ _ gq),(bk.same slm).updL (slm _ _ gq)⟩;refine ((Xk.same slm).weak λx' _ y h=>⟨h.1,λz=>h.2.1 ?_,h.2.2⟩).put MA aq (slm _ _ gq) n4 ⟨λz=>absurd z xw,λz=>absurd z xd2,?_⟩ jj
    ·rw[dY hs];exact .tail _ z
    ·exact (Ej (by lia) cj ci).mono (by lia)
   ·rintro σ' Hk ⟨y6,rfl,Xk,kpk,gk,lk,bk⟩;have gp:=Xk.gp;have Xk2:=Xk.weak (C':=λx y=>(x∈ws.drop 0->Fr (μ x) W y)/\Fr (μ x) (9*W) y) λx _ y h=>⟨λz=>h.1 (by simpa using z),h.2.2⟩
    clear Xk;exists ⟨⟨_,bE.of gp⟩,?_⟩;refine eX (K:=K) (a:=p) (xs:=ws) (λs σ' H'=>∃x6:Option V,σ'=[some (.ref b),some (.ref m),some (.ref p),some (.ref l),some (.int n),some (.int t),some (.int ii),some (.int jj),some (.ref bt),some (.ref lt),x6]/\jy K A H' n (λx y=>(x∈ws.drop s->Fr (μ x) W y)/\Fr (μ x) (9*W) y) m p l b q0 um ws vs/\gY A b m H H'/\cA K H' ((z:Int):Rat) (.ref bt)) ⟨_,rfl,Xk2,kpk,bk⟩ (λs σ' H' _ ⟨_,_,X,_⟩=>bE.of X.gp) ?_ ?_
    ·rintro s x σ' Hl hx ⟨w6,rfl,Xl,kpl,bl⟩;have hs:s < ws.length:=(aB.mp hx).1;have mx:=au hx
     have xd:x∈ws.drop s:=by
      rw[dY hs,(aB.mp hx).2];exact .head _
     have xd2:x∉ws.drop (s+1):=λz=>by
      have:=nd2.sublist (List.drop_sublist s _);rw[dY hs,dS,(aB.mp hx).2] at this;exact this.1 z
     have rx:=Xl.row x (ax.mpr (.inr mx));obtain ⟨q,zs,qs,rfl,aq,gq,lq,pq,lq2,cq⟩:=rx.at;obtain ⟨vj,ej,nj'⟩:=BF pq (j:=jj) (by lia);obtain ⟨vi,ei,ni'⟩:=BF pq (j:=ii) (by lia);have cj:=(cq _ (getD_mem (xs:=qs) (i:=jj) (by lia))).1 xd;have ci:=(cq _ (getD_mem (xs:=qs) (i:=ii) (by lia))).1 xd;exists b9 (bE.of gq) ei ?_;exists b9 (bE.of gq) ej ?_;exists ⟨_,_,_,_,rfl,bl,nj',Dt (by lia),sz9 (by lia) cj,λr3 Hm sm n3=>?_⟩;exists ⟨_,_,_,_,rfl,ni'.same sm,n3,sz9 (by lia) ci,zi (by lia) cj (M0 _) (M1 _) (by lia),λr4 Hn sn n4=>?_⟩;have smn:=sm.trans sn;exists eN (smn _ _ gq) (fo (by lia)) rfl ?_;refine ⟨_,rfl,?_,(kpl.same smn).upd (.inl aq),(bl.same smn).updL (smn _ _ gq)⟩;refine ((Xl.same smn).weak λx' _ y h=>⟨λz=>h.1 ?_,h.2⟩).put MA aq (smn _ _ gq) n4 ⟨λz=>absurd z xd2,?_⟩ ii
     ·rw[dY hs];exact .tail _ z
     ·exact (Ej (by lia) ci cj).mono (by lia)
    ·rintro σ' Hl ⟨w6,rfl,Xl,kpl,bl⟩;refine ⟨_,_,_,_,_,_,um,rfl,Xl.weak λ_ _ y h=>h.2.mono ?_,kpl⟩;rw[<- eW,gi,cH (9^t) 9,cK];exact aw _
  ·rintro σ' H' ⟨x1,x2,x3,x4,x5,x6,us',rfl,X,kp⟩;exists cD λr H2' s' g'=>?_
   exact done r us' H2' _ (by lia) g' (X.same s') (kp.same s')
theorem i5:aP ["_law_bag_here","_law_n","_law_move_here","_law_put","_law_look"] ["_law_bag_here"] (aH qR):=by walk_at "d"
theorem D7 (T:Txt K mg Z) (ptree:P.given.tree=none):cC P w K mg base eY 5 Z.yy Z.yd ["_law_bag_here"] (Nb K):=by
 have bu:=eT (P:=P) (w:=w) (base:=base) T ptree;have pG:=sR (P:=P) (w:=w) (base:=base) T ptree;refine T.o6.F.ok i5 (λvs H Q E h=>?_) (λcdv A outer s H vs Q E hr h=>?_)
 ·obtain ⟨b,rfl,_⟩:=h;rfl
 ·obtain ⟨b,rfl,hB,k⟩:=h
  refine ⟨_,(ar (a9 (i:=1) i5.nd rfl (Or.inr rfl) (bM fW ak (cJ bu hr T.bx (ae (pv 0) (ae ak aj)))))
   (ar (je 2 ["_law_i"] ["_law_n"] [1] i5.nd rfl rfl (cy rfl T.range (ae (pv 1) aj)) (λ_=>(aK (i:=0) (show ND9 ["_law_i","_law_n"] by decide +kernel) rfl (Or.inr rfl) (Or.inl rfl))) (λ_=>cB) (λ_=>(cv ["_law_j"] ["_law_i"] [0] (cy rfl T.range (ae (pv 1) aj)) (λ_=>(aK (i:=0) (show ND9 ["_law_j","_law_i"] by decide +kernel))) (λ_=>cB) (λ_=>(c8 (ae (eL nN (by rfl) T.int PyProof.Rows.boot_int (ae (jg eS (pv 0) (bM fW (pv 1) ak) (bB _)) aj)) (ae ak aj)))))))
   (ar (a9 (i:=3) i5.nd rfl (Or.inl rfl) (du (ae (cv ["_law_j"] ["_law_n"] [1] (cy rfl T.range (ae (pv 1) aj)) (λ_=>(aK (i:=0) (show ND9 ["_law_j","_law_n"] by decide +kernel))) (λ_=>cB) (λ_=>(c8 (ae (eL nN (by rfl) T.int PyProof.Rows.boot_int (ae (jg eS (pv 0) (bM lB (pv 1) ak) (bB _)) aj)) (ae ak aj))))) aj)))
   (ar (a9 (i:=4) i5.nd rfl (Or.inl rfl) (du (ae (cv ["_law_j"] [] [] (cy rfl T.range (ae (pv 1) aj)) (λ_=>(aK (i:=0) (show ND9 ["_law_j"] by decide +kernel))) (λ_=>cB) (λ_=>(c8 (ae (eL nN (by rfl) T.int PyProof.Rows.boot_int (ae (jg eS (pv 0) ak (bB _)) aj)) (ae ak aj))))) aj)))
   (ay (aN (cJ pG hr T.jX (ae (pv 0) (ae (pv 2) (ae (pv 3) (ae (pv 4) aj))))))))))),?_⟩
  refine aM (σ:=[some (.ref b),none,none,none,none]) rfl ?_;obtain ⟨q0,I0,xs0,gq0⟩:=hB.inner;exists ⟨b,3,rfl,hB,by decide,by decide,λt Ha t0 t1 Ba ua=>?_⟩;obtain ⟨t,rfl⟩:=cI t0;walk_at "w";obtain ⟨n,en,n6,n8⟩:∃n:Nat,(6:Int)+(t:Int)=(n:Int)/\6<=n/\n<=8:=⟨6+t,by lia,by lia,by lia⟩;rw[en];refine ⟨by lia,by lia,?_⟩;refine Ic (K:=K) (n:=n) (λ(i:Nat)=>(List.range n).map λ(j:Nat)=>(((if decide ((j:Int)=(i:Int)+1)=true then 1 else 0:Int)):Rat)) (by lia) ?_ ?_
  ·rintro i Hb NY NN hi sa k1;exists ⟨by lia,by lia,?_⟩;refine fR (n:=n) (cA K) (λ(j:Nat)=>(((if decide ((j:Int)=(i:Int)+1)=true then 1 else 0:Int)):Rat)) (by lia) (λa b=>a.same b) ?_ ?_
   ·rintro j Hz NY2 NN2 hj sz k2;exists cD λt Hy sy gy=>?_
    exact k2 _ _ sy (cA.mk gy rfl)
   ·rintro ys Hz t ht sz g pr nx;exact k1 _ _ sz ht ⟨ys,g,pr⟩
  rintro ys H1 mm hm s1 g1 nd1 pr1 nx1;exists ⟨by lia,by lia,?_⟩;refine fR (n:=n) (cA K) (λ(j:Nat)=>(((if decide ((j:Int)=(n:Int) - 1)=true then 1 else 0:Int)):Rat)) (by lia) (λa b=>a.same b) ?_ ?_
  ·rintro j Hz NY2 NN2 hj sz k2;exists cD λt Hy sy gy=>?_
   exact k2 _ _ sy (cA.mk gy rfl)
  rintro ys2 H2 q2 hq2 s2 g2 pr2 nx2;exists dd λp3 H3 s3 n3 g3=>?_
  have q23:q2≠p3:=λz=>by rw[z,n3] at g2;cases g2
  have hp3:H1 p3=none:=s2.none n3;exists ⟨by lia,by lia,?_⟩;refine fR (n:=n) (cA K) (λ(j:Nat)=>(((if decide ((j:Int)=0)=true then 1 else 0:Int)):Rat)) (by lia) (λa b=>a.same b) ?_ ?_
  ·rintro j Hz NY2 NN2 hj sz k2;exists cD λt Hy sy gy=>?_
   exact k2 _ _ sy (cA.mk gy rfl)
  rintro ys4 H4 q4 hq4 s4 g4 pr4 nx4;exists dd λp5 H5 s5 n5 g5=>?_
  have q45:q4≠p5:=λz=>by rw[z,n5] at g4;cases g4
  have hp5:H3 p5=none:=s4.none n5;have s35:=s4.trans s5;have s23:=s2.trans s3;have s15:=s23.trans s35;have s05:=s1.trans s15;have B5:=Ba.same s05;have hu:∀{q},Ha q=none->H q=none:=λh=>ua.none Ba h
  have hm0:H mm=none:=hu hm;have hp0:H p3=none:=hu (s1.none hp3);have hl0:H p5=none:=hu (s1.none (s23.none hp5));have mb:mm≠b:=λz=>Ba.at (by rw[<- z];exact hm)
  have pb:p3≠b:=λz=>hB.at (by rw[<- z];exact hp0)
  have lb:p5≠b:=λz=>hB.at (by rw[<- z];exact hl0)
  have g13:=s23 _ _ g1;have mp:mm≠p3:=λz=>by rw[z,hp3] at g1;cases g1
  have ml:mm≠p5:=λz=>by rw[z,hp5] at g13;cases g13
  have pl:p3≠p5:=λz=>by rw[z,hp5] at g3;cases g3
  have mq:mm≠q0:=λz=>Inner.at Ba (ua.2 _ I0) (by rw[<- z];exact hm)
  have g15:=s15 _ _ g1;have g35:=s35 _ _ g3;obtain ⟨A,eA⟩:∃A:Addr->Prop,A=λq=>H q=none/\q≠mm/\q≠p3/\q≠p5:=⟨_,rfl⟩
  have mkA:∀{q},H q=none->q≠mm->q≠p3->q≠p5->A q:=λh1 h2 h3 h4=>by rw[eA];exact ⟨h1,h2,h3,h4⟩
  have unA:∀{q},A q->H q=none/\q≠mm/\q≠p3/\q≠p5:=λh=>by rw[eA] at h;exact h
  have MA:F4 A mm p3 p5 b q0:=⟨λz=>(unA z).2.1 rfl,λz=>(unA z).2.2.1 rfl,λz=>(unA z).2.2.2 rfl,λz=>hB.at (unA z).1,(λz=>by have z1:=(unA z).1;rw[gq0] at z1;cases z1),mb,pb,lb,mp,ml,mq⟩;clear eA;have f01:∀{i:Int},i=0\/i=1->Fr 1 1 (i:Rat):=λh=>Rm h
  have R2:cL K H5 q2 _:=cL.same ⟨ys2,g2,pr2⟩ (s3.trans s35);have R4:cL K H5 q4 _:=cL.same ⟨ys4,g4,pr4⟩ s5;have g23:=s3 _ _ g2
  have ney:∀y∈ys,∃q,y=V.ref q/\H1 q≠none:=λy hy=>by
   obtain ⟨_,_,q,e,_,_,gg,_⟩:=dn pr1 hy;exact ⟨q,e,by rw[gg];exact λz=>nomatch z⟩
  have X5:jy K A H5 n (λ_=>Fr 1 1) mm p3 p5 b q0 ys [.ref q2] [.ref q4]:=by
   refine ⟨B5,(s05.upto (p:=b)).2 _ (ua.2 _ I0),g15,g35,g5,by rw[<- pr1.length,ah,cg],λx hx=>?_,?_⟩
   ·rcases ax.mp hx with hx | hx
    ·rcases ax.mp hx with hx | hx
     ·refine fL.same (G7 (A:=A) pr1 (λqs hq=>?_) (λq hq a b'=>?_) x hx) s15
      ·obtain ⟨i,_,rfl⟩:=az.mp hq;refine ⟨by rw[ah,cg],λy hy=>?_⟩;obtain ⟨j,_,rfl⟩:=az.mp hy;exact f01 (by split <;> simp)
      ·have b3:H3 q≠none:=λz=>b' (s23.none z)
       exact mkA (hu a) (λy=>nx1 (by rw[<- y];exact hq)) (λy=>b' (by rw[y];exact hp3)) (λy=>b3 (by rw[y];exact hp5))
     ·rw[cm.mp hx];refine ⟨q4,_,rfl,mkA (hu (s1.none (s23.none hq4))) (λy=>by rw[y,g13] at hq4;cases hq4) (λy=>by rw[y,g3] at hq4;cases hq4) q45,R4,by rw[ah,cg],λy hy=>?_⟩;obtain ⟨j,_,rfl⟩:=az.mp hy;exact f01 (by split <;> simp)
    ·rw[cm.mp hx];refine ⟨q2,_,rfl,mkA (hu (s1.none hq2)) (λy=>by rw[y,g1] at hq2;cases hq2) q23 (λy=>by rw[y,hp5] at g23;cases g23),R2,by rw[ah,cg],λy hy=>?_⟩;obtain ⟨j,_,rfl⟩:=az.mp hy;exact f01 (by split <;> simp)
   ·refine c9.mpr ⟨c9.mpr ⟨nd1,by simp,λa ha c hc z=>?_⟩,by simp,λa ha c hc z=>?_⟩
    ·rw[cm.mp hc] at z;obtain ⟨q,e,h⟩:=ney a ha;rw[z] at e;cases e;exact h (s23.none hq4)
    ·rw[cm.mp hc] at z;rcases ax.mp ha with ha | ha
     ·obtain ⟨q,e,h⟩:=ney a ha;rw[z] at e;cases e;exact h hq2
     ·rw[cm.mp ha] at z;cases z;rw[g23] at hq4;cases hq4
  clear pr1 nx1 pr2 nx2 pr4 nx4 R2 R4 g1 g2 g3 g4 g13 g23;exists ⟨b,mm,p3,p5,q0,n,1,λ_=>1,A,ys,[.ref q2],[.ref q4],rfl,MA,X5,n8,by simp,by simp,λ_=>Nat.zero_lt_one,λ_=>bW,⟨1,λ_ _ _=>rfl⟩,by decide,λq hq=>?_,λr us' H' g Y kp=>?_⟩
  ·exact mkA (hu (s05.none hq)) (λz=>by rw[z,g15] at hq;cases hq) (λz=>by rw[z,g35] at hq;cases hq) (λz=>by rw[z,g5] at hq;cases hq)
  ·obtain ⟨mv,Gm,lmv,hmv⟩:=jO (H0:=H) (n:=n) (C:=Fr 1 (9^3*1)) (m:=n) ⟨us',Y.gm,Y.lm,MA.am,λx hx=>Y.row x (by simp [hx])⟩ λq h=>(unA h).1
   obtain ⟨pt,Gp,lpt,hpt⟩:=jO (H0:=H) (n:=n) (C:=Fr 1 (9^3*1)) (m:=1) ⟨_,Y.gp,rfl,MA.ap,λx hx=>Y.row x (ax.mpr (.inr hx))⟩ λq h=>(unA h).1
   obtain ⟨lk,Gl,llk,hlk⟩:=jO (H0:=H) (n:=n) (C:=Fr 1 (9^3*1)) (m:=1) ⟨_,Y.gl,rfl,MA.al,λx hx=>Y.row x (ax.mpr (.inl (ax.mpr (.inr hx))))⟩ λq h=>(unA h).1
   refine k r mv pt lk H' ⟨mm,p3,p5,g,hm0,hp0,hl0,Gm,Gp,Gl⟩ (by lia) ⟨by lia,by lia,by lia,λxs hx=>by rw[(hmv xs hx).1,lmv],λxs hx=>by rw[(hpt xs hx).1,lmv],λxs hx=>by rw[(hlk xs hx).1,lmv]⟩ (λxs hx=>(hmv xs hx).2) (λxs hx=>(hpt xs hx).2) (λxs hx=>(hlk xs hx).2) Y.bag ⟨λc' u e n1=>kp c' u (s05 _ _ (ua.1 c' u e n1)) n1 (λz=>by have:=(unA z).1;rw[e] at this;cases this) (λz=>by rw[z,hm0] at e;cases e),λq h=>by rw[<- Inner.inj I0 h];exact Y.inn⟩
theorem BH:∃x1 x2 x3 x4 x5 x6 x7 x8 x9 x10 x11 x12 x13 x14 x15 x16:Expr,x1=(Expr.Constant (Const.int 0) 0 ⟨335,16,335,17⟩)/\x2=(Expr.Constant (Const.int 1) 0 ⟨335,19,335,20⟩)/\x3=(Expr.Constant (Const.int 1) 0 ⟨335,22,335,23⟩)/\x4=(Expr.Constant (Const.int 1) 0 ⟨335,25,335,26⟩)/\x5=(Expr.Constant (Const.int 2) 0 ⟨335,28,335,29⟩)/\x6=(Expr.Constant (Const.int 2) 0 ⟨335,31,335,32⟩)/\x7=(Expr.Constant (Const.int 3) 0 ⟨335,34,335,35⟩)/\x8=(Expr.Constant (Const.int 4) 0 ⟨335,37,335,38⟩)/\x9=(Expr.Constant (Const.int 0) 0 ⟨336,17,336,18⟩)/\x10=(Expr.Constant (Const.int 1) 0 ⟨336,20,336,21⟩)/\x11=(Expr.Constant (Const.int 1) 0 ⟨336,23,336,24⟩)/\x12=(Expr.Constant (Const.int 1) 0 ⟨336,26,336,27⟩)/\x13=(Expr.Constant (Const.int 2) 0 ⟨336,29,336,30⟩)/\x14=(Expr.Constant (Const.int 2) 0 ⟨336,32,336,33⟩)/\x15=(Expr.Constant (Const.int 3) 0 ⟨336,35,336,36⟩)/\x16=(Expr.Constant (Const.int 4) 0 ⟨336,38,336,39⟩)/\gW kD=[ (Stmt.Assign (targets:=[(Expr.Name "_law_n" ⟨332,4,332,10⟩)]) (value:=(Expr.Call (func:=(Expr.Name "_law_take" ⟨332,13,332,22⟩)) (args:=[ (Expr.Name "_law_bag_here" ⟨332,23,332,36⟩),(Expr.Constant (Const.int 5) 0 ⟨332,38,332,39⟩)]) (keywords:=[]) (pos:=⟨332,13,332,40⟩))) (pos:=⟨332,4,332,40⟩)),(Stmt.If (test:=(Expr.Compare (left:=(Expr.Call (func:=(Expr.Name "_law_take" ⟨333,7,333,16⟩)) (args:=[ (Expr.Name "_law_bag_here" ⟨333,17,333,30⟩),(Expr.Constant (Const.int 8) 0 ⟨333,32,333,33⟩)]) (keywords:=[]) (pos:=⟨333,7,333,34⟩))) (ops:=[PySem.CmpOp.Eq]) (comparators:=[(Expr.Constant (Const.int 7) 0 ⟨333,38,333,39⟩)]) (pos:=⟨333,7,333,39⟩))) (body:=[ (Stmt.Assign (targets:=[(Expr.Name "_law_n" ⟨334,8,334,14⟩)]) (value:=(Expr.Constant (Const.int 5) 0 ⟨334,17,334,18⟩)) (pos:=⟨334,8,334,18⟩))]) (orelse:=[]) (pos:=⟨333,4,334,18⟩)),(Stmt.Assign (targets:=[(Expr.Name "_law_ins" ⟨335,4,335,12⟩)]) (value:=(Expr.Subscript (value:=(Expr.List (elts:=[x1,x2,x3,x4,x5,x6,x7,x8]) (pos:=⟨335,15,335,39⟩))) (slice:=(Expr.Call (func:=(Expr.Name "_law_take" ⟨335,40,335,49⟩)) (args:=[ (Expr.Name "_law_bag_here" ⟨335,50,335,63⟩),(Expr.Constant (Const.int 8) 0 ⟨335,65,335,66⟩)]) (keywords:=[]) (pos:=⟨335,40,335,67⟩))) (pos:=⟨335,15,335,68⟩))) (pos:=⟨335,4,335,68⟩)),(Stmt.Assign (targets:=[(Expr.Name "_law_outs" ⟨336,4,336,13⟩)]) (value:=(Expr.Subscript (value:=(Expr.List (elts:=[x9,x10,x11,x12,x13,x14,x15,x16]) (pos:=⟨336,16,336,40⟩))) (slice:=(Expr.Call (func:=(Expr.Name "_law_take" ⟨336,41,336,50⟩)) (args:=[ (Expr.Name "_law_bag_here" ⟨336,51,336,64⟩),(Expr.Constant (Const.int 8) 0 ⟨336,66,336,67⟩)]) (keywords:=[]) (pos:=⟨336,41,336,68⟩))) (pos:=⟨336,16,336,69⟩))) (pos:=⟨336,4,336,69⟩)),(Stmt.If (test:=(Expr.Compare (left:=(Expr.Name "_law_n" ⟨337,7,337,13⟩)) (ops:=[PySem.CmpOp.Eq]) (comparators:=[(Expr.Constant (Const.int 5) 0 ⟨337,17,337,18⟩)]) (pos:=⟨337,7,337,18⟩))) (body:=[ (Stmt.Assign (targets:=[ (Expr.Tuple (elts:=[(Expr.Name "_law_ins" ⟨338,8,338,16⟩),(Expr.Name "_law_outs" ⟨338,18,338,27⟩)]) (k:=0) (pos:=⟨338,8,338,27⟩))]) (value:=(Expr.Tuple (elts:=[ (Expr.Call (func:=(Expr.Name "min" ⟨338,31,338,34⟩)) (args:=[ (Expr.Name "_law_ins" ⟨338,35,338,43⟩),(Expr.Constant (Const.int 2) 0 ⟨338,45,338,46⟩)]) (keywords:=[]) (pos:=⟨338,31,338,47⟩)),(Expr.Call (func:=(Expr.Name "min" ⟨338,49,338,52⟩)) (args:=[ (Expr.Name "_law_outs" ⟨338,53,338,62⟩),(Expr.Constant (Const.int 2) 0 ⟨338,64,338,65⟩)]) (keywords:=[]) (pos:=⟨338,49,338,66⟩))]) (k:=0) (pos:=⟨338,30,338,67⟩))) (pos:=⟨338,8,338,67⟩))]) (orelse:=[]) (pos:=⟨337,4,338,67⟩)),(Stmt.Assign (targets:=[(Expr.Name "_law_wide" ⟨339,4,339,13⟩)]) (value:=(Expr.Subscript (value:=(Expr.List (elts:=[ (Expr.Constant (Const.int 4) 0 ⟨339,17,339,18⟩),(Expr.Constant (Const.int 4) 0 ⟨339,20,339,21⟩),(Expr.Constant (Const.int 9) 0 ⟨339,23,339,24⟩),(Expr.Constant (Const.int 1000000) 0 ⟨339,26,339,33⟩)]) (pos:=⟨339,16,339,34⟩))) (slice:=(Expr.Call (func:=(Expr.Name "_law_take" ⟨339,35,339,44⟩)) (args:=[ (Expr.Name "_law_bag_here" ⟨339,45,339,58⟩),(Expr.Constant (Const.int 4) 0 ⟨339,60,339,61⟩)]) (keywords:=[]) (pos:=⟨339,35,339,62⟩))) (pos:=⟨339,16,339,63⟩))) (pos:=⟨339,4,339,63⟩)),(Stmt.If (test:=(Expr.Compare (left:=(Expr.Name "_law_wide" ⟨340,7,340,16⟩)) (ops:=[PySem.CmpOp.Gt]) (comparators:=[(Expr.Constant (Const.int 9) 0 ⟨340,19,340,20⟩)]) (pos:=⟨340,7,340,20⟩))) (body:=[ (Stmt.Assign (targets:=[(Expr.Name "_law_n" ⟨341,8,341,14⟩)]) (value:=(Expr.Call (func:=(Expr.Name "min" ⟨341,17,341,20⟩)) (args:=[ (Expr.Name "_law_n" ⟨341,21,341,27⟩),(Expr.Constant (Const.int 2) 0 ⟨341,29,341,30⟩)]) (keywords:=[]) (pos:=⟨341,17,341,31⟩))) (pos:=⟨341,8,341,31⟩))]) (orelse:=[]) (pos:=⟨340,4,341,31⟩)),(Stmt.Return (value:=(some (Expr.Tuple (elts:=[ (Expr.Name "_law_n" ⟨342,12,342,18⟩),(Expr.Name "_law_ins" ⟨342,20,342,28⟩),(Expr.Name "_law_outs" ⟨342,30,342,39⟩),(Expr.Name "_law_wide" ⟨342,41,342,50⟩)]) (k:=0) (pos:=⟨342,11,342,51⟩)))) (pos:=⟨342,4,342,51⟩))]:=⟨_,_,_,_,_,_,_,_,_,_,_,_,_,_,_,_,rfl,rfl,rfl,rfl,rfl,rfl,rfl,rfl,rfl,rfl,rfl,rfl,rfl,rfl,rfl,rfl,by with_unfolding_all rfl⟩
theorem dZ:aP ["_law_bag_here","_law_n","_law_ins","_law_outs","_law_wide"] ["_law_bag_here"] (aH kD):=by walk_at "d"
theorem By (T:Txt K mg Z) (ptree:P.given.tree=none):cC P w K mg base eY 2 Z.vU Z.vD ["_law_bag_here"] JG:=by
 have bu:=eT (P:=P) (w:=w) (base:=base) T ptree;refine T.m3.F.ok dZ (λvs H Q E h=>?_) (λcdv A outer s H vs Q E hr h=>?_)
 ·obtain ⟨b,rfl,_⟩:=h;rfl
 ·obtain ⟨b,rfl,hB,k⟩:=h;obtain ⟨x1,x2,x3,x4,x5,x6,x7,x8,x9,x10,x11,x12,x13,x14,x15,x16,hx1,hx2,hx3,hx4,hx5,hx6,hx7,hx8,hx9,hx10,hx11,hx12,hx13,hx14,hx15,hx16,hbd⟩:=BH;rw[hbd]
  refine ⟨_,(ar (a9 (i:=1) dZ.nd rfl (Or.inl rfl) (cJ bu hr T.bx (ae (pv 0) (ae ak aj))))
   (iK (cY (be eS (cJ bu hr T.bx (ae (pv 0) (ae ak aj))) ak (bB _)) (ay (a9 (i:=1) dZ.nd rfl (Or.inl rfl) ak)) bQ)
   (ar (a9 (i:=2) dZ.nd rfl (Or.inl rfl) (aW bL (du (dR hx1 ak (dR hx2 ak (dR hx3 ak (dR hx4 ak (dR hx5 ak (dR hx6 ak (dR hx7 ak (dR hx8 ak aj))))))))) (cJ bu hr T.bx (ae (pv 0) (ae ak aj)))))
   (ar (a9 (i:=3) dZ.nd rfl (Or.inl rfl) (aW bL (du (dR hx9 ak (dR hx10 ak (dR hx11 ak (dR hx12 ak (dR hx13 ak (dR hx14 ak (dR hx15 ak (dR hx16 ak aj))))))))) (cJ bu hr T.bx (ae (pv 0) (ae ak aj)))))
   (iK (cY (be eS (pv 1) ak (bB _)) (ay (Lq (i:=2) (j:=3) rfl dZ.nd rfl rfl (by decide) rfl rfl (ae (bF (sv rfl) (by rfl) T.min PyProof.Rows.boot_min (ae (pv 2) (ae ak aj))) (ae (bF (sv rfl) (by rfl) T.min PyProof.Rows.boot_min (ae (pv 3) (ae ak aj))) aj)) rfl)) bQ)
   (ar (a9 (i:=4) dZ.nd rfl (Or.inl rfl) (aW bL (du (ae ak (ae ak (ae ak (ae ak aj))))) (cJ bu hr T.bx (ae (pv 0) (ae ak aj)))))
   (iK (cY (be qZ (pv 4) ak (bB _)) (ay (a9 (i:=1) dZ.nd rfl (Or.inl rfl) (bF (sv rfl) (by rfl) T.min PyProof.Rows.boot_min (ae (pv 1) (ae ak aj))))) bQ)
   (ay (aN (c8 (ae (pv 1) (ae (pv 2) (ae (pv 3) (ae (pv 4) aj)))))))))))))),?_⟩
  refine aM (σ:=[some (.ref b),none,none,none,none]) rfl ?_;exists ⟨b,5,rfl,hB,by decide,by decide,λn H1 n0 n1 B1 u1=>?_⟩;obtain ⟨n,rfl⟩:=cI n0;exists ⟨λσ' H'=>(∃n:Nat,σ'=[some (.ref b),some (.int n),none,none,none]/\n<=5)/\ib H' b/\c6 b H H',?_,?_⟩
  ·exists ⟨b,8,rfl,B1,by decide,by decide,λv H2 v0 v1 B2 u2=>?_⟩;exists gR (λ_=>?_) (λ_=>?_)
   ·exists ⟨⟨5,rfl,by decide⟩,B2,u1.trans u2⟩
   ·exists ⟨⟨n,rfl,by lia⟩,B2,u1.trans u2⟩
  clear n0 n1 u1 B1;rintro σ' H1 ⟨⟨n,rfl,n5⟩,B1,u1⟩;exists dd λl0 H2 s2 n2 g2=>?_
  exists ⟨b,8,rfl,B1.same s2,by decide,by decide,λv H3 v0 v1 B3 u3=>?_⟩;have g3:=u3.other (λz=>B1.at (by rw[<- z];exact n2)) g2;obtain ⟨x,ex,mx,_⟩:=nQ (xs:=[V.int 0,V.int 1,V.int 1,V.int 1,V.int 2,V.int 2,V.int 3,V.int 4]) v0 (by simpa using v1)
  obtain ⟨i,rfl,hi⟩:∃z:Nat,x=.int z/\z<=4:=by
   simp only[aG,br,or_false] at mx;rcases mx with rfl | rfl | rfl | rfl | rfl | rfl | rfl | rfl
   ·exact ⟨0,rfl,by decide⟩
   ·exact ⟨1,rfl,by decide⟩
   ·exact ⟨1,rfl,by decide⟩
   ·exact ⟨1,rfl,by decide⟩
   ·exact ⟨2,rfl,by decide⟩
   ·exact ⟨2,rfl,by decide⟩
   ·exact ⟨3,rfl,by decide⟩
   ·exact ⟨4,rfl,by decide⟩
  exists b9 (bE.of g3) ex ?_;clear ex mx g3 g2;exists dd λl1 H4 s4 n4 g4=>?_
  exists ⟨b,8,rfl,B3.same s4,by decide,by decide,λt H5 t0 t1 B5 u5=>?_⟩;have g5:=u5.other (λz=>B3.at (by rw[<- z];exact n4)) g4;obtain ⟨x,ex,mx,_⟩:=nQ (xs:=[V.int 0,V.int 1,V.int 1,V.int 1,V.int 2,V.int 2,V.int 3,V.int 4]) t0 (by simpa using t1)
  obtain ⟨o,rfl,ho⟩:∃z:Nat,x=.int z/\z<=4:=by
   simp only[aG,br,or_false] at mx;rcases mx with rfl | rfl | rfl | rfl | rfl | rfl | rfl | rfl
   ·exact ⟨0,rfl,by decide⟩
   ·exact ⟨1,rfl,by decide⟩
   ·exact ⟨1,rfl,by decide⟩
   ·exact ⟨1,rfl,by decide⟩
   ·exact ⟨2,rfl,by decide⟩
   ·exact ⟨2,rfl,by decide⟩
   ·exact ⟨3,rfl,by decide⟩
   ·exact ⟨4,rfl,by decide⟩
  exists b9 (bE.of g5) ex ?_;clear ex mx g5 g4;have u15:=(((u1.same s2).trans u3).same s4).trans u5;exists ⟨λσ' H'=>(∃i o:Nat,σ'=[some (.ref b),some (.int n),some (.int i),some (.int o),none]/\i<=4/\o<=4/\(n=5->i<=2/\o<=2))/\ib H' b/\c6 b H H',?_,?_⟩
  ·exists gR (λh0=>?_) (λh0=>?_)
   ·exists ⟨⟨min i 2,min o 2,?_,by lia,by lia,λ_=>⟨by lia,by lia⟩⟩,B5,u15⟩;have e1:(if (2:Int) < (i:Int) then (2:Int) else (i:Int))=((min i 2:Nat):Int):=by split <;> lia
    have e2:(if (2:Int) < (o:Int) then (2:Int) else (o:Int))=((min o 2:Nat):Int):=by split <;> lia
    rw[<- e1,<- e2];rfl
   ·exists ⟨⟨i,o,rfl,hi,ho,λz=>absurd (decide_eq_true (show (n:Int)=5 by lia)) h0⟩,B5,u15⟩
  clear hi ho u15 B5 u5 u3 u1;rintro σ' H5 ⟨⟨i,o,rfl,hi,ho,h5⟩,B5,u5⟩;exists dd λl2 H6 s6 n6 g6=>?_
  exists ⟨b,4,rfl,B5.same s6,by decide,by decide,λv H7 v0 v1 B7 u7=>?_⟩;have g7:=u7.other (λz=>B5.at (by rw[<- z];exact n6)) g6;obtain ⟨x,ex,mx,_⟩:=nQ (xs:=[V.int 4,V.int 4,V.int 9,V.int 1000000]) v0 (by simpa using v1)
  obtain ⟨w,rfl,hw⟩:∃w:Nat,x=.int w/\(w=4\/w=9\/w=1000000):=by
   simp only[aG,br,or_false] at mx;rcases mx with rfl | rfl | rfl | rfl
   ·exact ⟨4,rfl,.inl rfl⟩
   ·exact ⟨4,rfl,.inl rfl⟩
   ·exact ⟨9,rfl,.inr (.inl rfl)⟩
   ·exact ⟨1000000,rfl,.inr (.inr rfl)⟩
  exists b9 (bE.of g7) ex ?_;have u07:=(u5.same s6).trans u7;exists ⟨λσ' H'=>(∃n:Nat,σ'=[some (.ref b),some (.int n),some (.int i),some (.int o),some (.int w)]/\n<=5/\(w=4\/w=9\/(w=1000000/\n<=2))/\(n=5->i<=2/\o<=2))/\ib H' b/\c6 b H H',?_,?_⟩
  ·exists gR (λh0=>?_) (λh0=>?_)
   ·exists ⟨⟨min n 2,?_,by lia,by lia,λz=>by lia⟩,B7,u07⟩;have e1:(if (2:Int) < (n:Int) then (2:Int) else (n:Int))=((min n 2:Nat):Int):=by split <;> lia
    rw[<- e1];rfl
   ·exists ⟨⟨n,rfl,n5,?_,h5⟩,B7,u07⟩;rcases hw with z | z | z
    ·exact .inl z
    ·exact .inr (.inl z)
    ·exact absurd (decide_eq_true (show (9:Int) < (w:Int) by lia)) h0
  ·clear h5 n5;rintro σ' H8 ⟨⟨n',rfl,n5,hwn,h5⟩,B8,u8⟩;exists cD λr H9 s9 g9=>?_
   exact k r n' i o w H9 g9 n5 hi ho hwn h5 (B8.same s9) (u8.same s9)
theorem qC:aP ["_law_bag_here","_law_wide","_law_way"] ["_law_bag_here","_law_wide"] (aH mO):=by walk_at "d"
theorem Am (T:Txt K mg Z) (ptree:P.given.tree=none):cC P w K mg base eY 2 Z.tO Z.tj ["_law_bag_here","_law_wide"] (zD K):=by
 have bu:=eT (P:=P) (w:=w) (base:=base) T ptree;have dA:=iL (P:=P) (w:=w) (base:=base) T ptree;refine T.lO.F.ok qC (λvs H Q E h=>?_) (λcdv A outer s H vs Q E hr h=>?_)
 ·obtain ⟨b,w,rfl,_⟩:=h;rfl
 ·obtain ⟨b,w,rfl,hB,w0,w1,k⟩:=h
  refine ⟨_,(ar (a9 (i:=2) qC.nd rfl (Or.inl rfl) (cJ bu hr T.bx (ae (pv 0) (ae ak aj))))
   (ar (cY (be pM (pv 2) ak (bB _)) (ay (aN (c8 (ae ak (ae ak aj))))) bQ)
   (ar (cY (be pM (pv 2) ak (bB _)) (ay (aN (c8 (ae (bM lB (cJ bu hr T.bx (ae (pv 0) (ae ak aj))) ak) (ae ak aj))))) bQ)
   (ar (cY (be eS (pv 2) ak (bB _)) (ay (aN (cJ dA hr T.d4 (ae (bM lB (cJ bu hr T.bx (ae (pv 0) (ae ak aj))) ak) (ae (bM fW ak (cJ bu hr T.bx (ae (pv 0) (ae ak aj)))) aj))))) bQ)
   (ay (aN (cJ dA hr T.d4 (ae (bM lB (cJ bu hr T.bx (ae (pv 0) (ae (bM fW (bM c5 ak (pv 1)) ak) aj))) (pv 1)) (ae (bM fW ak (cJ bu hr T.bx (ae (pv 0) (ae (pv 1) aj)))) aj))))))))),?_⟩
  refine aM (σ:=[some (.ref b),some (.int w),none]) rfl ?_;exists ⟨b,8,rfl,hB,by decide,by decide,λv H1 v0 v1 B1 u1=>?_⟩;exists gR (λh0=>?_) (λh0=>?_)
  ·exists cD λr H2 s2 g2=>?_
   exact k r 0 _ ⟨aZ _,by show 1<=_;lia⟩ (cA.mk g2 rfl) (B1.same s2) (u1.same s2)
  exists gR (λh1=>?_) (λh1=>?_)
  ·exists ⟨b,7,rfl,B1,by decide,by decide,λa H2 a0 a1 B2 u2=>?_⟩;exists cD λr H3 s3 g3=>?_
   exact k r ((a - 3:Int):Rat) _ ⟨by show (a - 3).natAbs<=_;lia,by show 1<=_;lia⟩ (cA.mk g3 rfl) (B2.same s3) ((u1.trans u2).same s3)
  exists gR (λh2=>?_) (λh2=>?_)
  ·exists ⟨b,13,rfl,B1,by decide,by decide,λa H2 a0 a1 B2 u2=>?_⟩;exists ⟨b,6,rfl,B2,by decide,by decide,λc H3 c0 c1 B3 u3=>?_⟩;exists ⟨_,_,rfl,by lia,(K3 (by lia)).mono (by decide),λr H4 s4 g4=>?_⟩;obtain ⟨q,e,d,_⟩:=LR (t:=a - 6) (b:=1+c) (W:=max w 6) (by lia) (by lia) (by lia);exact k r q _ d (cA.mk g4 e) (B3.same s4) (((u1.trans u2).trans u3).same s4)
  exists ⟨b,_,rfl,B1,by lia,by lia,λa H2 a0 a1 B2 u2=>?_⟩;exists ⟨b,_,rfl,B2,by lia,by lia,λc H3 c0 c1 B3 u3=>?_⟩;exists ⟨_,_,rfl,by lia,(K3 (by lia)).mono (by decide),λr H4 s4 g4=>?_⟩;obtain ⟨q,e,d,_⟩:=LR (t:=a - w) (b:=1+c) (W:=max w 6) (by lia) (by lia) (by lia);exact k r q _ d (cA.mk g4 e) (B3.same s4) (((u1.trans u2).trans u3).same s4)
theorem Fi:aP ["_law_bag_here","_law_many","_law_wide"] ["_law_bag_here","_law_many","_law_wide"] (aH uc):=by walk_at "d"
theorem me (T:Txt K mg Z) (ptree:P.given.tree=none):cC P w K mg base eY 3 Z.A3 Z.AQ ["_law_bag_here","_law_many","_law_wide"] (Fb K):=by
 have BP:=Am (P:=P) (w:=w) (base:=base) T ptree;refine T.gQ.F.ok Fi (λvs H Q E h=>?_) (λcdv A outer s H vs Q E hr h=>?_)
 ·obtain ⟨b,m,w,rfl,_⟩:=h;rfl
 ·obtain ⟨b,m,w,rfl,hB,hm,w0,w1,k⟩:=h;refine ⟨_,(ay (aN (cv ["_law_k"] ["_law_bag_here","_law_wide"] [0,2] (cy rfl T.range (ae (pv 1) aj)) (λ_=>(aK (i:=0) (show ND9 ["_law_k","_law_bag_here","_law_wide"] by decide +kernel))) (λ_=>cB) (λ_=>(cJ BP hr T.lO (ae (pv 1) (ae (pv 2) aj))))))),?_⟩;refine aM (σ:=[some (.ref b),some (.int m),some (.int w)]) rfl ?_;exists ⟨by lia,by lia,?_⟩;refine CU (n:=m) (cA K) (Dr (max w 6)) hB hm (λa u B=>a.upto u B) ?_ ?_
  ·rintro i H' NY NN hi u B k1;exists ⟨b,w,rfl,B,w0,w1,λr x H2 hx h2 B2 u2=>k1 _ x _ u2 B2 hx h2⟩
  ·rintro ys cs H' p hp u B g lc hc pr nx;exact k p cs H' hp ⟨ys,g,pr⟩ lc hc B u
theorem iZ:aP ["_law_bag_here","_law_n","_law_way","_law_first","_law_wide","_law_move_here","_law_i","_law_row_here","_law_j"] ["_law_bag_here","_law_n","_law_way","_law_first","_law_wide"] (aH qQ):=by walk_at "d"
theorem D6 (T:Txt K mg Z) (ptree:P.given.tree=none):cC P w K mg base eY 4 Z.yx Z.yc ["_law_bag_here","_law_n","_law_way","_law_first","_law_wide"] (E4 K):=by
 have gU:=me (P:=P) (w:=w) (base:=base) T ptree;have bu:=eT (P:=P) (w:=w) (base:=base) T ptree;refine T.o5.F.ok iZ (λvs H Q E h=>?_) (λcdv A outer s H vs Q E hr h=>?_)
 ·obtain ⟨b,n,w,way,first,rfl,_⟩:=h;rfl
 ·obtain ⟨b,n,w,way,first,rfl,hB,n8,w0,w1,k⟩:=h
  refine ⟨_,(ar (a9 (i:=5) iZ.nd rfl (Or.inl rfl) (du aj))
   (ar (df PassesOwn.never rfl (cy rfl T.range (ae (pv 1) aj)) (aK (i:=6) iZ.nd)
    (ar (a9 (i:=7) iZ.nd rfl (Or.inl rfl) (cJ gU hr T.gQ (ae (pv 0) (ae (pv 1) (ae (pv 4) aj)))))
   (ar (df PassesOwn.never rfl (cy rfl T.range (ae (pv 1) aj)) (aK (i:=8) iZ.nd)
    (iK (cY (PW.pt (jc (be eS (pv 2) ak (bB _)) (jV (be qZ (cJ bu hr T.bx (ae (pv 0) (ae ak aj))) ak (bB _))))) (ay (eI (c8 (ae ak (ae ak aj))) (gK (pv 7) (pv 8) set_list))) bQ)
   (iK (cY (PW.pt (jc (be eS (pv 2) ak (bB _)) (jV (be pM (bM fW (pv 6) ak) (pv 1) (bB _))))) (ay (eI (c8 (ae (eL nN (by rfl) T.int PyProof.Rows.boot_int (ae (jg eS (pv 8) (bM fW (pv 6) ak) (bB _)) aj)) (ae ak aj))) (gK (pv 7) (pv 8) set_list))) bQ)
   (iK (cY (PW.pt (ky (PW.pt (jc (be eS (pv 2) ak (bB _)) (jc (be Cs (pv 6) (pv 3) (bB _)) (jV (be pM (pv 8) (pv 3) (bB _)))))) (jb (PW.pt (jc (be eS (pv 2) ak (bB _)) (jc (be pM (pv 6) (pv 3) (bB _)) (jV (be Cs (pv 8) (pv 3) (bB _))))))))) (ay (eI (c8 (ae ak (ae ak aj))) (gK (pv 7) (pv 8) set_list))) bQ)
   (ay (cY (be eS (pv 2) ak (bB _)) (ay (eI (c8 (ae (bM c5 (aW bL (du (ae ak (ae ak (ae (uR oi ak) (ae ak aj))))) (bM mT (pv 3) ak)) (eL nN (by rfl) T.int PyProof.Rows.boot_int (ae (jg eS (pv 6) (pv 8) (bB _)) aj))) (ae ak aj))) (gK (pv 7) (pv 8) set_list))) bQ))))))
   (ay (eO (ma bN cx cw fA (pv 5) (ae (pv 7) aj)))))))
   (ay (aN (pv 5))))),?_⟩
  refine aM (σ:=[some (.ref b),some (.int n),some (.int way),some (.int first),some (.int w),none,none,none,none]) rfl ?_;have W1:1<=max w 6:=by lia
  exists dd λr H1 s1 n1 g1=>?_
  have rb:r≠b:=λz=>hB.at (by rw[<- z];exact n1)
  obtain ⟨q0,I0,xs0,gq0⟩:=hB.inner;have I1:Inner H1 b q0:=(s1.upto (p:=b)).2 _ I0;obtain ⟨A,eA⟩:∃A:Addr->Prop,A=λq=>H q=none/\q≠r:=⟨_,rfl⟩
  have nb:¬A b:=by rw[eA];exact λz=>hB.at z.1
  have nr:¬A r:=by rw[eA];exact λz=>z.2 rfl
  have nq:¬A q0:=by rw[eA];exact λz=>by have z1:=z.1;rw[gq0] at z1;cases z1
  have rq:r≠q0:=λz=>by rw[<- z,n1] at gq0;cases gq0
  exists ⟨by lia,by lia,?_⟩;refine eF (n:=n) (λi σ' H'=>∃(x1 x2 x3:Option V) (us:List V),σ'=[some (.ref b),some (.int n),some (.int way),some (.int first),some (.int w),some (.ref r),x1,x2,x3]/\H' r=some (.lst us)/\us.length=i/\us.Nodup/\(∀x∈us,fL K A H' n (Dr (max w 6)) x)/\ib H' b/\Inner H' b q0/\c6 b H H') ⟨none,none,none,[],rfl,g1,rfl,Dl,(λ_ z=>nomatch z),hB.same s1,I1,s1.upto⟩ ?_ ?_
  ·rintro i σ' H' hi ⟨x1,x2,x3,us,rfl,gu,lu,nd,ru,B',I',u'⟩;exists ⟨b,n,w,rfl,B',by lia,w0,w1,λp xs Ha np Ra la da Ba ua=>?_⟩;have hp0:H p=none:=u'.none B' np
   have pn:V.ref p∉us:=λz=>by
    obtain ⟨q',_,_,e',_,g',_⟩:=(ru _ z).at;cases e';rw[np] at g';cases g'
   have ap':H p=none/\p≠r:=⟨hp0,λz=>by rw[z,gu] at np;cases np⟩;have ap:A p:=by rw[eA];exact ap'
   have X0:Jx K A n (Dr (max w 6)) r p b q0 us H Ha:=⟨ua.other rb gu,λx hx=>(ru x hx).upto ua B' nb,⟨p,xs,rfl,ap,Ra,la,da⟩,Ba,ua.2 _ I',u'.trans ua⟩;clear ru Ra gu;exists ⟨by lia,by lia,?_⟩;refine eF (n:=n) (λj σ' H'=>(∃x3,σ'=[some (.ref b),some (.int n),some (.int way),some (.int first),some (.int w),some (.ref r),some (.int i),some (.ref p),x3])/\Jx K A n (Dr (max w 6)) r p b q0 us H H') ⟨⟨_,rfl⟩,X0⟩ ?_ ?_
   ·rintro j σ' Hj hj ⟨⟨x3,rfl⟩,X⟩;exists ⟨λσ' H'=>σ'=[some (.ref b),some (.int n),some (.int way),some (.int first),some (.int w),some (.ref r),some (.int i),some (.ref p),some (.int j)]/\Jx K A n (Dr (max w 6)) r p b q0 us H H',?_,?_⟩
    ·exists gR (λ_=>?_) (λ_=>?_)
     ·exists ⟨b,3,rfl,X.bag,by decide,by decide,λd Hd d0 d1 Bd ud=>?_⟩;replace X:=X.upto ud Bd nb rb
      repeat' (first | walk_at "rd" | refine gR (λ_=>?_) (λ_=>?_))
      all_goals first
       | exact ⟨rfl,X⟩
       | (refine cD λt Hb sb gb=>?_;walk_at "w";obtain ⟨zs,gz,lz,Xz⟩:=(X.same sb).put ap nr nb nq hp0 (cA.mk (q:=0) gb rfl) (rJ (i:=0) (aZ _) W1) j;refine eN gz (fo (by lia)) rfl ?_;exact ⟨rfl,Xz⟩)
     ·exists ⟨rfl,X⟩
    clear X;rintro σ' Hj ⟨rfl,X⟩;refine ⟨λσ' H'=>σ'=[some (.ref b),some (.int n),some (.int way),some (.int first),some (.int w),some (.ref r),some (.int i),some (.ref p),some (.int j)]/\Jx K A n (Dr (max w 6)) r p b q0 us H H',?_,?_⟩
    ·repeat' (first | walk_at "rd" | refine gR (λ_=>?_) (λ_=>?_))
     all_goals first
      | exact ⟨rfl,X⟩
      | (refine cD λt Hb sb gb=>?_;walk_at "w";obtain ⟨zs,gz,lz,Xz⟩:=(X.same sb).put ap nr nb nq hp0 (cA.mk (q:=((if decide ((j:Int)=(i:Int)+1)=true then (1:Int) else 0:Int):Rat)) gb rfl) (rJ (by split <;> lia) W1) j;refine eN gz (fo (by lia)) rfl ?_;exact ⟨rfl,Xz⟩)
    clear X;rintro σ' Hj ⟨rfl,X⟩;refine ⟨λσ' H'=>σ'=[some (.ref b),some (.int n),some (.int way),some (.int first),some (.int w),some (.ref r),some (.int i),some (.ref p),some (.int j)]/\Jx K A n (Dr (max w 6)) r p b q0 us H H',?_,?_⟩
    ·repeat' (first | walk_at "rd" | refine gR (λ_=>?_) (λ_=>?_))
     all_goals first
      | exact ⟨rfl,X⟩
      | (refine cD λt Hb sb gb=>?_;walk_at "w";obtain ⟨zs,gz,lz,Xz⟩:=(X.same sb).put ap nr nb nq hp0 (cA.mk (q:=0) gb rfl) (rJ (i:=0) (aZ _) W1) j;refine eN gz (fo (by lia)) rfl ?_;exact ⟨rfl,Xz⟩)
    clear X;rintro σ' Hj ⟨rfl,X⟩;exists gR (λ_=>?_) (λ_=>?_)
    ·exists dd λl0 Hc sc nc gc=>?_
     walk_at "w";obtain ⟨x,ex,mx,_⟩:=nQ (xs:=[V.int 2,V.int 1,V.int (-1),V.int 0]) (i:=first % 4) (kN _ (by decide)) (by have:=iC first (show (0:Int) < 4 by decide);simpa using this)
     obtain ⟨z,rfl,hz⟩:∃z:Int,x=.int z/\z.natAbs<=2:=by
      simp only[aG,br,or_false] at mx;rcases mx with rfl | rfl | rfl | rfl
      ·exact ⟨2,rfl,by decide⟩
      ·exact ⟨1,rfl,by decide⟩
      ·exact ⟨-1,rfl,by decide⟩
      ·exact ⟨0,rfl,by decide⟩
     refine b9 (bE.of gc) ex ?_;exists fj (Jl (by lia) (by lia)) ?_;exists cD λt Hb sb gb=>?_
     walk_at "w";obtain ⟨zs,gz,lz,Xz⟩:=((X.same sc).same sb).put ap nr nb nq hp0 (cA.mk (q:=((z*(if decide ((i:Int)=(j:Int))=true then (1:Int) else 0):Int):Rat)) gb rfl) (rJ (by split <;> lia) W1) j;refine eN gz (fo (by lia)) rfl ?_;exact ⟨⟨_,rfl⟩,Xz⟩
    ·exists ⟨⟨_,rfl⟩,X⟩
   ·rintro σ' Hj ⟨⟨x3,rfl⟩,X⟩;exists ⟨.inl ⟨rfl,_,bE.of X.gr⟩,?_⟩;exists fz X.gr (bC (by lia)) ?_;refine ⟨_,_,_,us++[.ref p],rfl,aE,by simp [lu],Ao nd pn,λx hx=>?_,X.bag.upd X.inn rb rq,X.inn.upd rb,X.up.after n1⟩;rcases ax.mp hx with hx | hx
    ·exact (X.ru x hx).other X.gr nr
    ·have e:x=V.ref p:=by simpa using hx
     rw[e];exact X.rp.other X.gr nr
  ·rintro σ' H' ⟨x1,x2,x3,us,rfl,gu,lu,nd,ru,B',I',u'⟩;exists k r us H' n1 gu lu nd (by rw[eA] at ru;exact ru) B' u'
theorem dE:aP ["_law_bag_here","_law_n","_law_ins","_law_outs","_law_wide","_law_way","_law_first","_law_move_here","_law_put","_law_look","_law_k","_law_row_here"] ["_law_bag_here","_law_n","_law_ins","_law_outs","_law_wide"] (aH oF):=by walk_at "d"
theorem BA (T : Txt K mg Z) (ptree : P.given.tree = none) : cC P w K mg base eY 5 Z.vV Z.vE ["_law_bag_here", "_law_n", "_law_ins", "_law_outs", "_law_wide"] (Cc K) := by
  have bu := eT (P := P) (w := w) (base := base) T ptree;have Gj := D6 (P := P) (w := w) (base := base) T ptree;have gU := me (P := P) (w := w) (base := base) T ptree;have pG := sR (P := P) (w := w) (base := base) T ptree;refine T.m4.F.ok dE (λvs H Q E h => ?_) (λcdv A outer s H vs Q E hr h => ?_)
  · obtain ⟨b, n, i, o, w, c, rfl, _⟩ := h;rfl
  · obtain ⟨b, n, i, o, w, c, rfl, hB, n8, i4, o4, w0, w1, hc, hc20, hcM, k⟩ := h
    refine ⟨_, (ar (a9 (i := 5) dE.nd rfl (Or.inl rfl) (cJ bu hr T.bx (ae (pv 0) (ae ak aj))))
      (ar (a9 (i := 6) dE.nd rfl (Or.inl rfl) (cJ bu hr T.bx (ae (pv 0) (ae (bM fW (pv 1) ak) aj))))
      (ar (a9 (i := 7) dE.nd rfl (Or.inl rfl) (cJ Gj hr T.o5 (ae (pv 0) (ae (pv 1) (ae (pv 5) (ae (pv 6) (ae (pv 4) aj)))))))
      (ar (je 8 ["_law_k"] ["_law_bag_here", "_law_n", "_law_wide"] [0, 1, 4] dE.nd rfl rfl (cy rfl T.range (ae (pv 2) aj)) (λ_ => (aK (i := 0) (show List.Nodup (α := PySem.Str) ["_law_k", "_law_bag_here", "_law_n", "_law_wide"] by decide +kernel))) (λ_ => cB) (λ_ => (cJ gU hr T.gQ (ae (pv 1) (ae (pv 2) (ae (pv 3) aj))))))
      (ar (je 9 ["_law_k"] ["_law_bag_here", "_law_n", "_law_wide"] [0, 1, 4] dE.nd rfl rfl (cy rfl T.range (ae (pv 3) aj)) (λ_ => (aK (i := 0) (show List.Nodup (α := PySem.Str) ["_law_k", "_law_bag_here", "_law_n", "_law_wide"] by decide +kernel))) (λ_ => cB) (λ_ => (cJ gU hr T.gQ (ae (pv 1) (ae (pv 2) (ae (pv 3) aj))))))
      (ar (df PassesOwn.never rfl (cy rfl T.range (ae (pv 1) aj)) (aK (i := 10) dE.nd)
        (ar (df PassesOwn.never rfl (cu (pv 8)) (aK (i := 11) dE.nd)
        (ay (cY (PW.pt (ky (PW.pt (jc (be eS (pv 5) ak (bB _)) (jV (be Cs (pv 10) (pv 6) (bB _))))) (jb (PW.pt (jc (be eS (pv 5) ak (bB _)) (jc (be pM (bM fW (pv 10) ak) (pv 1) (bB _)) (jV (be eS (cJ bu hr T.bx (ae (pv 0) (ae ak aj))) ak (bB _))))))))) (ay (eI (c8 (ae ak (ae ak aj))) (gK (pv 11) (pv 10) set_list))) bQ)))
      (ay (df PassesOwn.never rfl (cu (pv 9)) (aK (i := 11) dE.nd)
        (ay (cY (PW.pt (ky (PW.pt (jc (be eS (pv 5) ak (bB _)) (jV (be Cs (pv 10) (pv 6) (bB _))))) (jb (PW.pt (jc (be eS (pv 5) ak (bB _)) (jc (be qZ (pv 10) ak (bB _)) (jV (be eS (cJ bu hr T.bx (ae (pv 0) (ae ak aj))) ak (bB _))))))))) (ay (eI (c8 (ae ak (ae ak aj))) (gK (pv 11) (pv 10) set_list))) bQ))))))
      (ay (aN (cJ pG hr T.jX (ae (pv 0) (ae (pv 7) (ae (pv 8) (ae (pv 9) aj))))))))))))), ?_⟩
    refine aM (σ := [some (.ref b), some (.int n), some (.int i), some (.int o), some (.int w), none, none, none, none, none, none, none]) rfl ?_;have W1 : 1 ≤ max w 6 := by lia
    obtain ⟨q0, I0, xs0, gq0⟩ := hB.inner;exists ⟨b, 6, rfl, hB, by decide, by decide, λway H1 a0 a1 B1 u1 => ?_⟩;exists ⟨b, _, rfl, B1, by lia, by lia, λfirst H2 f0 f1 B2 u2 => ?_⟩;have u02 := u1.trans u2;exists ⟨b, n, w, way, first, rfl, B2, n8, w0, w1, λm us H3 nm0 gm lm ndm rm B3 u3 => ?_⟩;have u03 := u02.trans u3;exists ⟨by lia, by lia, ?_⟩;refine CV (n := i) (b := b) (cO K H3) (λxs => xs.length = n /\ ∀ x ∈ xs, Dr (max w 6) x) B3 (by lia) (λa u B => a.upto u B B3.at) (λ⟨q, e, _, _, g, _⟩ => ⟨q, e, by rw [g]; exact λz => nomatch z⟩) ?_ ?_
    · rintro s H' NY NN hi u B k1;exists ⟨b, n, w, rfl, B, by lia, w0, w1, λr xs H2 nr R lx dx B2 u2 => k1 _ xs _ u2 B2 ⟨lx, dx⟩ ⟨r, rfl, u.none B nr, R⟩ ⟨r, rfl, nr⟩⟩
    rintro ws puts H4 p np u4 B4 gp lp ndp hp pr4 nx4;have u04 := u03.trans u4;exists ⟨by lia, by lia, ?_⟩;refine CV (n := o) (b := b) (cO K H4) (λxs => xs.length = n /\ ∀ x ∈ xs, Dr (max w 6) x) B4 (by lia) (λa u B => a.upto u B B4.at) (λ⟨q, e, _, _, g, _⟩ => ⟨q, e, by rw [g]; exact λz => nomatch z⟩) ?_ ?_
    · rintro s H' NY NN hi u B k1;exists ⟨b, n, w, rfl, B, by lia, w0, w1, λr xs H2 nr R lx dx B2 u2 => k1 _ xs _ u2 B2 ⟨lx, dx⟩ ⟨r, rfl, u.none B nr, R⟩ ⟨r, rfl, nr⟩⟩
    rintro vs looks H5 l nl u5 B5 gl ll ndl hl pr5 nx5;have u05 := u04.trans u5;have hm0 : H m = none := u02.none B2 nm0;have hp0 : H p = none := u03.none B3 np;have hl0 : H l = none := u04.none B4 nl;have mb : m ≠ b := λz => B2.at (by rw [<- z]; exact nm0)
    have pb : p ≠ b := λz => B3.at (by rw [<- z]; exact np)
    have lb : l ≠ b := λz => B4.at (by rw [<- z]; exact nl)
    have gm4 := u4.other mb gm;have gm5 := u5.other mb gm4;have gp5 := u5.other pb gp;have mp : m ≠ p := λz => by rw [z, np] at gm; cases gm
    have ml : m ≠ l := λz => by rw [z, nl] at gm4; cases gm4
    have pl : p ≠ l := λz => by rw [z, nl] at gp; cases gp
    have mq : m ≠ q0 := λz => Inner.at B2 (u02.2 _ I0) (by rw [<- z]; exact nm0)
    obtain ⟨A, eA⟩ : ∃ A : Addr → Prop, A = λq => H q = none /\ q ≠ m /\ q ≠ p /\ q ≠ l := ⟨_, rfl⟩
    have mkA : ∀ {q}, H q = none → q ≠ m → q ≠ p → q ≠ l → A q := λh1 h2 h3 h4 => by rw [eA]; exact ⟨h1, h2, h3, h4⟩
    have unA : ∀ {q}, A q → H q = none /\ q ≠ m /\ q ≠ p /\ q ≠ l := λh => by rw [eA] at h; exact h
    have MA : F4 A m p l b q0 := ⟨λz => (unA z).2.1 rfl, λz => (unA z).2.2.1 rfl, λz => (unA z).2.2.2 rfl, λz => hB.at (unA z).1, (λz => by have z1 := (unA z).1; rw [gq0] at z1; cases z1), mb, pb, lb, mp, ml, mq⟩;clear eA;have lws : ws.length = i := by rw [<- pr4.length]; exact lp
    have lvs : vs.length = o := by rw [<- pr5.length]; exact ll
    have alM : ∀ q, V.ref q ∈ us → H3 q ≠ none /\ q ≠ b /\ H4 q ≠ none := λq hq => by
      obtain ⟨q', qs, e, ⟨a1, a2⟩, r, z⟩ := rm _ hq;cases e;have qb : q ≠ b := λy => B2.at (by rw [<- y]; exact a1)
      obtain ⟨xq, gq, _⟩ := id r;obtain ⟨xq4, gq4, _⟩ := r.upto u4 B3 qb;exact ⟨(by rw [gq]; exact λz => nomatch z), qb, (by rw [gq4]; exact λz => nomatch z)⟩
    have alP : ∀ q, V.ref q ∈ ws → H3 q = none /\ H4 q ≠ none := λq hq => by
      obtain ⟨_, _, q', e, a, _, g, _⟩ := dn pr4 hq;cases e;exact ⟨a, by rw [g]; exact λz => nomatch z⟩
    have alL : ∀ q, V.ref q ∈ vs → H4 q = none := λq hq => by
      obtain ⟨_, _, q', e, a, _⟩ := dn pr5 hq;cases e;exact a
    have isR : ∀ x, x ∈ us \/ x ∈ ws \/ x ∈ vs → ∃ q, x = V.ref q := λx hx => by
      rcases hx with hx | hx | hx
      · obtain ⟨q, _, e, _⟩ := rm x hx; exact ⟨q, e⟩
      · obtain ⟨_, _, q, e, _⟩ := dn pr4 hx; exact ⟨q, e⟩
      · obtain ⟨_, _, q, e, _⟩ := dn pr5 hx; exact ⟨q, e⟩
    have nd : (us ++ vs ++ ws).Nodup := by
      refine c9.mpr ⟨c9.mpr ⟨ndm, ndl, λx hx y hy e => ?_⟩, ndp, λx hx y hy e => ?_⟩
      · subst e;obtain ⟨q, rfl⟩ := isR x (.inl hx);exact (alM q hx).2.2 (alL q hy)
      · subst e;obtain ⟨q, rfl⟩ := isR x (.inr (.inl hy));rcases ax.mp hx with hx | hx
        · exact (alM q hx).1 (alP q hy).1
        · exact (alP q hy).2 (alL q hx)
    have X5 : Ij K A n (Dr (max w 6)) m p l b q0 us ws vs H H5 := by
      refine ⟨⟨B5, u05.2 _ I0, gm5, gp5, gl, lm, λx hx => ?_, nd⟩, gp5, gl, λc u e n1 _ _ => u05.1 c u e n1⟩;rcases ax.mp hx with hx | hx
      · rcases ax.mp hx with hx | hx
        · obtain ⟨q, qs, e, ⟨a1, a2⟩, r, z⟩ := rm x hx;obtain ⟨xq, gq, _⟩ := id r;have qb : q ≠ b := λy => B2.at (by rw [<- y]; exact a1)
          have r4 := r.upto u4 B3 qb;obtain ⟨xq4, gq4, _⟩ := id r4;exact ⟨q, qs, e, mkA (u02.none B2 a1) a2 (λy => by rw [y, np] at gq; cases gq) (λy => by rw [y, nl] at gq4; cases gq4), r4.upto u5 B4 qb, z⟩
        · refine G7 (A := A) pr5 hl (λq hq a b' => ?_) x hx;exact mkA (u04.none B4 a) (λy => by rw [y, gm4] at a; cases a) (λy => by rw [y, gp] at a; cases a) (λy => ka nx5 (by rw [<- y]; exact hq))
      · refine fL.upto (G7 (A := A) pr4 hp (λq hq a b' => ?_) x hx) u5 B4 MA.ab;exact mkA (u03.none B3 a) (λy => by rw [y, gm] at a; cases a) (λy => ka nx4 (by rw [<- y]; exact hq)) (λy => b' (by rw [y]; exact nl))
    clear alM alP alL isR rm pr4 pr5 nx4 nx5 gm gm4 gm5 gp gp5 gl hp hl;exists ⟨by lia, by lia, ?_⟩;refine eF (n := n) (λkk σ' H' => (∃ x1 x2, σ' = [some (.ref b), some (.int n), some (.int i), some (.int o), some (.int w), some (.int way), some (.int first), some (.ref m), some (.ref p), some (.ref l), x1, x2]) /\ Ij K A n (Dr (max w 6)) m p l b q0 us ws vs H H') ⟨⟨_, _, rfl⟩, X5⟩ ?_ ?_
    · rintro kk σ' Hj hk ⟨⟨x1, x2, rfl⟩, X⟩;exists ⟨⟨_, bE.of X.gp⟩, ?_⟩;refine eX (K := K) (a := p) (xs := ws) (λs σ' H' => (∃ x2, σ' = [some (.ref b), some (.int n), some (.int i), some (.int o), some (.int w), some (.int way), some (.int first), some (.ref m), some (.ref p), some (.ref l), some (.int kk), x2]) /\ Ij K A n (Dr (max w 6)) m p l b q0 us ws vs H H') ⟨⟨_, rfl⟩, X⟩ (λs σ' H' _ ⟨_, e⟩ => bE.of e.gp) ?_ ?_
      · rintro s x σ' Hk hx ⟨⟨y2, rfl⟩, X⟩;have mx := au hx;obtain ⟨q, _, rfl, _⟩ := X.row (.inl mx)
        repeat' (first | walk_at "rd" | refine gR (λ_ => ?_) (λ_ => ?_))
        all_goals first
          | exact ⟨⟨_, rfl⟩, X⟩
          | (refine cD λt Hb sb gb => ?_; walk_at "w"; obtain ⟨zs, gz, lz, Xz⟩ := (X.same sb).put MA (.inl mx) (cA.mk (q := 0) gb rfl) (rJ (i := 0) (aZ _) W1) kk; refine eN gz (fo (by lia)) rfl ?_; exact ⟨⟨_, rfl⟩, Xz⟩)
          | (refine ⟨b, 2, rfl, X.mix.bag, by decide, by decide, λd Hd d0 d1 Bd ud => ?_⟩
             replace X := X.upto MA ud Bd
             repeat' (first | walk_at "rd" | refine gR (λ_ => ?_) (λ_ => ?_))
             all_goals first
               | exact ⟨⟨_, rfl⟩, X⟩
               | (refine cD λt Hb sb gb => ?_
                  walk_at "w";obtain ⟨zs, gz, lz, Xz⟩ := (X.same sb).put MA (.inl mx) (cA.mk (q := 0) gb rfl) (rJ (i := 0) (aZ _) W1) kk;refine eN gz (fo (by lia)) rfl ?_;exact ⟨⟨_, rfl⟩, Xz⟩))
      · rintro σ' Hk ⟨⟨y2, rfl⟩, X⟩;exists ⟨⟨_, bE.of X.gl⟩, ?_⟩;refine eX (K := K) (a := l) (xs := vs) (λs σ' H' => (∃ x2, σ' = [some (.ref b), some (.int n), some (.int i), some (.int o), some (.int w), some (.int way), some (.int first), some (.ref m), some (.ref p), some (.ref l), some (.int kk), x2]) /\ Ij K A n (Dr (max w 6)) m p l b q0 us ws vs H H') ⟨⟨_, rfl⟩, X⟩ (λs σ' H' _ ⟨_, e⟩ => bE.of e.gl) ?_ ?_
        · rintro s x σ' Hk hx ⟨⟨y2, rfl⟩, X⟩;have mx := au hx;obtain ⟨q, _, rfl, _⟩ := X.row (.inr mx)
          repeat' (first | walk_at "rd" | refine gR (λ_ => ?_) (λ_ => ?_))
          all_goals first
            | exact ⟨⟨_, rfl⟩, X⟩
            | (refine cD λt Hb sb gb => ?_; walk_at "w"; obtain ⟨zs, gz, lz, Xz⟩ := (X.same sb).put MA (.inr mx) (cA.mk (q := 0) gb rfl) (rJ (i := 0) (aZ _) W1) kk; refine eN gz (fo (by lia)) rfl ?_; exact ⟨⟨_, rfl⟩, Xz⟩)
            | (refine ⟨b, 2, rfl, X.mix.bag, by decide, by decide, λd Hd d0 d1 Bd ud => ?_⟩
               replace X := X.upto MA ud Bd
               repeat' (first | walk_at "rd" | refine gR (λ_ => ?_) (λ_ => ?_))
               all_goals first
                 | exact ⟨⟨_, rfl⟩, X⟩
                 | (refine cD λt Hb sb gb => ?_
                    walk_at "w";obtain ⟨zs, gz, lz, Xz⟩ := (X.same sb).put MA (.inr mx) (cA.mk (q := 0) gb rfl) (rJ (i := 0) (aZ _) W1) kk;refine eN gz (fo (by lia)) rfl ?_;exact ⟨⟨_, rfl⟩, Xz⟩))
        · rintro σ' Hk ⟨⟨y2, rfl⟩, X⟩;exact ⟨⟨_, _, rfl⟩, X⟩
    · rintro σ' Hj ⟨⟨x1, x2, rfl⟩, X⟩
      obtain ⟨M1, M2, M3, V0, a1, a2, a3, V2, hcs, R1, R2, R3⟩ : ∃ M1 M2 M3 V0 : Nat, (0 < M1 /\ M1 ≤ 2 ^ 800) /\ (0 < M2 /\ M2 ≤ 2 ^ 800) /\ (0 < M3 /\ M3 ≤ 2 ^ 800) /\ V0 ≤ 2 ^ 20 /\ ((w ≤ 9 /\ M1 = 2520 /\ M2 = 2520 /\ M3 = 2520 /\ V0 = 9) \/ (9 < w /\ M1 ≤ 2 ^ (c * (n * n)) /\ M2 ≤ 2 ^ (c * (i * n)) /\ M3 ≤ 2 ^ (c * (o * n)) /\ V0 = 2 ^ c)) /\ (∀ x ∈ us, fL K A Hj n (Fr M1 V0) x) /\ (∀ x ∈ ws, fL K A Hj n (Fr M2 V0) x) /\ ∀ x ∈ vs, fL K A Hj n (Fr M3 V0) x := by
        by_cases w9 : w ≤ 9
        · have XM := X.mix.weak (C' := λ_ => Fr 2520 9) λ_ _ y h => Mp ⟨ai h.1 (by lia), ai h.2 (by lia)⟩ (ze _)
          have z : 0 < 2520 /\ 2520 ≤ 2 ^ 800 := ⟨by decide, ai (show 2520 ≤ 2 ^ 12 by decide) (av (by decide) (by decide))⟩;exact ⟨2520, 2520, 2520, 9, z, z, z, by decide, .inl ⟨w9, rfl, rfl, rfl, rfl⟩, λx hx => XM.row x (by simp [hx]), λx hx => XM.row x (by simp [hx]), λx hx => XM.row x (by simp [hx])⟩
        · obtain ⟨M1, M2, M3, a1, a2, a3, b1, b2, b3, R1, R2, R3⟩ := (X.mix.weak (C' := λ_ => Dr (2 ^ c)) λ_ _ y h => ⟨ai h.1 hc, ai h.2 hc⟩).fr3;rw [lws] at b2;rw [lvs] at b3;have up : ∀ {M k : Nat}, M ≤ 2 ^ (c * k) → k ≤ (n + i + o) * n → M ≤ 2 ^ 800 := λh hk => ai h (av (by decide) (ai (aU _ hk) hcM))
          exact ⟨M1, M2, M3, 2 ^ c, ⟨a1, up b1 (aA _ (by lia))⟩, ⟨a2, up b2 (aA _ (by lia))⟩, ⟨a3, up b3 (aA _ (by lia))⟩, av (by decide) hc20, .inr ⟨by lia, b1, b2, b3, rfl⟩, R1, R2, R3⟩
      obtain ⟨μ, e2, e3, e1, e4⟩ := LK ws vs M1 M2 M3;obtain ⟨ap1, ap2⟩ := X.mix.apart
      have XM : jy K A Hj n (λx => Fr (μ x) V0) m p l b q0 us ws vs := by
        refine ⟨X.mix.bag, X.mix.inn, X.mix.gm, X.mix.gp, X.mix.gl, X.mix.lm, λx hx => ?_, X.mix.nd⟩;rcases ax.mp hx with hx | hx
        · rcases ax.mp hx with hx | hx
          · rw [e1 x (ap1 x hx).1 (ap1 x hx).2]; exact R1 x hx
          · rw [e3 x hx (ap2 x hx)]; exact R3 x hx
        · rw [e2 x hx]; exact R2 x hx
      have p1 : ∀ x, 0 < μ x := λx => by
        rcases e4 x with e | e | e
        · rw [e]; exact a1.1
        · rw [e]; exact a2.1
        · rw [e]; exact a3.1
      have p2 : ∀ x, μ x ≤ 2 ^ 800 := λx => by
        rcases e4 x with e | e | e
        · rw [e]; exact a1.2
        · rw [e]; exact a2.2
        · rw [e]; exact a3.2
      have gmj := X.mix.gm;exists ⟨b, m, p, l, q0, n, V0, μ, A, us, ws, vs, rfl, MA, XM, n8, by lia, by lia, p1, p2, ⟨M1, e1⟩, V2, λq hq => ?_, λr us' H' g Y kp => ?_⟩
      · refine mkA ?_ (λz => by rw [z, gmj] at hq; cases hq) (λz => by rw [z, X.gp] at hq; cases hq) (λz => by rw [z, X.gl] at hq; cases hq);cases e : H q with
        | none => rfl
        | some u =>
          have := X.kp q u e (λz => X.mix.bag.at (by rw [<- z]; exact hq)) (λz => by have := (unA z).1; rw [e] at this; cases this) (λz => by rw [z, hm0] at e; cases e);rw [hq] at this; cases this
      · obtain ⟨yp1, yp2⟩ := Y.apart;obtain ⟨mv, Gm, lmv, hmv⟩ := jO (H0 := H) (n := n) (C := Fr M1 (9 ^ 3 * V0)) (m := n) ⟨us', Y.gm, Y.lm, MA.am, λx hx => by have := Y.row x (by simp [hx]); rwa [e1 x (yp1 x hx).1 (yp1 x hx).2] at this⟩ λq h => (unA h).1
        obtain ⟨pt, Gp, lpt, hpt⟩ := jO (H0 := H) (n := n) (C := Fr M2 (9 ^ 3 * V0)) (m := i) ⟨ws, Y.gp, lws, MA.ap, λx hx => by have := Y.row x (by simp [hx]); rwa [e2 x hx] at this⟩ λq h => (unA h).1
        obtain ⟨lk, Gl, llk, hlk⟩ := jO (H0 := H) (n := n) (C := Fr M3 (9 ^ 3 * V0)) (m := o) ⟨vs, Y.gl, lvs, MA.al, λx hx => by have := Y.row x (by simp [hx]); rwa [e3 x hx (yp2 x hx)] at this⟩ λq h => (unA h).1
        refine k r mv pt lk H' ⟨m, p, l, g, hm0, hp0, hl0, Gm, Gp, Gl⟩ lmv lpt llk ⟨by lia, by lia, by lia, λxs hx => by rw [(hmv xs hx).1, lmv], λxs hx => by rw [(hpt xs hx).1, lmv], λxs hx => by rw [(hlk xs hx).1, lmv]⟩ ⟨M1, M2, M3, 9 ^ 3 * V0, a1.1, a2.1, a3.1, λxs hx => (hmv xs hx).2, λxs hx => (hpt xs hx).2, λxs hx => (hlk xs hx).2, ?_⟩ Y.bag ⟨λc' u e n1 => (X.kp.trans kp) c' u e n1 (λz => by have := (unA z).1; rw [e] at this; cases this) (λz => by rw [z, hm0] at e; cases e), λq h => by rw [<- Inner.inj I0 h]; exact Y.inn⟩;rcases hcs with ⟨b1, b2, b3, b4, b5⟩ | ⟨b1, b2, b3, b4, b5⟩
        · exact .inl ⟨b1, b2, b3, b4, by rw [b5]⟩
        · exact .inr ⟨b1, b2, b3, b4, by rw [b5]⟩
theorem ie:aP ["_law_bag_here","_law_n","_law_ins","_law_outs","_law_wide"] ["_law_bag_here"] (aH oK):=by walk_at "d"
theorem BD (T:Txt K mg Z) (ptree:P.given.tree=none):cC P w K mg base eY 6 Z.v3 Z.vJ ["_law_bag_here"] (GO K):=by
 have bu:=eT (P:=P) (w:=w) (base:=base) T ptree;have Gn:=D7 (P:=P) (w:=w) (base:=base) T ptree;have EE:=By (P:=P) (w:=w) (base:=base) T ptree;have EF:=BA (P:=P) (w:=w) (base:=base) T ptree;refine T.m6.F.ok ie (λvs H Q E h=>?_) (λcdv A outer s H vs Q E hr h=>?_)
 ·obtain ⟨b,rfl,_⟩:=h;rfl
 ·obtain ⟨b,rfl,hB,k⟩:=h
  refine ⟨_,(ar (cY (be eS (cJ bu hr T.bx (ae (pv 0) (ae ak aj))) ak (bB _)) (ay (aN (c8 (ae (cJ Gn hr T.o6 (ae (pv 0) aj)) (ae ak aj))))) bQ)
   (ar (eI (cJ EE hr T.m3 (ae (pv 0) aj)) (mS rfl (bX (aK (i:=1) ie.nd) (bX (aK (i:=2) ie.nd) (bX (aK (i:=3) ie.nd) (bX (aK (i:=4) ie.nd) eQ))))))
   (ay (aN (c8 (ae (cJ EF hr T.m4 (ae (pv 0) (ae (pv 1) (ae (pv 2) (ae (pv 3) (ae (pv 4) aj)))))) (ae (bF (sv rfl) (by rfl) T.min PyProof.Rows.boot_min (ae (pv 4) (ae ak aj))) aj))))))),?_⟩
  refine aM (σ:=[some (.ref b),none,none,none,none]) rfl ?_;have sf:∀{mv pt lk:LR9} {M V1:Nat},0 < M->M<=2^400->V1<=2^30->GF M V1 mv->GF M V1 pt->GF M V1 lk->Jv mv pt lk:=λh0 h1 h2 a b c=>⟨_,_,h0,h1,ai h2 (av (by decide) (by decide)),a,b,c⟩
  have et:∀{mv:LR9},(bJ mv mv.length).length=mv.length:=cW;exists ⟨b,16,rfl,hB,by decide,by decide,λv H2 v0 v1 B2 u2=>?_⟩;exists gR (λh0=>?_) (λh0=>?_)
  ·exists ⟨b,rfl,B2,λr4 mv pt lk H4 P4 l6 D fm fp fl B4 u4=>?_⟩;have d8:=D.n8;exists cD λt H5 s5 g5=>?_
   exact k t r4 4 mv pt lk H5 g5 ((P4.weak λq h=>u2.none B2 h).same s5) D (sf (by decide) bW (by decide) fm fp fl) (.inl ⟨by decide,⟨by decide,by decide,by decide,by decide,fm,fp,(ai (aA _ (show mv.length+4<=12 by lia)) (by decide))⟩,⟨by decide,by decide,by decide,by decide,Dq fm,fl,(ai (aA _ (show (bJ mv mv.length).length+4<=12 by rw[et];lia)) (by decide))⟩⟩) (by decide) (by decide) (B4.same s5) ((u2.trans u4).same s5)
  ·exists ⟨b,rfl,B2,λr n i o w H1 g1 n5 i4 o4 hw h5 B1 u1=>?_⟩;have u02:=u2.trans u1
   obtain ⟨c,hc,hc20,hcM⟩:∃c:Nat,max w 6<=2^c/\c<=20/\c*((n+i+o)*n)<=800/\(9 < w->c=20/\(n+i+o)*n<=20/\n<=2):=by
    have m1:(n+i+o)*n<=13*5:=aJ (by lia) n5;rcases hw with rfl | rfl | ⟨rfl,n2⟩
    ·exact ⟨4,by decide,by decide,by lia,λz=>by lia⟩
    ·exact ⟨4,by decide,by decide,by lia,λz=>by lia⟩
    ·have m2:(n+i+o)*n<=10*2:=aJ (by lia) n2;exact ⟨20,by decide,by decide,by lia,λ_=>⟨rfl,by lia,n2⟩⟩
   obtain ⟨hcM,hbig⟩:=hcM;exists ⟨b,n,i,o,w,c,rfl,B1,by lia,i4,o4,by lia,by lia,hc,hc20,hcM,λr4 mv pt lk H4 P4 lm lp ll D PG B4 u4=>?_⟩;have hmin:(if (1000:Int) < (w:Int) then (1000:Int) else (w:Int))=((min w 1000:Nat):Int):=by split <;> lia
   have SF:Jv mv pt lk:=by
    obtain ⟨M,V1,M0,fm,fp,fl,hcs⟩:=PG.n;rcases hcs with ⟨w9,rfl,rfl⟩ | ⟨w9,M1,rfl⟩
    ·exact sf (by decide) (ai (show 2520<=2^12 by decide) (av (by decide) (by decide))) (by decide) fm fp fl
    ·obtain ⟨rfl,e1,e2⟩:=hbig w9;exact sf M0 (ai M1 (av (by decide) (by lia))) (by decide) fm fp fl
   have RG:Rj mv pt lk (min w 1000):=by
    obtain ⟨M1,M2,M3,V1,a1,a2,a3,f1,f2,f3,hc'⟩:=PG;rcases hc' with ⟨w9,rfl,rfl,rfl,rfl⟩ | ⟨w9,b1,b2,b3,rfl⟩
    ·exact .inr (.inl ⟨by lia,by lia,⟨by decide,by decide,by decide,by decide,f1,f2,(ai (aA _ (show mv.length+4<=9 by lia)) (by decide))⟩,⟨by decide,by decide,by decide,by decide,Dq f1,f3,(ai (aA _ (show (bJ mv mv.length).length+4<=9 by rw[et];lia)) (by decide))⟩⟩)
    ·obtain ⟨rfl,e1,e2⟩:=hbig w9;have q1:n*n<=2*2:=aJ e2 e2;have q2:o*n<=4*2:=aJ o4 e2;have q3:i*n<=4*2:=aJ i4 e2;have w6:w=1000000:=by lia
     exact .inr (.inr ⟨by lia,by lia,M1,M2,M3,⟨a1,a2,ai b1 (av (by decide) (by lia)),ai b2 (av (by decide) (by lia)),f1,f2,(ai (aA _ (show mv.length+4<=6 by lia)) (by decide))⟩,⟨a1,a3,ai b1 (av (by decide) (by lia)),ai b3 (av (by decide) (by lia)),Dq f1,f3,(ai (aA _ (show (bJ mv mv.length).length+4<=6 by rw[et];lia)) (by decide))⟩⟩)
   exists cD λt H5 s5 g5=>?_
   rw[hmin] at g5;exact k t r4 (min w 1000) mv pt lk H5 g5 ((P4.weak λq h=>u02.none B1 h).same s5) D SF RG (by lia) (by lia) (B4.same s5) ((u02.trans u4).same s5)
theorem DA:aP ["thing","at","most"] ["thing","at","most"] (aH qD):=by walk_at "d"
theorem DV (T:Txt K mg Z) (ptree:P.given.tree=none):cC P w K mg base eY 1 Z.yh Z.xO ["thing","at","most"] Iz:=by
 refine T.jk.F.ok DA (λvs H Q E h=>?_) (λcdv A outer s H vs Q E hr h=>?_)
 ·obtain ⟨p,xs,a,m,rfl,_⟩:=h;rfl
 ·obtain ⟨p,xs,a,m,rfl,gx,hm,k⟩:=h
  refine ⟨_,(ar (cY (jd (ia (uh rfl T.isinstance PyProof.Rows.boot_list T.list (pv 0)))) (ay Lr) bQ)
   (ay (cY (be qZ (bF a7 (by rfl) T.len aR (ae (pv 0) aj)) (pv 2) (bB _)) (ay Lr) bQ))),?_⟩
  refine aM (σ:=[some (.ref p),some (.int a),some (.int m)]) rfl ?_;exists ⟨_,_,.lst gx,rfl,?_⟩;exists ⟨_,_,rfl,.inl (bE.of gx),?_⟩;walk_at "w";rw[decide_eq_false (show ¬m < (xs.length:Int) by lia)];exists k
theorem Fg:aP ["thing"] ["thing"] (aH tZ):=by walk_at "d"
theorem Fx (T:Txt K mg Z) (ptree:P.given.tree=none):cC P w K mg base eY 1 Z.A0 Z.AN ["thing"] JF:=by
 refine T.mh.F.ok Fg (λvs H Q E h=>?_) (λcdv A outer s H vs Q E hr h=>?_)
 ·obtain ⟨i,rfl,_⟩:=h;rfl
 ·obtain ⟨i,rfl,k⟩:=h;refine ⟨_,(ay (aN (Hu (uh rfl T.isinstance PyProof.Rows.boot_int T.int (pv 0)) (Hs (Qb (uh rfl T.isinstance PyProof.Rows.boot_bool T.bool (pv 0))))))),?_⟩;refine aM (σ:=[some (.int i)]) rfl ?_;exists ⟨_,_,.int i,rfl,?_⟩;exists ⟨_,_,.int i,rfl,?_⟩;exists k
theorem fY:aP ["one","other","rest"] ["one","other"] (aH jG):=by walk_at "d"
theorem ji (T:Txt K mg Z) (ptree:P.given.tree=none):cC P w K mg base eY 1 Z.nU Z.nJ ["one","other"] Rh:=by
 refine T.eU.F.ok fY (λvs H Q E h=>?_) (λcdv A outer s H vs Q E hr h=>?_)
 ·obtain ⟨a,b,rfl,_⟩:=h;rfl
 ·obtain ⟨a,b,rfl,k⟩:=h
  refine ⟨_,(ar (z5 PassesOwn.never (be sP (pv 1) ak (bB _))
    (ar (a9 (i:=2) fY.nd rfl (Or.inl rfl) (bM NW (pv 0) (pv 1)))
   (ar (a9 (i:=0) fY.nd rfl (Or.inl rfl) (pv 1))
   (ay (a9 (i:=1) fY.nd rfl (Or.inl rfl) (pv 2))))))
   (ay (aN (bF AX (by rfl) T.abs PyProof.Rows.boot_abs (ae (pv 0) aj))))),?_⟩
  refine aM (σ:=[some (.int a),some (.int b),none]) rfl ?_;exists Dp (λσ' H'=>∃(u v:Int) (r:Option V),σ'=[some (.int u),some (.int v),r]/\H'=H/\Int.gcd u v=Int.gcd a b) (λσ' _=>match σ' with | [_,some (.int v),_]=>v.natAbs | _=>0) ⟨a,b,none,rfl,rfl,rfl⟩ ?_;rintro σ' H' ⟨u,v,r,rfl,rfl,hg⟩;exists gR (λh=>?_) (λh=>?_)
  ·have hv:v≠0:=λz=>by subst z;simp at h
   exists fj (show v≠0 from hv) ?_;exists ⟨⟨v,u.fmod v,_,rfl,rfl,(Me u v).trans hg⟩,Oa u v hv⟩
  ·have hv:v=0:=by
    by_cases z:v=0
    ·exact z
    ·exfalso;apply h;simp [z]
   subst hv;walk_at "w"
   have e:(if u < 0 then -u else u)=g a b:=by
    unfold g;rw[<- hg,Int.gcd_zero_right]
    split <;> lia
   rw[e];exact k
theorem DD:aP ["thing"] ["thing"] (aH qH):=by walk_at "d"
theorem DX (T:Txt K mg Z) (ptree:P.given.tree=none):cC P w K mg base eY 2 Z.ym Z.xS ["thing"] (JJ K):=by
 have A9:=Fx (P:=P) (w:=w) (base:=base) T ptree;have fG:=ji (P:=P) (w:=w) (base:=base) T ptree;refine T.oT.F.ok DD (λvs H Q E h=>?_) (λcdv A outer s H vs Q E hr h=>?_)
 ·obtain ⟨x,n,rfl,_⟩:=h;rfl
 ·obtain ⟨x,n,rfl,⟨p,rfl,hp⟩,hn,k⟩:=h
  refine ⟨_,(ar (cY (PW.pt (ky (jd (ia (yU rfl T.isinstance PyProof.Rows.boot_tuple T.tuple (pv 0)))) (jb (be sP (bF a7 (by rfl) T.len aR (ae (pv 0) aj)) ak (bB _))))) (ay (aN md)) bQ)
   (ar (cY (PW.pt (ky (jd (ia (cJ A9 hr T.mh (ae (aW bI (pv 0) ak) aj)))) (jb (jd (ia (cJ A9 hr T.mh (ae (aW bI (pv 0) ak) aj))))))) (ay (aN md)) bQ)
   (ay (aN (Hu (jg Cs (aW bI (pv 0) ak) ak (bB _)) (Hs (jg eS (cJ fG hr T.eU (ae (aW bI (pv 0) ak) (ae (aW bI (pv 0) ak) aj))) ak (bB _)))))))),?_⟩
  refine aM (σ:=[some (.ref p)]) rfl ?_;obtain ⟨hb,hg,s1,s2⟩:=hn;exists .inr ⟨p,_,_,rfl,hp,rfl,?_⟩;exists ⟨_,_,rfl,.inr hp,?_⟩;walk_at "w"
  try refine L4 ?_
  exists ⟨n.1,rfl,?_⟩;exists ⟨n.2,rfl,?_⟩;walk_at "w";rw[decide_eq_true (show (1:Int)<=n.2 by lia)];exists ⟨n.1,n.2,rfl,?_⟩;walk_at "w";have e:g n.1 n.2=1:=by unfold g;rw[hg];rfl
  rw[e,decide_eq_true rfl];exact k _ (aF.refl _)
theorem JM:aP ["thing","many"] ["thing","many"] (aH zU):=by walk_at "d"
theorem JX (T:Txt K mg Z) (ptree:P.given.tree=none):cC P w K mg base eY 3 Z.F0 Z.FN ["thing","many"] (wI K):=by
 have F8:=DX (P:=P) (w:=w) (base:=base) T ptree;refine T.xn.F.ok JM (λvs H Q E h=>?_) (λcdv A outer s H vs Q E hr h=>?_)
 ·obtain ⟨p,ns,rfl,_⟩:=h;rfl
 ·obtain ⟨p,ns,rfl,hp,hl,hn,k⟩:=h
  refine ⟨_,(ar (cY (PW.pt (ky (jd (ia (uh rfl T.isinstance PyProof.Rows.boot_list T.list (pv 0)))) (jb (be sP (bF a7 (by rfl) T.len aR (ae (pv 0) aj)) (pv 1) (bB _))))) (ay (aN md)) bQ)
   (ay (aN (bF (AW rfl) (by rfl) T.all PyProof.Rows.boot_all (ae (cv ["value"] [] [] (cu (pv 0)) (λ_=>(aK (i:=0) (show ND9 ["value"] by decide +kernel))) (λ_=>cB) (λ_=>(cJ F8 hr T.oT (ae (pv 0) aj)))) aj))))),?_⟩
  refine aM (σ:=[some (.ref p),some (.int ns.length)]) rfl ?_;obtain ⟨xs,gx,qx⟩:=id hp;have lx:=qx.length;exists ⟨_,_,.lst gx,rfl,?_⟩;exists ⟨_,_,rfl,.inl (bE.of gx),?_⟩;walk_at "w";rw[show ((xs.length:Nat):Int)=(ns.length:Nat) by rw[lx],decide_eq_true rfl];exists ⟨⟨_,bE.of gx⟩,?_⟩;refine d6 (K:=K) (xs:=xs) (λi ys H'=>aF H H'/\ys=List.replicate i (.bl true)) (bc (bC (by lia))) ⟨aF.refl _,rfl⟩ (λi ys H' _ ⟨s,_⟩=>bE.of (s _ _ gx)) ?_ ?_
  ·rintro i x ys H' hx hlen ⟨s,rfl⟩;obtain ⟨n,en,z⟩:=bY qx hx;exists ⟨x,n,rfl,s.num z,hn n (au en),λH2 s2=>⟨s.trans s2,by rw[Dk]⟩⟩
  ·rintro ys H' hy ⟨s,rfl⟩ l hl';exists ⟨l,List.replicate xs.length true,rfl,bE.of (by rw[aE];simp),?_⟩;have e4:(List.replicate xs.length true).all id=true:=by simp
   rw[e4];exact k _ (s.trans (aF.new hl'))
theorem kY:aP ["things","wide","place","thing"] ["things","wide"] (aH mM):=by walk_at "d"
theorem Aj (T:Txt K mg Z) (ptree:P.given.tree=none):cC P w K mg base eY 4 Z.tK Z.sY ["things","wide"] (IB K):=by
 have MG:=JX (P:=P) (w:=w) (base:=base) T ptree;refine T.gO.F.ok kY (λvs H Q E h=>?_) (λcdv A outer s H vs Q E hr h=>?_)
 ·obtain ⟨p,H0,rows,w,rfl,_⟩:=h;rfl
 ·obtain ⟨p,H0,rows,w,rfl,hp,hl,hw,hn,k⟩:=h
  refine ⟨_,(ar (df PassesOwn.never rfl (IG rfl T.enumerate (ae (pv 0) aj)) (mS rfl (bX (aK (i:=2) kY.nd) (bX (aK (i:=3) kY.nd) eQ)))
    (ay (cY (jd (ia (cJ MG hr T.xn (ae (pv 3) (ae (pv 1) aj))))) (ay Lr) bQ)))
   (ay (aN (cv ["row"] [] [] (cu (pv 0)) (λ_=>(aK (i:=0) (show ND9 ["row"] by decide +kernel))) (λ_=>cB) (λ_=>(eL (ij K (by rfl)) (by rfl) T.list PyProof.Rows.boot_list (ae (pv 0) aj))))))),?_⟩
  refine aM (σ:=[some (.ref p),some (.int w),none,none]) rfl ?_;obtain ⟨xs,gx,qx,_⟩:=id hp;exists ⟨⟨_,bE.of gx⟩,?_⟩;refine Mh (K:=K) (l:=p) (xs:=xs) (λi σ' H'=>aF H H'/\∃x y,σ'=[some (.ref p),some (.int w),x,y]) ⟨aF.refl _,none,none,rfl⟩ (λi σ' H' _ ⟨s,_⟩=>bE.of (s _ _ gx)) ?_ ?_
  ·rintro i x σ' H' t hx ⟨s,x1,y1,rfl⟩ ht;obtain ⟨qs,eq,q,rfl,_,Rq⟩:=bY qx hx;have hm:=au eq;have st:aF H' (upd H' t (.tup [.int i,.ref q])):=aF.new ht;have gt:(upd H' t (.tup [.int i,.ref q])) t=some (.tup [.int i,.ref q]):=aE;have s2:=s.trans st;generalize upd H' t (.tup [.int i,.ref q])=H2 at st gt s2 ⊢;have lq:(qs.map nm).length=w:=by rw[ah];exact (hn qs hm).1
   exists ⟨q,_,by rw[lq],(Rq.same s2).rowK,by rw[lq];exact hw,λn hn'=>?_,λH3 s3=>?_⟩
   ·obtain ⟨y,hy,rfl⟩:=az.mp hn';exact (hn qs hm).2 y hy
   exists ⟨s2.trans s3,_,_,rfl⟩
  ·rintro σ' H' ⟨s,x1,y1,rfl⟩;exists ⟨⟨_,bE.of (s _ _ gx)⟩,?_⟩;refine dw (K:=K) (F:=cO K H0) (cO K H) id (s _ _ gx) (Paired.imp' (λ_ _ z=>z.same s) qx) hl (λa b=>a.same b) (λa b=>a.same b) ?_ ?_
   ·rintro i ns x H2 NY NN en s2 ⟨u,rfl,_,zs,gz,qz⟩ k1;exists ⟨u,zs,rfl,.inl (bE.of gz),λl1 hl1=>?_⟩;exact k1 _ _ (aF.new hl1) ⟨l1,rfl,s.none (s2.none hl1),zs,aE,Paired.imp' (λ_ _ z=>z.same (aF.new hl1)) qz⟩
   ·rintro ys' H2 r hr s2 g pr nx;rw[pY] at pr nx;exact k r H2 (s.none hr) (s.trans s2) ⟨ys',g,pr,ka nx⟩
theorem tX:aP ["self","move","put","look"] ["self","move","put","look"] (aH dI):=by walk_at "d"
theorem lE (T:Txt K mg Z) (ptree:P.given.tree=none):cC P w K mg base eY 5 Z.jw Z.ju ["self","move","put","look"] (IA K Z.a_System):=by
 have rS:=DV (P:=P) (w:=w) (base:=base) T ptree;have nh:=Aj (P:=P) (w:=w) (base:=base) T ptree;refine T.mC.ok tX (λvs H Q E h=>?_) (λcdv A outer s H vs Q E hr h=>?_)
 ·obtain ⟨x,dx,p,q,r,Hb,H0,H1,H2,mv,pt,lk,rfl,_⟩:=h;rfl
 ·obtain ⟨x,dx,p,q,r,Hb,H0,H1,H2,mv,pt,lk,rfl,nx,ndx,nex,rfl,gp,gq,gr,D,om,op,ol,k⟩:=h
  refine ⟨_,(ar (eO (cJ rS hr T.jk (ae (pv 1) (ae ak (ae (kF (v:=.int 8) rfl T.mg_MOST_STATES ⟨_,rfl⟩) aj)))))
   (ar (xc (pv 0) (cJ nh hr T.gO (ae (pv 1) (ae (bF a7 (by rfl) T.len aR (ae (pv 1) aj)) aj))) rfl)
   (ar (xc (pv 0) (bF a7 (by rfl) T.len aR (ae (eJ (pv 0) rfl) aj)) rfl)
   (ar (eO (cJ rS hr T.jk (ae (pv 2) (ae ak (ae (kF (v:=.int 4) rfl T.mg_MOST_PUTS ⟨_,rfl⟩) aj)))))
   (ar (xc (pv 0) (cJ nh hr T.gO (ae (pv 2) (ae (eJ (pv 0) rfl) aj))) rfl)
   (ar (xc (pv 0) (bF a7 (by rfl) T.len aR (ae (eJ (pv 0) rfl) aj)) rfl)
   (ar (eO (cJ rS hr T.jk (ae (pv 3) (ae ak (ae (kF (v:=.int 4) rfl T.mg_MOST_LOOKS ⟨_,rfl⟩) aj)))))
   (ar (xc (pv 0) (cJ nh hr T.gO (ae (pv 3) (ae (eJ (pv 0) rfl) aj))) rfl)
   (ay (xc (pv 0) (bF a7 (by rfl) T.len aR (ae (eJ (pv 0) rfl) aj)) rfl)))))))))),?_⟩
  refine aM (σ:=[some (.ref x),some (.ref p),some (.ref q),some (.ref r)]) rfl ?_
  have s0:aF Hb (upd (upd Hb dx (.own x)) x (.ins Z.a_System dx [])):=λb o e=>by
   rw[bf (fe e nx),bf (fe e ndx)];exact e
  have hx:(upd (upd Hb dx (.own x)) x (.ins Z.a_System dx [])) x=some (.ins Z.a_System dx []):=aE;have back:∀{b},(upd (upd Hb dx (.own x)) x (.ins Z.a_System dx [])) b=none->Hb b=none:=λh=>s0.none h
  generalize upd (upd Hb dx (.own x)) x (.ins Z.a_System dx [])=Ha at s0 hx back ⊢;obtain ⟨xs,gx,qx,_⟩:=id gp;obtain ⟨ys,gy,qy,_⟩:=id gq;obtain ⟨zs,gz,qz,_⟩:=id gr;have lx:=qx.length;have ly:=qy.length;have lz:=qz.length;have d1:=D.n8;have d2:=D.i4;have d3:=D.o4;exists ⟨p,xs,0,8,rfl,s0 _ _ gx,by lia,?_⟩;exists ⟨_,_,rfl,.inl (bE.of (s0 _ _ gx)),?_⟩;exists ⟨p,H0,mv,mv.length,by rw[lx],gp.same s0,by lia,by lia,λws hw=>⟨D.mw ws hw,om ws hw⟩,λa H3 na s3 Ga=>?_⟩;have hx3:=s3 _ _ hx;exists ⟨x,Z.a_System,dx,_,rfl,hx3,T.cl_System,T.na_move,(by show 0 < 1000;decide),?_⟩;have e3:EI x H3 (upd H3 x (.ins Z.a_System dx (cz "move" (.ref a) []))):=EI.upd;have i3:tS H3 x:=⟨_,_,_,hx3⟩;have hx4:(upd H3 x (.ins Z.a_System dx (cz "move" (.ref a) []))) x=some (.ins Z.a_System dx (cz "move" (.ref a) [])):=aE;have Ga4:=Ga.exc e3 i3;have k4:aF Hb (upd H3 x (.ins Z.a_System dx (cz "move" (.ref a) []))):=(s0.trans s3).after nx;generalize upd H3 x (.ins Z.a_System dx (cz "move" (.ref a) []))=H4 at e3 hx4 Ga4 k4 ⊢;exists ⟨x,Z.a_System,dx,_,_,rfl,hx4,T.cl_System,T.na_move,(by rw[bG,if_pos rfl]),?_⟩;obtain ⟨as,ga,qa,_⟩:=id Ga4;have la:=qa.length;exists ⟨_,_,rfl,.inl (bE.of ga),?_⟩;exists ⟨x,Z.a_System,dx,_,rfl,hx4,T.cl_System,T.na_states,bo dQ (by show 1 < 1000;decide),?_⟩;rw[show ((as.length:Nat):Int)=((mv.length:Nat):Int) by rw[la]];have e4:EI x H4 (upd H4 x (.ins Z.a_System dx (cz "states" (.int mv.length) (cz "move" (.ref a) [])))):=EI.upd;have i4:tS H4 x:=⟨_,_,_,hx4⟩;have hx5:(upd H4 x (.ins Z.a_System dx (cz "states" (.int mv.length) (cz "move" (.ref a) [])))) x=some (.ins Z.a_System dx (cz "states" (.int mv.length) (cz "move" (.ref a) []))):=aE;have Ga5:=Ga4.exc e4 i4;have k5:aF Hb (upd H4 x (.ins Z.a_System dx (cz "states" (.int mv.length) (cz "move" (.ref a) [])))):=k4.after nx;generalize upd H4 x (.ins Z.a_System dx (cz "states" (.int mv.length) (cz "move" (.ref a) [])))=H5 at e4 hx5 Ga5 k5 ⊢;clear e3 e4 i3 i4 hx4 Ga4 ga qa;exists ⟨q,ys,1,4,rfl,k5 _ _ gy,by lia,?_⟩;exists ⟨x,Z.a_System,dx,_,_,rfl,hx5,T.cl_System,T.na_states,(by rw[bG,if_pos rfl]),?_⟩;exists ⟨q,H1,pt,mv.length,rfl,gq.same k5,by lia,by lia,λws hw=>⟨D.pw ws hw,op ws hw⟩,λb H6 nb s6 Gb=>?_⟩;have hx6:=s6 _ _ hx5;have i6:tS H6 x:=⟨_,_,_,hx6⟩;exists ⟨x,Z.a_System,dx,_,rfl,hx6,T.cl_System,T.na_put,bo dQ (bo (dm dQ) (by show 2 < 1000;decide)),?_⟩;have e6:EI x H6 (upd H6 x (.ins Z.a_System dx (cz "put" (.ref b) (cz "states" (.int mv.length) (cz "move" (.ref a) []))))):=EI.upd;have hx7:(upd H6 x (.ins Z.a_System dx (cz "put" (.ref b) (cz "states" (.int mv.length) (cz "move" (.ref a) []))))) x=some (.ins Z.a_System dx (cz "put" (.ref b) (cz "states" (.int mv.length) (cz "move" (.ref a) [])))):=aE;have Ga7:=(Ga5.same s6).exc e6 i6;have Gb7:=(Gb.weak k5).exc e6 i6;have k7:aF Hb (upd H6 x (.ins Z.a_System dx (cz "put" (.ref b) (cz "states" (.int mv.length) (cz "move" (.ref a) []))))):=(k5.trans s6).after nx;generalize upd H6 x (.ins Z.a_System dx (cz "put" (.ref b) (cz "states" (.int mv.length) (cz "move" (.ref a) []))))=H7 at e6 hx7 Ga7 Gb7 k7 ⊢;obtain ⟨bs,gb,qb,_⟩:=id Gb7;have lb:=qb.length;exists ⟨x,Z.a_System,dx,_,_,rfl,hx7,T.cl_System,T.na_put,(by rw[bG,if_pos rfl]),?_⟩;exists ⟨_,_,rfl,.inl (bE.of gb),?_⟩;exists ⟨x,Z.a_System,dx,_,rfl,hx7,T.cl_System,T.na_ins,bo dQ (bo (dm (ai dQ (dm dQ))) (by show 3 < 1000;decide)),?_⟩;rw[show ((bs.length:Nat):Int)=((pt.length:Nat):Int) by rw[lb]];have i7:tS H7 x:=⟨_,_,_,hx7⟩;have e7:EI x H7 (upd H7 x (.ins Z.a_System dx (cz "ins" (.int pt.length) (cz "put" (.ref b) (cz "states" (.int mv.length) (cz "move" (.ref a) [])))))):=EI.upd;have hx8:(upd H7 x (.ins Z.a_System dx (cz "ins" (.int pt.length) (cz "put" (.ref b) (cz "states" (.int mv.length) (cz "move" (.ref a) [])))))) x=some (.ins Z.a_System dx (cz "ins" (.int pt.length) (cz "put" (.ref b) (cz "states" (.int mv.length) (cz "move" (.ref a) []))))):=aE;have Ga8:=Ga7.exc e7 i7;have Gb8:=Gb7.exc e7 i7;have k8:aF Hb (upd H7 x (.ins Z.a_System dx (cz "ins" (.int pt.length) (cz "put" (.ref b) (cz "states" (.int mv.length) (cz "move" (.ref a) [])))))):=k7.after nx;generalize upd H7 x (.ins Z.a_System dx (cz "ins" (.int pt.length) (cz "put" (.ref b) (cz "states" (.int mv.length) (cz "move" (.ref a) [])))))=H8 at e7 hx8 Ga8 Gb8 k8 ⊢;clear e6 e7 i6 i7 hx7 Ga7 Gb7 gb qb;exists ⟨r,zs,2,4,rfl,k8 _ _ gz,by lia,?_⟩;exists ⟨x,Z.a_System,dx,_,_,rfl,hx8,T.cl_System,T.na_states,(by rw[bG,if_neg (by decide +kernel),bG,if_neg (by decide +kernel),bG,if_pos rfl]),?_⟩;exists ⟨r,H2,lk,mv.length,rfl,gr.same k8,by lia,by lia,λws hw=>⟨D.lw ws hw,ol ws hw⟩,λc H9 nc s9 Gc=>?_⟩;have hx9:=s9 _ _ hx8;have i9:tS H9 x:=⟨_,_,_,hx9⟩;exists ⟨x,Z.a_System,dx,_,rfl,hx9,T.cl_System,T.na_look,bo dQ (bo (dm (ai dQ (dm (ai dQ (dm dQ))))) (by show 4 < 1000;decide)),?_⟩;have e9:EI x H9 (upd H9 x (.ins Z.a_System dx (cz "look" (.ref c) (cz "ins" (.int pt.length) (cz "put" (.ref b) (cz "states" (.int mv.length) (cz "move" (.ref a) []))))))):=EI.upd;have hxA:(upd H9 x (.ins Z.a_System dx (cz "look" (.ref c) (cz "ins" (.int pt.length) (cz "put" (.ref b) (cz "states" (.int mv.length) (cz "move" (.ref a) []))))))) x=some (.ins Z.a_System dx (cz "look" (.ref c) (cz "ins" (.int pt.length) (cz "put" (.ref b) (cz "states" (.int mv.length) (cz "move" (.ref a) [])))))):=aE;have GaA:=(Ga8.same s9).exc e9 i9;have GbA:=(Gb8.same s9).exc e9 i9;have GcA:=(Gc.weak k8).exc e9 i9;have kA:aF Hb (upd H9 x (.ins Z.a_System dx (cz "look" (.ref c) (cz "ins" (.int pt.length) (cz "put" (.ref b) (cz "states" (.int mv.length) (cz "move" (.ref a) []))))))):=(k8.trans s9).after nx;generalize upd H9 x (.ins Z.a_System dx (cz "look" (.ref c) (cz "ins" (.int pt.length) (cz "put" (.ref b) (cz "states" (.int mv.length) (cz "move" (.ref a) []))))))=HA at e9 hxA GaA GbA GcA kA ⊢;obtain ⟨cs,gc,qc,_⟩:=id GcA;have lc:=qc.length;exists ⟨x,Z.a_System,dx,_,_,rfl,hxA,T.cl_System,T.na_look,(by rw[bG,if_pos rfl]),?_⟩;exists ⟨_,_,rfl,.inl (bE.of gc),?_⟩;exists ⟨x,Z.a_System,dx,_,rfl,hxA,T.cl_System,T.na_outs,bo dQ (bo (dm (ai dQ (dm (ai dQ (dm (ai dQ (dm dQ))))))) (by show 5 < 1000;decide)),?_⟩;rw[show ((cs.length:Nat):Int)=((lk.length:Nat):Int) by rw[lc]];have iA:tS HA x:=⟨_,_,_,hxA⟩;exact k _ (kA.after nx) ⟨dx,a,b,c,aE,back na,k5.none nb,k8.none nc,(GaA.exc EI.upd iA).weak s0,GbA.exc EI.upd iA,GcA.exc EI.upd iA⟩
theorem zP:aP ["_law_grid"] ["_law_grid"] (aH mQ):=by walk_at "d"
theorem rn (T:Txt K mg Z) (ptree:P.given.tree=none):cC P w K mg base eY 1 Z.tQ Z.tz ["_law_grid"] (zJ K):=by
 refine T.eC.F.ok zP (λvs H Q E h=>?_) (λcdv A outer s H vs Q E hr h=>?_)
 ·obtain ⟨p,H0,rows,rfl,_⟩:=h;rfl
 ·obtain ⟨p,H0,rows,rfl,hp,hl,hm,k⟩:=h;refine ⟨_,(ay (aN (cv ["_law_row_here"] [] [] (cu (pv 0)) (λ_=>(aK (i:=0) (show ND9 ["_law_row_here"] by decide +kernel))) (λ_=>cB) (λ_=>(eL (ij K (by rfl)) (by rfl) T.list PyProof.Rows.boot_list (ae (pv 0) aj)))))),?_⟩;refine aM (σ:=[some (.ref p)]) rfl ?_;obtain ⟨xs,gx,qx,_⟩:=id hp;exists ⟨⟨_,bE.of gx⟩,?_⟩;refine dw (K:=K) (F:=cO K H0) (cO K H) id gx qx hl (λa b=>a.same b) (λa b=>a.same b) ?_ ?_
  ·rintro i ns x H' NY NN en s ⟨u,rfl,_,zs,gz,qz⟩ k1;exists ⟨u,zs,rfl,.inl (bE.of gz),λl1 hl1=>?_⟩;exact k1 _ _ (aF.new hl1) ⟨l1,rfl,s.none hl1,zs,aE,Paired.imp' (λ_ _ z=>z.same (aF.new hl1)) qz⟩
  ·rintro ys' H' r hr s g pr nx;rw[pY] at pr nx;exact k r H' hr s ⟨ys',g,pr,ka nx⟩
theorem iY:aP ["_law_parts_here","_law_move_here","_law_put","_law_look"] ["_law_parts_here"] (aH mN):=by walk_at "d"
theorem Ak (T:Txt K mg Z) (ptree:P.given.tree=none):cC P w K mg base eY 7 Z.tL Z.sZ ["_law_parts_here"] (zx K Z.a_System):=by
 have jB:=lE (P:=P) (w:=w) (base:=base) T ptree;have fU:=rn (P:=P) (w:=w) (base:=base) T ptree;refine T.lN.F.ok iY (λvs H Q E h=>?_) (λcdv A outer s H vs Q E hr h=>?_)
 ·obtain ⟨r,H0,mv,pt,lk,rfl,_⟩:=h;rfl
 ·obtain ⟨r,H0,mv,pt,lk,rfl,PQ,D,F,k⟩:=h
  refine ⟨_,(ar (eI (pv 0) (mS rfl (bX (aK (i:=1) iY.nd) (bX (aK (i:=2) iY.nd) (bX (aK (i:=3) iY.nd) eQ)))))
   (ay (aN (II T.mk_System jB (hr.mono (by decide)) rfl T.mg_System T.jv .nil Aa (ae (cJ fU hr T.eC (ae (pv 1) aj)) (ae (cJ fU hr T.eC (ae (pv 2) aj)) (ae (cJ fU hr T.eC (ae (pv 3) aj)) aj))))))),?_⟩
  refine aM (σ:=[some (.ref r),none,none,none]) rfl ?_;obtain ⟨m,p,l,g,n1,n2,n3,Gm,Gp,Gl⟩:=id PQ;have d1:=D.n8;have d2:=D.i4;have d3:=D.o4;exists ⟨m,H0,mv,rfl,Gm,by lia,λxs hx=>by rw[D.mw xs hx];lia,λa H1 na s1 Ga=>?_⟩;exists ⟨p,H0,pt,rfl,Gp.same s1,by lia,λxs hx=>by rw[D.pw xs hx];lia,λb H2 nb s2 Gb=>?_⟩;have s12:=s1.trans s2;exists ⟨l,H0,lk,rfl,Gl.same s12,by lia,λxs hx=>by rw[D.lw xs hx];lia,λc H3 nc s3 Gc=>?_⟩;have s13:=s12.trans s3;walk_at "w";intro x dx nx ndx nex;exact ⟨x,dx,a,b,c,H3,H,H1,H2,mv,pt,lk,rfl,nx,ndx,nex,rfl,(Ga.same s2).same s3,Gb.same s3,Gc,D,F.ok.1,F.ok.2.1,F.ok.2.2,λH' s' S'=>⟨rfl,k x H' (s13.none nx) (s13.trans s') (S'.weak s13)⟩⟩
theorem Bq:aP ["_law_bag_here","_law_n","_law_wide"] ["_law_bag_here","_law_n","_law_wide"] (aH oE):=by walk_at "d"
theorem Bx (T:Txt K mg Z) (ptree:P.given.tree=none):cC P w K mg base eY 2 Z.vT Z.vC ["_law_bag_here","_law_n","_law_wide"] zA:=by
 have bu:=eT (P:=P) (w:=w) (base:=base) T ptree;refine T.mZ.F.ok Bq (λvs H Q E h=>?_) (λcdv A outer s H vs Q E hr h=>?_)
 ·obtain ⟨b,n,w,rfl,_⟩:=h;rfl
 ·obtain ⟨b,n,w,rfl,hB,n8,k⟩:=h
  refine ⟨_,(ar (cY (be qZ (pv 2) ak (bB _)) (ay (aN (cJ bu hr T.bx (ae (pv 0) (ae ak aj))))) bQ)
   (ar (cY (be qZ (pv 1) ak (bB _)) (ay (aN (cJ bu hr T.bx (ae (pv 0) (ae ak aj))))) bQ)
   (ar (cY (be qZ (pv 1) ak (bB _)) (ay (aN (aW bL (du (ae (cJ bu hr T.bx (ae (pv 0) (ae ak aj))) (ae (pv 1) aj))) (cJ bu hr T.bx (ae (pv 0) (ae ak aj)))))) bQ)
   (ar (cY (PW.pt (jc (be pM (pv 1) ak (bB _)) (jV (be eS (cJ bu hr T.bx (ae (pv 0) (ae ak aj))) ak (bB _))))) (ay (aN (cJ bu hr T.bx (ae (pv 0) (ae ak aj))))) bQ)
   (ay (aN (cJ bu hr T.bx (ae (pv 0) (ae ak aj))))))))),?_⟩
  refine aM (σ:=[some (.ref b),some (.int n),some (.int w)]) rfl ?_;exists gR (λh0=>?_) (λh0=>?_)
  ·have h0:=of_decide_eq_true h0;exists ⟨b,4,rfl,hB,by decide,by decide,λv H1 v0 v1 B1 u1=>?_⟩;obtain ⟨v,rfl⟩:=cI v0;exact k v H1 ⟨by lia,λ_=>by lia,λ_ _=>by lia,λ_=>by lia⟩ B1 u1
  have h0:¬((9:Int) < w):=λz=>h0 (decide_eq_true z)
  exists gR (λh1=>?_) (λh1=>?_)
  ·have h1:=of_decide_eq_true h1;exists ⟨b,13,rfl,hB,by decide,by decide,λv H1 v0 v1 B1 u1=>?_⟩;obtain ⟨v,rfl⟩:=cI v0;exact k v H1 ⟨by lia,λ_=>by lia,λ_ _=>by lia,λ_=>by lia⟩ B1 u1
  have h1:¬((5:Int) < n):=λz=>h1 (decide_eq_true z)
  exists gR (λh2=>?_) (λh2=>?_)
  ·have h2:=of_decide_eq_true h2;exists ⟨b,5,rfl,hB,by decide,by decide,λv H1 v0 v1 B1 u1=>?_⟩;obtain ⟨v,rfl⟩:=cI v0;exists dd λl H2 s2 n2 g2=>?_
   exists ⟨b,2,rfl,B1.same s2,by decide,by decide,λc H3 c0 c1 B3 u3=>?_⟩;have g3:=u3.other (λz=>B1.at (by rw[<- z];exact n2)) g2;obtain ⟨x,ex,mx,_⟩:=nQ (xs:=[V.int v,V.int n]) c0 (by simpa using c1);refine b9 (bE.of g3) ex ?_;have u03:=(u1.same s2).trans u3;simp only[aG,br,or_false] at mx;rcases mx with rfl | rfl
   ·exact k v H3 ⟨by lia,λ_=>by lia,λ_ _=>by lia,λ_=>by lia⟩ B3 u03
   ·exact k n H3 ⟨by lia,λ_=>by lia,λ_ _=>by lia,λ_=>by lia⟩ B3 u03
  have h2:¬((3:Int) < n):=λz=>h2 (decide_eq_true z)
  exists gR (λh3=>?_) (λh3=>?_)
  ·have h3:=of_decide_eq_true h3;exists ⟨b,4,rfl,hB,by decide,by decide,λc H1 c0 c1 B1 u1=>?_⟩;exists gR (λh4=>?_) (λh4=>?_)
   ·exists ⟨b,13,rfl,B1,by decide,by decide,λv H2 v0 v1 B2 u2=>?_⟩;obtain ⟨v,rfl⟩:=cI v0;exact k v H2 ⟨by lia,λ_=>by lia,λ_ _=>by lia,λ_=>by lia⟩ B2 (u1.trans u2)
   ·exists ⟨b,7,rfl,B1,by decide,by decide,λv H2 v0 v1 B2 u2=>?_⟩;obtain ⟨v,rfl⟩:=cI v0;exact k v H2 ⟨by lia,λ_=>by lia,λ_ _=>by lia,λ_=>by lia⟩ B2 (u1.trans u2)
  ·exists ⟨b,7,rfl,hB,by decide,by decide,λv H2 v0 v1 B2 u2=>?_⟩;obtain ⟨v,rfl⟩:=cI v0;exact k v H2 ⟨by lia,λ_=>by lia,λ_ _=>by lia,λ_=>by lia⟩ B2 u2
theorem uK:aP ["_law_bag_here","_law_parts_here","_law_wide","_law_steps_here"] ["_law_bag_here","_law_parts_here","_law_wide"] (aH qM):=by walk_at "d"
theorem D4 (T:Txt K mg Z) (ptree:P.given.tree=none):cC P w K mg base eY 4 Z.yt Z.xX ["_law_bag_here","_law_parts_here","_law_wide"] (Cb K):=by
 have ED:=Bx (P:=P) (w:=w) (base:=base) T ptree;have gU:=me (P:=P) (w:=w) (base:=base) T ptree;refine T.oY.F.ok uK (λvs H Q E h=>?_) (λcdv A outer s H vs Q E hr h=>?_)
 ·obtain ⟨b,r,w,H0,mv,pt,lk,rfl,_⟩:=h;rfl
 ·obtain ⟨b,r,w,H0,mv,pt,lk,rfl,B2,nb,P2,D,w1,wk,k⟩:=h
  refine ⟨_,(ar (a9 (i:=3) uK.nd rfl (Or.inl rfl) (cJ ED hr T.mZ (ae (pv 0) (ae (bF a7 (by rfl) T.len aR (ae (aW bI (pv 1) ak) aj)) (ae (pv 2) aj)))))
   (ay (aN (cv ["_law_t"] ["_law_bag_here","_law_parts_here","_law_wide"] [0,1,2] (cy rfl T.range (ae (pv 3) aj)) (λ_=>(aK (i:=0) (show ND9 ["_law_t","_law_bag_here","_law_parts_here","_law_wide"] by decide +kernel))) (λ_=>cB) (λ_=>(cJ gU hr T.gQ (ae (pv 1) (ae (bF (BG K (by rfl)) (by rfl) T.len aR (ae (aW (yY K (by rfl)) (pv 2) ak) aj)) (ae (pv 3) aj))))))))),?_⟩
  refine aM (σ:=[some (.ref b),some (.ref r),some (.int w),none]) rfl ?_;have d8:=D.n8;have i4:=D.i4;obtain ⟨m,p,l,gt,mn,pn,ln,Gm,Gp,Gl⟩:=id P2;obtain ⟨um,gm,qm,_⟩:=id Gm;have lum:=qm.length;exists ⟨_,_,rfl,.inl (bE.of gm),?_⟩;rw[<- lum];exists ⟨b,mv.length,w,rfl,B2,d8,λtt H8 St B8 u8=>?_⟩;have t12:=St.1;have P8:=P2.upto u8 B2 nb;clear gm qm lum Gm Gp Gl gt mn pn ln;exists ⟨by lia,by lia,?_⟩
  refine CU (n:=tt) (b:=b) (cO K H8) (λxs=>xs.length=pt.length/\∀x∈xs,Dr (max w 6) x) B8 (by lia) (λ{H' H'' c x} a u B=>by
   obtain ⟨q,e,nq,R⟩:=a;exact ⟨q,e,nq,R.upto u B (λz=>B8.at (by rw[<- z];exact nq))⟩) ?_ ?_
  ·rintro i Ha NY NN hi ua Ba k1;obtain ⟨m,p,l,g',n1,n2,n3,Gm,Gp,Gl⟩:=P8.upto ua B8 nb;obtain ⟨up,gp,qp,_⟩:=id Gp;have lup:=qp.length;exists ⟨_,_,rfl,.inl (bE.of gp),?_⟩;rw[<- lup];exists ⟨b,pt.length,w,rfl,Ba,by lia,w1,by lia,λq xs Hb nq R lx dx Bb ub=>?_⟩;exact k1 _ xs _ ub Bb ⟨lx,dx⟩ ⟨q,rfl,ua.none Ba nq,R⟩
  rintro ys pus H9 pl npl u9 B9 g9 lc hc pr9 nx9;have Gp9:bA K H8 H9 pl pus:=⟨ys,g9,pr9,ka nx9⟩;exact k pl pus tt H9 (u8.none B8 npl) (Gp9.weakN λq h=>u8.none B8 h) ⟨lc,hc⟩ St B9 (u8.trans u9)
theorem l8:aP ["_law_one","_law_other","_law_total","_law_k"] ["_law_one","_law_other"] (aH uf):=by walk_at "d"
theorem rk (T:Txt K mg Z) (ptree:P.given.tree=none):cC P w K mg base eY 3 Z.A5 Z.AS ["_law_one","_law_other"] (Dx K):=by
 have jR:=rh (P:=P) (w:=w) (base:=base) T ptree;have iS:=oP (P:=P) (w:=w) (base:=base) T ptree;refine T.kb.F.ok l8 (λvs H Q E h=>?_) (λcdv A outer s H vs Q E hr h=>?_)
 ·obtain ⟨p,q,xs,ys,rfl,_⟩:=h;rfl
 ·obtain ⟨p,q,xs,ys,rfl,hp,hq,hl,hz,⟨k1,j1,k2,j2,h1,h2,hkj⟩,kk⟩:=h
  refine ⟨_,(ar (a9 (i:=2) l8.nd rfl (Or.inl rfl) (c8 (ae ak (ae ak aj))))
   (ar (df PassesOwn.never rfl (cy rfl T.range (ae (bF a7 (by rfl) T.len aR (ae (pv 0) aj)) aj)) (aK (i:=3) l8.nd)
    (ay (a9 (i:=2) l8.nd rfl (Or.inl rfl) (cJ jR hr T.iN (ae (pv 2) (ae (cJ iS hr T.gV (ae (aW bL (pv 0) (pv 3)) (ae (aW bL (pv 1) (pv 3)) aj))) aj))))))
   (ay (aN (pv 2))))),?_⟩
  refine aM (σ:=[some (.ref p),some (.ref q),none,none]) rfl ?_;obtain ⟨us,gu,qu⟩:=id hp;obtain ⟨ws,gw,qw⟩:=id hq;have lu:=qu.length;have lw:=qw.length;exists cD λr0 H0 s0 g0=>?_
  exists ⟨_,_,rfl,.inl (bE.of (s0 _ _ gu)),?_⟩;exists ⟨by lia,by lia,?_⟩;refine eF (n:=us.length) (λi σ' H'=>aF H H'/\∃(r:V) (v:Option V),σ'=[some (.ref p),some (.ref q),some r,v]/\cA K H' (cG (xs.take i) (ys.take i)) r) ⟨s0,_,none,rfl,cA.mk g0 rfl⟩ ?_ ?_
  ·rintro i σ' H' hi ⟨s,r,v,rfl,hr⟩;have ix:i < xs.length:=by lia
   have iy:i < ys.length:=by lia
   obtain ⟨vx,ex,nx⟩:=BF (Paired.imp' (λ_ _ z=>z.same s) qu) ix;obtain ⟨vy,ey,ny⟩:=BF (Paired.imp' (λ_ _ z=>z.same s) qw) iy;exists b9 (bE.of (s _ _ gu)) ex ?_;exists b9 (bE.of (s _ _ gw)) ey ?_;exists ⟨_,_,_,_,rfl,nx,ny,h1.szn (getD_mem ix) (by lia),h2.szn (getD_mem iy) (by lia),λr3 H3 s3 n3=>?_⟩;exists ⟨_,_,_,_,rfl,hr.same s3,n3,Mq h1 h2 hz i hkj,LJ (h1.one (getD_mem ix)) (h2.one (getD_mem iy)) hkj,λr4 H4 s4 n4=>?_⟩;exists ⟨(s.trans s3).trans s4,_,_,rfl,by rw[CI ix iy];exact n4⟩
  ·rintro σ' H' ⟨s,r,v,rfl,hr⟩;rw[aI (by lia),aI (by lia)] at hr;obtain ⟨t,rfl,ht⟩:=hr;exists kk _ H' s ⟨t,rfl,ht⟩
theorem GU:aP ["_law_grid","_law_row_here"] ["_law_grid","_law_row_here"] (aH wY):=by walk_at "d"
theorem Al (T:Txt K mg Z) (ptree:P.given.tree=none):cC P w K mg base eY 4 Z.Dc Z.CQ ["_law_grid","_law_row_here"] (Dw K):=by
 have lV:=rk (P:=P) (w:=w) (base:=base) T ptree;refine T.oZ.F.ok GU (λvs H Q E h=>?_) (λcdv A outer s H vs Q E hr h=>?_)
 ·obtain ⟨p,q,H0,rows,ys,rfl,_⟩:=h;rfl
 ·obtain ⟨p,q,H0,rows,ys,rfl,hp,hq,hz,hl,hr1,kk⟩:=h;refine ⟨_,(ay (aN (cv ["_law_one"] ["_law_row_here"] [1] (cu (pv 0)) (λ_=>(aK (i:=0) (show ND9 ["_law_one","_law_row_here"] by decide +kernel))) (λ_=>cB) (λ_=>(cJ lV hr T.kb (ae (pv 0) (ae (pv 1) aj))))))),?_⟩;refine aM (σ:=[some (.ref p),some (.ref q)]) rfl ?_;obtain ⟨xs,gx,qx,_⟩:=id hp;exists ⟨⟨_,bE.of gx⟩,?_⟩;refine dw (K:=K) (F:=cO K H0) (cA K) (λxs=>cG xs ys) gx qx hz (λa b=>a.same b) (λa b=>a.same b) ?_ ?_
  ·rintro i ns x H' NY NN en s ⟨u,rfl,_,hu⟩ k;obtain ⟨e1,e2⟩:=hr1 ns (au en);exists ⟨u,q,ns,ys,rfl,hu,hq.same s,e1.symm,by lia,e2,λr H2 s2 h2'=>k _ _ s2 h2'⟩
  ·rintro ys' H' r hr s g pr nx;exact kk r H' hr s ⟨ys',g,pr⟩
theorem fK:aP ["_law_parts_here","_law_state","_law_puts_here","_law_move_here","_law_put","_law_look","_law_found","_law_k"] ["_law_parts_here","_law_state","_law_puts_here"] (aH qP):=by walk_at "d"
theorem D5 (T:Txt K mg Z) (ptree:P.given.tree=none):cC P w K mg base eY 5 Z.yw Z.ya ["_law_parts_here","_law_state","_law_puts_here"] (E3 K):=by
 have xE:=Al (P:=P) (w:=w) (base:=base) T ptree;have rW:=uV (P:=P) (w:=w) (base:=base) T ptree;have jS:=uo (P:=P) (w:=w) (base:=base) T ptree;refine T.o3.F.ok fK (λvs H Q E h=>?_) (λcdv A outer s H vs Q E hr h=>?_)
 ·obtain ⟨r,s0,u0,H0,mv,pt,lk,st,pu,rfl,_⟩:=h;rfl
 ·obtain ⟨r,s0,u0,H0,mv,pt,lk,st,pu,rfl,PQ,D,hs,hu,l1,l2,NX,k⟩:=h
  refine ⟨_,(ar (eI (pv 0) (mS rfl (bX (aK (i:=3) fK.nd) (bX (aK (i:=4) fK.nd) (bX (aK (i:=5) fK.nd) eQ)))))
   (ar (a9 (i:=6) fK.nd rfl (Or.inl rfl) (cJ xE hr T.oZ (ae (pv 3) (ae (pv 1) aj))))
   (ar (df PassesOwn.never rfl (cy rfl T.range (ae (bF a7 (by rfl) T.len aR (ae (pv 4) aj)) aj)) (aK (i:=7) fK.nd)
    (ay (a9 (i:=6) fK.nd rfl (Or.inl rfl) (cJ rW hr T.kI (ae (pv 6) (ae (cJ jS hr T.iH (ae (aW bL (pv 2) (pv 7)) (ae (aW bL (pv 4) (pv 7)) aj))) aj))))))
   (ay (aN (pv 6)))))),?_⟩
  refine aM (σ:=[some (.ref r),some (.ref s0),some (.ref u0),none,none,none,none,none]) rfl ?_;obtain ⟨m,p,l,g,n1,n2,n3,Gm,Gp,Gl⟩:=id PQ;have d1:=D.n8;have d2:=D.i4;exists ⟨m,s0,H0,mv,st,rfl,Gm,hs,by lia,by lia,λxs hx=>⟨by rw[D.mw xs hx,l1],NX.f2 xs hx⟩,λf H1 nf s1 R1=>?_⟩;obtain ⟨ps,gp,qp,_⟩:=Gp.same s1;have lp:=qp.length;exists ⟨_,_,rfl,.inl (bE.of gp),?_⟩;exists ⟨by lia,by lia,?_⟩;refine eF (n:=ps.length) (λkk σ' H'=>∃(f:Addr) (x:Option V),σ'=[some (.ref r),some (.ref s0),some (.ref u0),some (.ref m),some (.ref p),some (.ref l),some (.ref f),x]/\H f=none/\aF H1 H'/\cL K H' f (nextK mv pt st pu kk)) ⟨f,none,rfl,nf,aF.refl _,by rw[HK];exact R1⟩ ?_ ?_
  ·rintro kk σ' H' hk ⟨f',x,rfl,nf',s',R'⟩;have kp:kk < pt.length:=by lia
   have ku:kk < pu.length:=by lia
   obtain ⟨zs,gz,qz⟩:=(hu.same s1).same s';have lz:=qz.length;obtain ⟨vu,eu,nu⟩:=BF qz ku;obtain ⟨row,vr,er,ev,mr,q,rfl,_,Rq⟩:=gL qp kp
   have er':pt[kk]=row:=by
    rw[ag kp] at er;exact bU er
   have eu':pu.getD kk 0=pu[kk]:=by rw[aa,ag ku];rfl
   have mu:pu.getD kk 0∈pu:=getD_mem ku;exists b9 (bE.of gz) eu ?_;exists b9 (bE.of (s' _ _ gp)) (dX ev) ?_;exists ⟨vu,q,_,row,rfl,nu,NX.su _ mu,Rq.same s',by rw[D.pw row mr];lia,NX.sp row mr,λr1 H2 n1' s2 R2=>?_⟩;exists ⟨f',r1,_,_,rfl,R'.same s2,R2,by rw[ah,iM,D.pw row mr],by rw[iM];lia,NX.part kk,λy hy=>?_,λr2 H3 n2' s3 R3=>?_⟩
   ·obtain ⟨y',hy',rfl⟩:=az.mp hy;exact NX.mul _ mu row mr y' hy'
   ·exists ⟨s1.none (s'.none (s2.none n2')),(s'.trans s2).trans s3,?_⟩;have e:=HL (st:=st) (pu:=pu) (λxs hx=>by rw[D.mw xs hx,l1]) kp ku (by rw[er'];exact D.pw row mr);rw[er',<- eu'] at e;rw[<- e];exact R3
  ·rintro σ' H' ⟨f',x,rfl,nf',s',R'⟩;rw[rY (by lia) (by lia)] at R';exists k f' H' nf' (s1.trans s') R'
theorem ic:aP ["_law_parts_here","_law_start","_law_puts_here","_law_state","_law_found","_law_row_here"] ["_law_parts_here","_law_start","_law_puts_here"] (aH oI):=by walk_at "d"
theorem sS (T:Txt K mg Z) (ptree:P.given.tree=none):cC P w K mg base eY 6 Z.vY Z.vH ["_law_parts_here","_law_start","_law_puts_here"] (Ck K):=by
 have xE:=Al (P:=P) (w:=w) (base:=base) T ptree;have Gi:=D5 (P:=P) (w:=w) (base:=base) T ptree;refine T.jZ.F.ok ic (λvs H Q E h=>?_) (λcdv A outer s H vs Q E hr h=>?_)
 ·obtain ⟨r,s,p,H0,H1,mv,pt,lk,pus,st,rfl,_⟩:=h;rfl
 ·obtain ⟨r,s,p,H0,H1,mv,pt,lk,pus,st,rfl,PQ,D,Rs,ls,Gp,p100,wp,LF,k⟩:=h
  refine ⟨_,(ar (a9 (i:=3) ic.nd rfl (Or.inl rfl) (eL (ij K (by rfl)) (by rfl) T.list PyProof.Rows.boot_list (ae (pv 1) aj)))
   (ar (a9 (i:=4) ic.nd rfl (Or.inl rfl) (du aj))
   (ar (df PassesOwn.never rfl (cu (pv 2)) (aK (i:=5) ic.nd)
    (ar (eO (ma bN cx cw fA (pv 4) (ae (cJ xE hr T.oZ (ae (aW bI (pv 0) ak) (ae (pv 3) aj))) aj)))
   (ay (a9 (i:=3) ic.nd rfl (Or.inl rfl) (cJ Gi hr T.o3 (ae (pv 0) (ae (pv 3) (ae (pv 5) aj))))))))
   (ay (aN (pv 4)))))),?_⟩
  refine aM (σ:=[some (.ref r),some (.ref s),some (.ref p),none,none,none]) rfl ?_;have d1:=D.n8;have o4:=D.o4;obtain ⟨ss,gs,qs⟩:=id Rs;obtain ⟨ps,gp,qp,_⟩:=id Gp;have lps:=qp.length;exists ⟨s,ss,rfl,.inl (bE.of gs),λc hc=>?_⟩;have sc:aF H (upd H c (.lst ss)):=aF.new hc;have Rc:cL K (upd H c (.lst ss)) c st:=⟨ss,aE,Paired.imp' (λ_ _ z=>z.same sc) qs⟩;generalize upd H c (.lst ss)=Hc at sc Rc ⊢;exists dd λfd H2 s2 n2 g2=>?_
  have s02:=sc.trans s2;have nfd:H fd=none:=sc.none n2;exists ⟨⟨_,bE.of (s02 _ _ gp)⟩,?_⟩;refine eX (K:=K) (a:=p) (xs:=ps) (λi σ' H'=>aF H H'/\∃q y us,σ'=[some (.ref r),some (.ref s),some (.ref p),some (.ref q),some (.ref fd),y]/\cL K H' q (pJ mv pt st pus i)/\q≠fd/\H' fd=some (.lst us)/\Paired (cO K H H') ((List.range i).map λt=>lk.map λxs=>cG xs (pJ mv pt st pus t)) us/\V.ref fd∉us) ⟨s02,c,_,[],rfl,Rc.same s2,λz=>(by rw[<- z] at n2;obtain ⟨_,g,_⟩:=Rc;rw[g] at n2;cases n2),g2,.nil,λz=>nomatch z⟩ (λi σ' H' _ ⟨e,_⟩=>bE.of (e _ _ gp)) ?_ ?_
  ·rintro i v σ' H' hv ⟨e,q,y,us,rfl,Rq,qf,gf,pf,nf⟩;obtain ⟨pu,epu,u,rfl,_,Ru⟩:=bY qp hv;have hi:i < pus.length:=(aB.mp epu).1;have mp:=au epu;have lus:=pf.length;rw[ah,cg] at lus;obtain ⟨m,p',l,gt,mn,pn,ln,Gm,Gp',Gl⟩:=id (PQ.same e);have lst:=oq (mv:=mv) (pt:=pt) (pus:=pus) (k:=i) ls (by lia);exists ⟨.inl ⟨rfl,_,bE.of gf⟩,?_⟩;exists ⟨l,q,_,lk,pJ mv pt st pus i,rfl,Gl,Rq,by lia,by lia,λxs hx=>⟨by rw[lst];exact D.lw xs hx,LF.fit i (by lia) xs hx⟩,λo H3 no s3 Ro=>?_⟩;have gf3:=s3 _ _ gf;have of:o≠fd:=λz=>by rw[z,gf] at no;cases no
   have pf3:=Paired.imp' (λ_ _ z=>cO.same z s3) pf;have Rq3:=Rq.same s3;have e3:=e.trans s3;exists fz gf3 (bC (by lia)) ?_;have e4:=e3.after (o:=.lst (us++[V.ref o])) nfd
   have Rq4:cL K (upd H3 fd (.lst (us++[V.ref o]))) q (pJ mv pt st pus i):=by
    obtain ⟨a1,a2,a3⟩:=Rq3;exact ⟨a1,by rw[bf qf];exact a2,Paired.imp' (λ_ _ z=>z.updL gf3) a3⟩
   have pf4:Paired (cO K H (upd H3 fd (.lst (us++[V.ref o])))) ((List.range (i+1)).map λt=>lk.map λxs=>cG xs (pJ mv pt st pus t)) (us++[V.ref o]):=by
    rw[iT,cE];refine cp ?_ (.cons ⟨o,rfl,e.none no,?_⟩ .nil)
    ·exact qY (λa x hx ⟨q',a1,a2,a3,a4,a5⟩=>⟨q',a1,a2,a3,by rw[bf λz=>nf (by rw[<- z,<- a1];exact hx)];exact a4,Paired.imp' (λ_ _ z=>z.updL gf3) a5⟩) pf3
    ·obtain ⟨a1,a2,a3⟩:=Ro;exact ⟨a1,by rw[bf of];exact a2,Paired.imp' (λ_ _ z=>z.updL gf3) a3⟩
   have gf4:(upd H3 fd (.lst (us++[V.ref o]))) fd=some (.lst (us++[V.ref o])):=aE
   have nf4:V.ref fd∉us++[V.ref o]:=λz=>by
    rcases ax.mp z with z | z
    ·exact nf z
    ·rw[cm] at z;cases z;exact of rfl
   generalize upd H3 fd (.lst (us++[V.ref o]))=H4 at e4 Rq4 pf4 gf4 ⊢;exists ⟨r,q,u,H0,mv,pt,lk,_,pu,rfl,PQ.same e4,D,Rq4,cL.same Ru e4,lst,wp pu mp,LF.en.nx D ls wp (by lia) epu,λq2 H5 n5 s5 R5=>?_⟩;rw[<- qj epu] at R5;exact ⟨e4.trans s5,q2,_,_,rfl,R5,(λz=>by rw[z,gf4] at n5;cases n5),s5 _ _ gf4,Paired.imp' (λ_ _ z=>cO.same z s5) pf4,nf4⟩
  ·rintro σ' H' ⟨e,q,y,us,rfl,Rq,qf,gf,pf,nf⟩;rw[<- lps] at pf;exists k fd H' nfd e ⟨us,gf,pf,nf⟩
theorem eB:aP ["wholes","multiple","whole"] ["wholes"] (aH ja):=by walk_at "d"
theorem uk (T:Txt K mg Z) (ptree:P.given.tree=none):cC P w K mg base eY 2 Z.mo Z.mi ["wholes"] (K6 K):=by
 have fG:=ji (P:=P) (w:=w) (base:=base) T ptree;refine T.iG.F.ok eB (λvs H Q E h=>?_) (λcdv A outer s H vs Q E hr h=>?_)
 ·obtain ⟨p,bs,M,rfl,_⟩:=h;rfl
 ·obtain ⟨p,bs,M,rfl,hp,hM,sM,hb,q⟩:=h
  refine ⟨_,(ar (a9 (i:=1) eB.nd rfl (Or.inl rfl) ak)
   (ar (df PassesOwn.never rfl (cu (pv 0)) (aK (i:=2) eB.nd)
    (ay (a9 (i:=1) eB.nd rfl (Or.inl rfl) (bM c5 (pv 1) (bM (jh rfl eB rfl rfl rfl ptree (vo hr)) (pv 2) (cJ fG hr T.eU (ae (pv 1) (ae (pv 2) aj))))))))
   (ay (aN (pv 1))))),?_⟩
  refine aM (σ:=[some (.ref p),none,none]) rfl ?_;exists ⟨⟨_,hp⟩,?_⟩;refine eX (K:=K) (a:=p) (xs:=bs.map V.int) (λi σ' H'=>H'=H/\∃x,σ'=[some (.ref p),some (.int (xp (bs.take i) 1)),x]) ⟨rfl,none,rfl⟩ (λi σ' H' _ ⟨e,_⟩=>by subst e;exact hp) ?_ ?_
  ·rintro i x σ' H' hx ⟨rfl,y,rfl⟩;rw[aD] at hx
   obtain ⟨b,eb,rfl⟩:∃b,bs[i]?=some b/\x=.int b:=by
    cases e:bs[i]? with
    | none=>rw[e] at hx;cases hx
    | some b=>rw[e] at hx;cases hx;exact ⟨b,rfl,rfl⟩
   have b1:=hb b (au eb);have sb:Sz 220000 b:=Em hM b1.2 sM;have ht:∀c∈bs.take i,0 < c/\c∣M:=λc hc=>hb c (cb hc)
   have msz:Sz 220000 (xp (bs.take i) 1):=Em hM (yX (by decide) (Int.one_dvd _) ht) sM;generalize hm:xp (bs.take i) 1=m at msz ⊢;have gp:0 < g m b:=AF (by lia);exists ⟨m,b,rfl,?_⟩;exists fj (show pW _ _ from ⟨by lia,(S9 b1.1 sb).mono (by decide)⟩) ?_;rw[cF _ (by lia)];exists fj (show fh _ _ from .inr ⟨_,_,msz,sb.hi (t:=m) (by lia),by decide⟩) ?_;exists ⟨rfl,_,by rw[take_snoc eb,Cy,hm];rfl⟩
  ·rintro σ' H' ⟨rfl,y,rfl⟩;walk_at "w";rw[aI (by simp)];exact q
theorem wL:aP ["row"] ["row"] (aH kn):=by walk_at "d"
theorem nH (T:Txt K mg Z) (ptree:P.given.tree=none):cC P w K mg base eY 3 Z.pS Z.pP ["row"] (K7 K):=by
 have v7:=uk (P:=P) (w:=w) (base:=base) T ptree;refine T.fB.F.ok wL (λvs H Q E h=>?_) (λcdv A outer s H vs Q E hr h=>?_)
 ·obtain ⟨p,ns,M,rfl,_⟩:=h;rfl
 ·obtain ⟨p,ns,M,rfl,hp,hl,hz,q⟩:=h;refine ⟨_,(ay (aN (cJ v7 hr T.iG (ae (cv ["value"] [] [] (cu (pv 0)) (λ_=>(aK (i:=0) (show ND9 ["value"] by decide +kernel))) (λ_=>cB) (λ_=>(aW (yY K (by rfl)) (pv 0) ak))) aj)))),?_⟩;refine aM (σ:=[some (.ref p)]) rfl ?_;obtain ⟨xs,gx,qx⟩:=id hp;have lx:=qx.length;exists ⟨⟨_,bE.of gx⟩,?_⟩;refine d6 (K:=K) (xs:=xs) (λi ys H'=>H'=H/\ys=((ns.take i).map (·.2)).map V.int) (bc (bC (by lia))) ⟨rfl,rfl⟩ (λi ys H' _ ⟨e,_⟩=>by subst e;exact bE.of gx) ?_ ?_
  ·rintro i x ys H' hx hlen ⟨rfl,rfl⟩;obtain ⟨n,en,r,rfl,hr1⟩:=bY qx hx;exists ⟨rfl,by rw[take_snoc en];simp⟩
  ·rintro ys H' hy ⟨rfl,rfl⟩ l hl';exists ⟨l,ns.map (·.2),M,rfl,bE.of (by rw[aE,aI (by lia)]),hz.1,hz.2.1,λb hb=>?_,?_⟩
   ·obtain ⟨n,hn,rfl⟩:=az.mp hb;exact ⟨(hz.2.2 n hn).1,(hz.2.2 n hn).2.1⟩
   ·exact q _ (aF.new hl')
theorem uJ:aP ["row","bottom"] ["row","bottom"] (aH qE):=by walk_at "d"
theorem uT (T:Txt K mg Z) (ptree:P.given.tree=none):cC P w K mg base eY 1 Z.yi Z.xP ["row","bottom"] (EY K):=by
 refine T.jm.F.ok uJ (λvs H Q E h=>?_) (λcdv A outer s H vs Q E hr h=>?_)
 ·obtain ⟨p,ns,M,B,rfl,_⟩:=h;rfl
 ·obtain ⟨p,ns,M,B,rfl,hp,hl,hz,hB,sB,q⟩:=h;refine ⟨_,(ay (aN (cv ["value"] ["bottom"] [1] (cu (pv 0)) (λ_=>(aK (i:=0) (show ND9 ["value","bottom"] by decide +kernel))) (λ_=>cB) (λ_=>(bM c5 (aW (yY K (by rfl)) (pv 0) ak) (bM (jh rfl uJ rfl rfl rfl ptree (vo hr)) (pv 1) (aW (yY K (by rfl)) (pv 0) ak))))))),?_⟩;refine aM (σ:=[some (.ref p),some (.int B)]) rfl ?_;obtain ⟨xs,gx,qx⟩:=id hp;have lx:=qx.length;exists ⟨⟨_,bE.of gx⟩,?_⟩;refine d6 (K:=K) (xs:=xs) (λi ys H'=>H'=H/\ys=(fg (ns.take i) B).map V.int) (bc (bC (by lia))) ⟨rfl,rfl⟩ (λi ys H' _ ⟨e,_⟩=>by subst e;exact bE.of gx) ?_ ?_
  ·rintro i x ys H' hx hlen ⟨rfl,rfl⟩;obtain ⟨n,en,r,rfl,hr1⟩:=bY qx hx;have nz:=hz.2.2 n (au en);have sn:Sz 220000 n.2:=Em hz.1 nz.2.1 hz.2.1;exists fj (show pW _ _ from ⟨by lia,sn.mono (by decide)⟩) ?_;rw[cF _ (by lia)]
   have sq:Sz 220000 (B / n.2):=sB.le (by
    rw[QN (by lia)];exact Nat.div_le_self ..)
   exists fj (show fh _ _ from .inr ⟨_,_,nz.2.2,sq,by decide⟩) ?_;exact ⟨rfl,by rw[take_snoc en];simp [fg]⟩
  ·rintro ys H' hy ⟨rfl,rfl⟩ l hl';exact q l _ hl' (aF.new hl') (by rw[aE,aI (by lia)])
theorem nF:aP ["top","bottom","divisor"] ["top","bottom"] (aH zT):=by walk_at "d"
theorem nG (T:Txt K mg Z) (ptree:P.given.tree=none):cC P w K mg base eY 2 Z.FZ Z.FL ["top","bottom"] JH:=by
 have fG:=ji (P:=P) (w:=w) (base:=base) T ptree;refine T.jL.F.ok nF (λvs H Q E h=>?_) (λcdv A outer s H vs Q E hr h=>?_)
 ·obtain ⟨t,b,rfl,_⟩:=h;rfl
 ·obtain ⟨t,b,rfl,hb,hs,k⟩:=h
  refine ⟨_,(ar (a9 (i:=2) nF.nd rfl (Or.inl rfl) (cJ fG hr T.eU (ae (pv 0) (ae (pv 1) aj))))
   (ar (cY (be pM (pv 1) ak (bB _)) (ay (a9 (i:=2) nF.nd rfl (Or.inl rfl) (uR oi (pv 2)))) bQ)
   (ay (aN (c8 (ae (bM (jh rfl nF rfl rfl rfl ptree (vo hr)) (pv 0) (pv 2)) (ae (bM (jh rfl nF rfl rfl rfl ptree (vo hr)) (pv 1) (pv 2)) aj))))))),?_⟩
  refine aM (σ:=[some (.int t),some (.int b),none]) rfl ?_;exists ⟨t,b,rfl,?_⟩;have hg:=AF (t:=t) hb
  have hgs:Sz 449950 (g t b):=hs.le (by
   have h1:(g t b).natAbs=Int.gcd t b:=by unfold g;simp
   rw[h1];exact gI (by lia) (by have:=eZ (a:=t) (b:=b);exact d5.mpr this |> λz=>by simpa using z))
  have hgn:g (-t) (-b)=g t b:=by unfold g;rw[Int.gcd_neg,Int.neg_gcd]
  exists gR (λh=>?_) (λh=>?_)
  ·have hb0:b < 0:=of_decide_eq_true h;exists fj (show pW _ _ from ⟨by lia,hgs.neg⟩) ?_;exists fj (show pW _ _ from ⟨by lia,hgs.neg⟩) ?_;exists cD λr H' s' h'=>?_
   have e1:t.fdiv (-g t b)=lo (-t) (-b):=by
    unfold Nm.lo;rw[hgn,<- cF _ (by lia),<- Int.neg_fdiv_neg (-t),Int.neg_neg]
   have e2:b.fdiv (-g t b)=hi (-t) (-b):=by
    unfold Nm.hi;rw[hgn,<- cF _ (by lia),<- Int.neg_fdiv_neg (-b),Int.neg_neg]
   exact k r H' s' (by rw[if_pos hb0,if_pos hb0,<- e1,<- e2];exact h')
  ·have hb0:¬b < 0:=λz=>h (decide_eq_true z)
   exists fj (show pW _ _ from ⟨by lia,hgs⟩) ?_;exists fj (show pW _ _ from ⟨by lia,hgs⟩) ?_;exists cD λr H' s' h'=>?_
   rw[cF _ (by lia),cF _ (by lia)] at h';exact k r H' s' (by rw[if_neg hb0,if_neg hb0];exact h')
theorem ow:aP ["one","other","one_bottom","other_bottom","pairs"] ["one","other"] (aH wO):=by walk_at "d"
theorem Ae (T:Txt K mg Z) (ptree:P.given.tree=none):cC P w K mg base eY 4 Z.C4 Z.CK ["one","other"] (Dx K):=by
 have iu:=nH (P:=P) (w:=w) (base:=base) T ptree;have mB:=uT (P:=P) (w:=w) (base:=base) T ptree;have jA:=nG (P:=P) (w:=w) (base:=base) T ptree;refine T.oS.F.ok ow (λvs H Q E h=>?_) (λcdv A outer s H vs Q E hr h=>?_)
 ·obtain ⟨p,q,xs,ys,rfl,_⟩:=h;rfl
 ·obtain ⟨p,q,xs,ys,rfl,hp,hq,hl,hz,⟨k1,j1,k2,j2,h1,h2,hkj⟩,kk⟩:=h
  refine ⟨_,(ar (a9 (i:=2) ow.nd rfl (Or.inl rfl) (cJ iu hr T.fB (ae (pv 0) aj)))
   (ar (a9 (i:=3) ow.nd rfl (Or.inl rfl) (cJ iu hr T.fB (ae (pv 1) aj)))
   (ar (a9 (i:=4) ow.nd rfl (Or.inl rfl) (Ht rfl T.list rfl T.zip (ae (cJ mB hr T.jm (ae (pv 0) (ae (pv 2) aj))) (ae (cJ mB hr T.jm (ae (pv 1) (ae (pv 3) aj))) aj))))
   (ay (aN (cJ jA hr T.jL (ae (bF (MB rfl) (by rfl) T.sum PyProof.Rows.boot_sum (ae (cv ["mine","yours"] [] [] (cu (pv 4)) (λ_=>(l9 K 2 (bX (aK (i:=0) (show ND9 ["mine","yours"] by decide +kernel)) (bX (aK (i:=1) (show ND9 ["mine","yours"] by decide +kernel)) eQ)))) (λ_=>cB) (λ_=>(bM c5 (pv 0) (pv 1)))) aj)) (ae (bM c5 (pv 2) (pv 3)) aj)))))))),?_⟩
  refine aM (σ:=[some (.ref p),some (.ref q),none,none,none]) rfl ?_;obtain ⟨M,h1⟩:=h1.rowM (by lia);obtain ⟨N,h2⟩:=h2.rowM (by lia);replace hp:=hp.rowK;replace hq:=hq.rowK;replace hl:(ys.map nm).length=(xs.map nm).length:=by simpa using hl
  replace hz:(xs.map nm).length<=1000:=by simpa using hz
  obtain ⟨b1,s1⟩:=h1.bot;obtain ⟨b2,s2⟩:=h2.bot;have k2:∀r H',aF H H'->H' r=some (.tup [.int (lo (Ms (xs.map nm) (ys.map nm)) (gG (xs.map nm)*gG (ys.map nm))),.int (hi (Ms (xs.map nm) (ys.map nm)) (gG (xs.map nm)*gG (ys.map nm)))])->Q (.ref r) H':=λr H' s g=>kk r H' s (cA.mk g (Oe b1 b2))
  clear kk;generalize xs.map nm=ns at hp hq hl hz h1 h2 b1 b2 s1 s2 k2;generalize ys.map nm=ms at hp hq hl hz h1 h2 b1 b2 s1 s2 k2;have hb:0 < gG ns*gG ms:=gD b1 b2;exists ⟨p,ns,M,rfl,hp,hz,h1,λH1 t1=>?_⟩;exists ⟨q,ms,N,rfl,hq.same t1,by lia,h2,λH2 t2=>?_⟩;have u2:=t1.trans t2;exists ⟨p,ns,M,_,rfl,hp.same u2,hz,h1,b1,s1,λr1 H3 n3 t3 g3=>?_⟩;exists ⟨q,ms,N,_,rfl,(hq.same u2).same t3,by lia,h2,b2,s2,λr2 H4 n4 t4 g4=>?_⟩;exists ⟨r1,r2,_,_,rfl,bE.of (t4 _ _ g3),bE.of g4,by simp [fg,hl],λL ts H5 t5 n5 g5 pr=>?_⟩;have lt:=pr.length;have ll:(fg ns (gG ns)).length=ns.length:=by simp [fg]
  have lm:(fg ms (gG ms)).length=ns.length:=by simp [fg,hl]
  rw[Bh,ah,ah,ll,lm] at lt;exists ⟨⟨_,bE.of g5⟩,?_⟩;refine d6 (K:=K) (xs:=ts) (λi ys H'=>H'=H5/\ys=((List.zipWith (λx y=>x*y) (fg ns (gG ns)) (fg ms (gG ms))).take i).map V.int) (bc (bC (by lia))) ⟨rfl,rfl⟩ (λi ys H' _ ⟨e,_⟩=>by subst e;exact bE.of g5) ?_ ?_
  ·rintro i x ys H' hx hlen ⟨rfl,rfl⟩;obtain ⟨pq,epq,T,rfl,gT⟩:=bY pr hx;obtain ⟨t,u,et,eu,rfl⟩:=MX epq;exists fj (show fh _ _ from .inr ⟨_,_,ES h1 b1 s1 (au et),ES h2 b2 s2 (au eu),by decide⟩) ?_;have ez:(List.zipWith (λx y=>x*y) (fg ns (gG ns)) (fg ms (gG ms)))[i]?=some (t*u):=by rw[bS,et,eu]
   exact ⟨rfl,by rw[take_snoc ez];simp⟩
  ·rintro ys H' hy ⟨rfl,rfl⟩ l hl';exists ⟨l,List.zipWith (λx y=>x*y) (fg ns (gG ns)) (fg ms (gG ms)),rfl,bE.of (by rw[aE,aI (by rw[bO];lia)]),?_⟩;exists fj (show fh _ _ from .inr ⟨_,_,s1,s2,by decide⟩) ?_;exists ⟨_,_,rfl,by lia,(s1.mul s2).mono (by decide),λr H6 t6 g6=>?_⟩;rw[if_neg (by lia),if_neg (by lia)] at g6;exact k2 r H6 ((((u2.trans t3).trans t4).trans t5).trans ((aF.new hl').trans t6)) g6
theorem GS:aP ["grid","row"] ["grid","row"] (aH wW):=by walk_at "d"
theorem Ah (T:Txt K mg Z) (ptree:P.given.tree=none):cC P w K mg base eY 5 Z.C8 Z.CO ["grid","row"] (Dw K):=by
 have xB:=Ae (P:=P) (w:=w) (base:=base) T ptree;refine T.oU.F.ok GS (λvs H Q E h=>?_) (λcdv A outer s H vs Q E hr h=>?_)
 ·obtain ⟨p,q,H0,rows,ys,rfl,_⟩:=h;rfl
 ·obtain ⟨p,q,H0,rows,ys,rfl,hp,hq,hz,hl,hr1,kk⟩:=h;refine ⟨_,(ay (aN (cv ["line"] ["row"] [1] (cu (pv 0)) (λ_=>(aK (i:=0) (show ND9 ["line","row"] by decide +kernel))) (λ_=>cB) (λ_=>(cJ xB hr T.oS (ae (pv 0) (ae (pv 1) aj))))))),?_⟩;refine aM (σ:=[some (.ref p),some (.ref q)]) rfl ?_;obtain ⟨xs,gx,qx,_⟩:=id hp;exists ⟨⟨_,bE.of gx⟩,?_⟩;refine dw (K:=K) (F:=cO K H0) (cA K) (λxs=>cG xs ys) gx qx hz (λa b=>a.same b) (λa b=>a.same b) ?_ ?_
  ·rintro i ns x H' NY NN en s ⟨u,rfl,_,hu⟩ k;obtain ⟨e1,e2⟩:=hr1 ns (au en);exists ⟨u,q,ns,ys,rfl,hu,hq.same s,e1.symm,by lia,e2,λr H2 s2 h2'=>k _ _ s2 h2'⟩
  ·rintro ys' H' r hr s g pr nx;exact kk r H' hr s ⟨ys',g,pr⟩
theorem zQ:aP ["self","state"] ["self","state"] (aH fQ):=by walk_at "d"
theorem An (T:Txt K mg Z) (ptree:P.given.tree=none):cC P w K mg base eY 6 Z.m9 Z.m8 ["self","state"] (EZ K Z.a_System):=by
 have xD:=Ah (P:=P) (w:=w) (base:=base) T ptree;refine T.tT.ok zQ (λvs H Q E h=>?_) (λcdv A outer s H vs Q E hr h=>?_)
 ·obtain ⟨x,p,H0,mv,pt,lk,st,rfl,_⟩:=h;rfl
 ·obtain ⟨x,p,H0,mv,pt,lk,st,rfl,S,D,F,hp,l1,fs,k⟩:=h;refine ⟨_,(ay (aN (cJ xD hr T.oU (ae (eJ (pv 0) rfl) (ae (pv 1) aj))))),?_⟩;refine aM (σ:=[some (.ref x),some (.ref p)]) rfl ?_;obtain ⟨dx,a,b,c,gx,n1,n2,n3,Ga,Gb,Gc⟩:=id S;have d3:=D.o4;have d1:=D.n8;exists ⟨x,Z.a_System,dx,_,_,rfl,gx,T.cl_System,T.na_look,EV,?_⟩;exists ⟨c,p,H0,lk,st,rfl,Gc,hp,by lia,by lia,λxs hx=>⟨by rw[D.lw xs hx,l1],.sys (F.fits λy hy=>.inr (.inr (.inl ⟨xs,hx,hy⟩))) fs⟩,k⟩
theorem zN:aP ["grid","wide"] ["grid","wide"] (aH mK):=by walk_at "d"
theorem lD (T:Txt K mg Z) (ptree:P.given.tree=none):cC P w K mg base eY 1 Z.tI Z.sW ["grid","wide"] (EX K):=by
 refine T.gN.F.ok zN (λvs H Q E h=>?_) (λcdv A outer s H vs Q E hr h=>?_)
 ·obtain ⟨p,w,H0,rows,rfl,_⟩:=h;rfl
 ·obtain ⟨p,w,H0,rows,rfl,hp,hz,hw,hl,kk⟩:=h;refine ⟨_,(ay (aN (cv ["place"] ["grid"] [0] (cy rfl T.range (ae (pv 1) aj)) (λ_=>(aK (i:=0) (show ND9 ["place","grid"] by decide +kernel) rfl (Or.inr rfl) (Or.inl rfl))) (λ_=>cB) (λ_=>(cv ["line"] ["place"] [0] (Fq K (pv 1)) (λ_=>(aK (i:=0) (show ND9 ["line","place"] by decide +kernel))) (λ_=>cB) (λ_=>(aW (fE K (by rfl)) (pv 0) (pv 1)))))))),?_⟩;refine aM (σ:=[some (.ref p),some (.int w)]) rfl ?_;exists ⟨by lia,by lia,?_⟩;refine fR (n:=w) (cO K H) (λj=>rows.map λxs=>xs.getD j 0) hw (λa b=>a.same b) ?_ ?_
  ·rintro j H1 NY NN hj s1 k1;obtain ⟨xs,gx,qx,_⟩:=hp.same s1;exists ⟨⟨_,bE.of gx⟩,?_⟩;refine dw (K:=K) (F:=cO K H0) (cA K) (λxs=>xs.getD j 0) gx qx hz (λa b=>a.same b) (λa b=>a.same b) ?_ ?_
   ·rintro i ns x H2 NY2 NN2 en s2 ⟨u,rfl,_,zs,gz,qz⟩ k2;obtain ⟨v,ev,hv⟩:=BF qz (j:=j) (by rw[hl ns (au en)];exact hj);exists b9 (bE.of gz) ev ?_;exact k2 _ _ (aF.refl _) hv
   ·rintro ys' H2 r hr s2 g pr nx;exact k1 _ _ s2 ⟨r,rfl,s1.none hr,ys',g,pr⟩
  ·rintro ys' H1 r hr s1 g pr nx;exact kk r H1 hr s1 ⟨ys',g,pr,ka nx⟩
theorem pK:aP ["self","state","puts","columns"] ["self","state","puts"] (aH fw):=by walk_at "d"
theorem yJ (T:Txt K mg Z) (ptree:P.given.tree=none):cC P w K mg base eY 5 Z.lU Z.lT ["self","state","puts"] (Cg K Z.a_System):=by
 have ik:=lD (P:=P) (w:=w) (base:=base) T ptree;have xB:=Ae (P:=P) (w:=w) (base:=base) T ptree;refine T.rX.ok pK (λvs H Q E h=>?_) (λcdv A outer s H vs Q E hr h=>?_)
 ·obtain ⟨x,p,q,H0,mv,pt,lk,st,pu,rfl,_⟩:=h;rfl
 ·obtain ⟨x,p,q,H0,mv,pt,lk,st,pu,rfl,S,D,F,hp,hq,l1,l2,fs,k⟩:=h
  refine ⟨_,(ar (a9 (i:=3) pK.nd rfl (Or.inl rfl) (cJ ik hr T.gN (ae (eJ (pv 0) rfl) (ae (eJ (pv 0) rfl) aj))))
   (ay (aN (cv ["line","column"] ["state","puts"] [1,2] (kE rfl T.zip (ae (eJ (pv 0) rfl) (ae (pv 3) aj))) (λ_=>(l9 K 2 (bX (aK (i:=0) (show ND9 ["line","column","state","puts"] by decide +kernel)) (bX (aK (i:=1) (show ND9 ["line","column","state","puts"] by decide +kernel)) eQ)))) (λ_=>cB) (λ_=>(cJ xB hr T.oS (ae (bM rd (pv 0) (pv 1)) (ae (bM rd (pv 2) (pv 3)) aj)))))))),?_⟩
  refine aM (σ:=[some (.ref x),some (.ref p),some (.ref q),none]) rfl ?_;obtain ⟨dx,a,b,c,gx,n1,n2,n3,Ga,Gb,Gc⟩:=id S;have d1:=D.n8;have d2:=D.i4;exists ⟨x,Z.a_System,dx,_,_,rfl,gx,T.cl_System,T.na_put,yS,?_⟩;exists ⟨x,Z.a_System,dx,_,_,rfl,gx,T.cl_System,T.na_states,iE,?_⟩;exists ⟨b,mv.length,H0,pt,rfl,Gb,by lia,by lia,D.pw,λt H1 nt s1 Gt=>?_⟩;obtain ⟨as,ga,qa,_⟩:=Ga.same s1;obtain ⟨ts,gt,qt,_⟩:=id Gt;have la:=qa.length;have lt:=qt.length;rw[cW] at lt;have gx1:=s1 _ _ gx;exists ⟨x,Z.a_System,dx,_,_,rfl,gx1,T.cl_System,T.na_move,zm,?_⟩;exists ⟨⟨_,bE.of ga⟩,⟨_,bE.of gt⟩,?_⟩;refine rN (K:=K) (xs:=as) (ws:=ts) (λi ys H'=>aF H1 H'/\Paired (cA K H') ((fX mv pt st pu).take i) ys) (bc (bC (by lia))) (by lia) ⟨aF.refl _,.nil⟩ (λi ys H' _ ⟨s,_⟩=>⟨bE.of (s _ _ ga),bE.of (s _ _ gt)⟩) ?_ ?_
  ·rintro i v1 v2 ys H' r h1 h2 hy ⟨s,pr⟩ hr;obtain ⟨line,el,u1,rfl,_,R1⟩:=bY qa h1;obtain ⟨col,ec,u2,rfl,_,R2⟩:=bY qt h2;have ml:=au el;have mc:=au ec;have sr:aF H' (upd H' r (.tup [.ref u1,.ref u2])):=aF.new hr;have gr:(upd H' r (.tup [.ref u1,.ref u2])) r=some (.tup [.ref u1,.ref u2]):=aE;have s2:=s.trans sr;generalize upd H' r (.tup [.ref u1,.ref u2])=H2 at sr gr s2 ⊢;have lc:col.length=pt.length:=wq col mc;have ll:line.length=mv.length:=D.mw line ml;obtain ⟨z1,g1,q1⟩:=R1.same s2;obtain ⟨z2,g2,q2⟩:=R2.same s2;have y1:=q1.length;have y2:=q2.length;exists xa g1 g2 (bc (bC (by lia))) λc1 H3 s3 n3' g3=>?_
   have s13:=s2.trans s3;obtain ⟨z3,g4,q3⟩:=(hp.same s1).same s13;obtain ⟨z4,g5,q4⟩:=(hq.same s1).same s13;have y3:=q3.length;have y4:=q4.length;exists xa g4 g5 (bc (bC (by lia))) λc2 H4 s4 n4 g6=>?_
   have s34:=s3.trans s4;exists ⟨c1,c2,line++col,st++pu,rfl,⟨_,s4 _ _ g3,Paired.imp' (λ_ _ z=>z.same s34) (cp q1 q2)⟩,⟨_,g6,Paired.imp' (λ_ _ z=>z.same s4) (cp q3 q4)⟩,by rw[ao,ao];lia,by rw[ao];lia,.sys ?_ fs,λr2 H5 s5 h5=>?_⟩
   ·refine F.fits λy hy=>?_
    rcases ax.mp hy with hy | hy
    ·exact .inl ⟨line,ml,hy⟩
    ·obtain ⟨j,_,rfl⟩:=az.mp mc;obtain ⟨xs,hx,rfl⟩:=az.mp hy;by_cases hj:j < xs.length
     ·refine .inr (.inl ⟨xs,hx,?_⟩);rw[aa,ag hj];exact aL hj
     ·exact .inr (.inr (.inr (by rw[aa,aO (by lia)];rfl)))
   ·have em:(fX mv pt st pu)[i]?=some (cG (line++col) (st++pu)):=by
     unfold fX;rw[bS,el,ec]
    refine ⟨((s2.trans s34).trans s5),?_⟩;rw[take_snoc em];exact cp (Paired.imp' (λ_ _ z=>(z.same (sr.trans s34)).same s5) pr) (.cons h5 .nil)
  ·rintro ys H' hy ⟨s,pr⟩ l hl;have lm:(fX mv pt st pu).length=mv.length:=by unfold fX;rw[bO,cW];lia
   rw[aI (by lia)] at pr;exact k l _ (s1.none (s.none hl)) ((s1.trans s).trans (aF.new hl)) ⟨ys,aE,Paired.imp' (λ_ _ z=>z.same (aF.new hl)) pr⟩
theorem wK:aP ["system","start","puts","states","row"] ["system","start","puts"] (aH zV):=by walk_at "d"
theorem JY (T:Txt K mg Z) (ptree:P.given.tree=none):cC P w K mg base eY 6 Z.F2 Z.FO ["system","start","puts"] (zI K Z.a_System):=by
 have Be:=yJ (P:=P) (w:=w) (base:=base) T ptree;refine T.xo.F.ok wK (λvs H Q E h=>?_) (λcdv A outer s H vs Q E hr h=>?_)
 ·obtain ⟨x,s,p,H0,H1,mv,pt,lk,pus,st,rfl,_⟩:=h;rfl
 ·obtain ⟨x,s,p,H0,H1,mv,pt,lk,pus,st,rfl,S,D,F,Rs,ls,Gp,lp,wp,cf,k⟩:=h
  refine ⟨_,(ar (a9 (i:=3) wK.nd rfl (Or.inl rfl) (du (ae (eL pB (by rfl) T.list PyProof.Rows.boot_list (ae (pv 1) aj)) aj)))
   (ar (df PassesOwn.never rfl (cu (pv 2)) (aK (i:=4) wK.nd)
    (ay (eO (ma bN cx cw fA (pv 3) (ae (IH (pv 0) T.cl_System T.pN Be (hr.mono (by decide)) T.rO .nil Aa (ae (aW bL (pv 3) (uR oi ak)) (ae (pv 4) aj))) aj)))))
   (ay (aN (pv 3))))),?_⟩
  refine aM (σ:=[some (.ref x),some (.ref s),some (.ref p),none,none]) rfl ?_;have d1:=D.n8;obtain ⟨ss,gs,qs⟩:=id Rs;obtain ⟨ps,gp,qp,_⟩:=id Gp;have lps:=qp.length;exists ⟨s,ss,rfl,.inl (bE.of gs),λc hc=>?_⟩;have sc:aF H (upd H c (.lst ss)):=aF.new hc;have Rc:cL K (upd H c (.lst ss)) c st:=⟨ss,aE,Paired.imp' (λ_ _ z=>z.same sc) qs⟩;generalize upd H c (.lst ss)=Hc at sc Rc ⊢;exists dd λl Hl sl nl gl=>?_
  have hl0:=sc.none nl;have s0:=sc.trans sl;have cl:c≠l:=λz=>by obtain ⟨_,g,_⟩:=Rc;rw[z,nl] at g;cases g
  have pr0:Paired (xA K H l Hl) ((ir mv pt st pus).take 1) [V.ref c]:=by
   have:(ir mv pt st pus).take 1=[st]:=by
    have e:=take_snoc (so (mv:=mv) (pt:=pt) (st:=st) (pus:=pus) (k:=0) (aZ _));rw[e];rfl
   rw[this];exact .cons ⟨c,rfl,hc,cl,Rc.same sl⟩ .nil
  exists ⟨⟨_,bE.of (s0 _ _ gp)⟩,?_⟩;refine eX (K:=K) (a:=p) (xs:=ps) (λi σ' H'=>aF H H'/\(∃y ys,σ'=[some (.ref x),some (.ref s),some (.ref p),some (.ref l),y]/\H' l=some (.lst ys)/\Paired (xA K H l H') ((ir mv pt st pus).take (i+1)) ys)) ⟨s0,_,_,rfl,gl,pr0⟩ (λi σ' H' _ ⟨e,_⟩=>bE.of (e _ _ gp)) ?_ ?_
  ·rintro i v σ' H' hv ⟨e,y,ys,rfl,g,pr⟩;obtain ⟨pu,epu,u,rfl,_,Ru⟩:=bY qp hv;have hi:i < pus.length:=(aB.mp epu).1;have mp:=au epu;have ly:=pr.length;rw[bR,pe] at ly;have ec:=so (mv:=mv) (pt:=pt) (st:=st) (pus:=pus) (k:=i) (by lia);have el:ys[i]?=some (ys[i]'(by lia)):=ag (by lia)
   obtain ⟨vl,evl,q,hq1,hq2,hq3,Rq⟩:∃vl,ys[i]?=some vl/\∃q,vl=V.ref q/\H q=none/\q≠l/\cL K H' q (pJ mv pt st pus i):=by
    obtain ⟨xs,ex,w⟩:=bY pr el;rw[kC (by lia),ec] at ex;cases ex;exact ⟨_,el,w⟩
   subst hq1
   have ey:∃zs,ys=zs++[V.ref q]:=by
    refine ⟨ys.take i,?_⟩;rw[<- take_snoc evl,aI (by lia)]
   obtain ⟨zs,rfl⟩:=ey;exists ⟨.inl ⟨rfl,_,bE.of g⟩,?_⟩;walk_at "w";obtain ⟨dx,_,_,_,gx,_⟩:=S.same e;refine ⟨x,dx,_,rfl,gx,JE,?_⟩;exists b9 (bE.of g) (vL _ _) ?_;exists ⟨x,q,u,H0,mv,pt,lk,_,pu,rfl,S.same e,D,F,Rq,Ru.same e,oq ls (by lia),wp pu mp,cf.both (by lia) mp,λr1 H2 n2 s2 R2=>?_⟩;have gn:=s2 _ _ g;exists fz gn (bC (by lia)) ?_;refine ⟨JN (e.trans s2) hl0,_,_,rfl,aE,?_⟩;rw[take_snoc (so (by lia)),qj epu];have rl:r1≠l:=λz=>by rw[z,g] at n2;cases n2
   exact cp (Paired.imp' (λ_ _ z=>(xA.same z s2).upd gn) pr) (.cons ⟨r1,rfl,e.none n2,rl,R2.updL gn rl⟩ .nil)
  ·rintro σ' H' ⟨e,y,ys,rfl,g,pr⟩;walk_at "w";rw[aI (by rw[pe];lia)] at pr;exact k l H' hl0 e ⟨ys,g,Paired.imp' (λ_ _ z=>xA.rowF z) pr,zY pr⟩
theorem zM:aP ["system","start","puts"] ["system","start","puts"] (aH mJ):=by walk_at "d"
theorem Ag (T:Txt K mg Z) (ptree:P.given.tree=none):cC P w K mg base eY 7 Z.tH Z.sV ["system","start","puts"] (Cj K Z.a_System):=by
 have BQ:=An (P:=P) (w:=w) (base:=base) T ptree;have MI:=JY (P:=P) (w:=w) (base:=base) T ptree;refine T.lK.F.ok zM (λvs H Q E h=>?_) (λcdv A outer s H vs Q E hr h=>?_)
 ·obtain ⟨x,s,p,H0,H1,mv,pt,lk,pus,st,rfl,_⟩:=h;rfl
 ·obtain ⟨x,s,p,H0,H1,mv,pt,lk,pus,st,rfl,S,D,F,Rs,ls,Gp,lp,wp,cf,k⟩:=h;refine ⟨_,(ay (aN (cv ["state"] ["system"] [0] (cu (cJ MI hr T.xo (ae (pv 0) (ae (pv 1) (ae (pv 2) aj))))) (λ_=>(aK (i:=0) (show ND9 ["state","system"] by decide +kernel))) (λ_=>cB) (λ_=>(IH (pv 1) T.cl_System T.rG BQ (hr.mono (by decide)) T.tD .nil Aa (ae (pv 0) aj)))))),?_⟩;refine aM (σ:=[some (.ref x),some (.ref s),some (.ref p)]) rfl ?_;exists ⟨x,s,p,H0,H1,mv,pt,lk,pus,st,rfl,S,D,F,Rs,ls,Gp,lp,wp,cf,λr Hr nr sr Gr=>?_⟩;obtain ⟨cs,gc,qc,_⟩:=id Gr;exists ⟨⟨_,bE.of gc⟩,?_⟩;refine dw (K:=K) (as:=ir mv pt st pus) (F:=cO K H) (cO K H) (L2.seenQ lk) gc qc (by rw[pe];lia) (λa b=>a.same b) (λa b=>a.same b) ?_ ?_
  ·rintro i xs v H' NY NN ec s' ⟨u,rfl,_,R⟩ k1;have mx:=au ec;obtain ⟨dx,_,_,_,gx,_⟩:=S.same (sr.trans s');exists ⟨x,dx,_,rfl,gx,K4,?_⟩;exists ⟨x,u,H0,mv,pt,lk,xs,rfl,S.same (sr.trans s'),D,F,R,My ls xs mx,cf.all xs mx,λr2 H2 n2 s2 R2=>k1 _ _ s2 ⟨r2,rfl,sr.none (s'.none n2),R2⟩⟩
  ·rintro ys H2 r2 hr s2 g2 pr nx;exact k r2 H2 (sr.none hr) (sr.trans s2) ⟨ys,g2,pr,ka nx⟩
theorem Bo:aP ["many"] ["many"] (aH oz):=by walk_at "d"
theorem mU (T:Txt K mg Z) (ptree:P.given.tree=none):cC P w K mg base eY 1 Z.vP Z.vw ["many"] (Pl K):=by
 refine T.ig.F.ok Bo (λvs H Q E h=>?_) (λcdv A outer s H vs Q E hr h=>?_)
 ·obtain ⟨m,rfl,_⟩:=h;rfl
 ·obtain ⟨m,rfl,hm,k⟩:=h;refine ⟨_,(ay (aN (cv ["place"] [] [] (cy rfl T.range (ae (pv 0) aj)) (λ_=>(aK (i:=0) (show ND9 ["place"] by decide +kernel))) (λ_=>cB) (λ_=>(kF (v:=.ref Z.a_NOUGHT) rfl T.mg_NOUGHT rfl))))),?_⟩;refine aM (σ:=[some (.int m)]) rfl ?_;exists ⟨by lia,by lia,?_⟩;refine fR (n:=m) (cA K) (λ_=>0) (by lia) (λa b=>a.same b) ?_ ?_
  ·rintro i Ha NY NN hi sa k1;exists k1 _ _ (aF.refl _) ⟨_,rfl,T.sq_NOUGHT _⟩
  ·rintro ys H1 t ht s1 g1 pr _;exact k t H1 ht s1 ⟨ys,g1,by rw[<- LO];exact pr⟩
theorem Lc:aP ["one","other"] ["one","other"] (aH DO):=by walk_at "d"
theorem Fw (T:Txt K mg Z) (ptree:P.given.tree=none):cC P w K mg base eY 3 Z.Ju Z.Jk ["one","other"] (mF K (λx y=>x - y)):=by
 have jA:=nG (P:=P) (w:=w) (base:=base) T ptree;refine T.vd.F.ok Lc (λvs H Q E h=>?_) (λcdv A outer s H vs Q E hr h=>?_)
 ·obtain ⟨p,q,a,b,c,d,rfl,hp,hq,hb,hd,sa,sb,sc,sd,k⟩:=yT h;rfl
 ·obtain ⟨p,q,a,b,c,d,rfl,hp,hq,hb,hd,sa,sb,sc,sd,k⟩:=yT h;refine ⟨_,(ay (aN (cJ jA hr T.jL (ae (bM lB (bM c5 (aW bI (pv 0) ak) (aW bI (pv 1) ak)) (bM c5 (aW bI (pv 1) ak) (aW bI (pv 0) ak))) (ae (bM c5 (aW bI (pv 0) ak) (aW bI (pv 1) ak)) aj))))),?_⟩;refine aM (σ:=[some (.ref p),some (.ref q)]) rfl ?_;have hbd:0 < b*d:=gD hb hd;have sbd:Sz 449950 (b*d):=(sb.mul sd).mono (by decide);exists fj (show fh _ _ from .inr ⟨_,_,sa,sd,by decide⟩) ?_;exists fj (show fh _ _ from .inr ⟨_,_,sc,sb,by decide⟩) ?_;exists fj (show fh _ _ from .inr ⟨_,_,sb,sd,by decide⟩) ?_;walk_at "w";exists ⟨_,_,rfl,by lia,sbd,λr H' s' h'=>?_⟩;rw[if_neg (by lia),if_neg (by lia)] at h';exact k r H' s' h'
theorem DC:aP ["one","other"] ["one","other"] (aH qG):=by walk_at "d"
theorem uU (T:Txt K mg Z) (ptree:P.given.tree=none):cC P w K mg base eY 4 Z.yk Z.xR ["one","other"] (wG K):=by
 have EA:=Fw (P:=P) (w:=w) (base:=base) T ptree;refine T.kH.F.ok DC (λvs H Q E h=>?_) (λcdv A outer s H vs Q E hr h=>?_)
 ·obtain ⟨p,q,xq,yq,rfl,_⟩:=h;rfl
 ·obtain ⟨p,q,xq,yq,rfl,hp,hq,hl,hz,hn,hm,k⟩:=h;refine ⟨_,(ay (aN (cv ["mine","yours"] [] [] (kE rfl T.zip (ae (pv 0) (ae (pv 1) aj))) (λ_=>(l9 K 2 (bX (aK (i:=0) (show ND9 ["mine","yours"] by decide +kernel)) (bX (aK (i:=1) (show ND9 ["mine","yours"] by decide +kernel)) eQ)))) (λ_=>cB) (λ_=>(cJ EA hr T.vd (ae (pv 0) (ae (pv 1) aj))))))),?_⟩;refine aM (σ:=[some (.ref p),some (.ref q)]) rfl ?_;obtain ⟨xs,gx,qx⟩:=id hp;obtain ⟨ys,gy,qy⟩:=id hq;have lx:=qx.length;have ly:=qy.length;exists ⟨⟨_,bE.of gx⟩,⟨_,bE.of gy⟩,?_⟩;refine rN (K:=K) (xs:=xs) (ws:=ys) (λi zs H'=>aF H H'/\Paired (cA K H') ((List.zipWith (λx y=>x - y) xq yq).take i) zs) (bc (bC (by lia))) (by lia) ⟨aF.refl _,.nil⟩ (λi zs H' _ ⟨s,_⟩=>⟨bE.of (s _ _ gx),bE.of (s _ _ gy)⟩) ?_ ?_
  ·rintro i x y zs H' r hx hy hlen ⟨s,hP⟩ hr;obtain ⟨n,en,hn1⟩:=bY qx hx;obtain ⟨m,em,hm1⟩:=bY qy hy;have s1:=aF.new (o:=.tup [x,y]) hr;have s01:=s.trans s1;have gr:(upd H' r (.tup [x,y])) r=some (.tup [x,y]):=aE;generalize upd H' r (.tup [x,y])=Hr at s1 s01 gr ⊢;exists ⟨_,_,n,m,rfl,hn1.same s01,hm1.same s01,hn n (au en),hm m (au em),λr3 H3 s3 h3=>?_⟩;refine ⟨s01.trans s3,?_⟩;have ez:(List.zipWith (λx y=>x - y) xq yq)[i]?=some (n - m):=by rw[bS,en,em]
   rw[take_snoc ez];exact cp (Paired.imp' (λ_ _ z=>z.same (s1.trans s3)) hP) (.cons h3 .nil)
  ·rintro zs H' hy ⟨s,hP⟩ l hl';rw[aI (by rw[bO];lia)] at hP;exact k l _ (s.none hl') (s.trans (aF.new hl')) ⟨zs,aE,Paired.imp' (λ_ _ z=>z.same (aF.new hl')) hP⟩
theorem sN:aP ["lines","begin","place","at"] ["lines","begin","place"] (aH oB):=by walk_at "d"
theorem Bv (T:Txt K mg Z) (ptree:P.given.tree=none):cC P w K mg base eY 1 Z.vR Z.vA ["lines","begin","place"] Cn:=by
 refine T.mX.F.ok sN (λvs H Q E h=>?_) (λcdv A outer s H vs Q E hr h=>?_)
 ·obtain ⟨l,p,ls,b,c,rfl,_⟩:=h;rfl
 ·obtain ⟨l,p,ls,b,c,rfl,G,l1000,b1000,hc,k1,k2⟩:=h
  refine ⟨_,(ar (df PassesOwn.never rfl (JS rfl T.range (ae (pv 1) (ae (bF a7 (by rfl) T.len aR (ae (pv 0) aj)) aj))) (aK (i:=3) sN.nd)
    (ay (cY (be sP (aW bL (aW bL (pv 0) (pv 3)) (pv 2)) ak (bB _)) (ay (aN (pv 3))) bQ)))
   (ay (aN oM))),?_⟩
  refine aM (σ:=[some (.ref p),some (.int b),some (.int c),none]) rfl ?_;obtain ⟨_,xs,gx,qx⟩:=id G;have lx:=qx.length;exists ⟨_,_,rfl,.inl (bE.of gx),?_⟩;rw[<- lx];exists ⟨⟨by lia,by lia,by lia,by lia⟩,?_⟩;refine CF (lo:=(b:Int)) (n:=((ls.length:Int) - (b:Int)).toNat) (λi σ' H'=>H'=H/\(∃y,σ'=[some (.ref p),some (.int b),some (.int c),y])/\∀s,b<=s->s < b+i->dH ls s c=0) ⟨rfl,⟨_,rfl⟩,λs h1 h2=>absurd h2 (by lia)⟩ ?_ ?_
  ·rintro i σ' H' hi ⟨rfl,⟨y,rfl⟩,hz⟩;rw[show ((b:Int)+(i:Int))=((b+i:Nat):Int) by lia];obtain ⟨zs,v,ez,ev,mz,q,rfl,_,gq⟩:=gL qx (i:=b+i) (by lia);exists b9 (bE.of gx) (dX ev) ?_;exists b9 (bE.of gq) (zh (hc zs mz)) ?_;walk_at "w";have ef:=KO (c:=c) ez;by_cases e:zs.getD c 0=0
   ·rw[decide_eq_true e];exists ⟨rfl,⟨_,rfl⟩,λs h1 h2=>?_⟩;by_cases e2:s=b+i
    ·rw[e2,ef,e];rfl
    ·exact hz s h1 (by lia)
   ·rw[decide_eq_false e];exists k1 (b+i) (by lia) (by lia) (by rw[ef];exact SN.mpr e)
  ·rintro σ' H' ⟨rfl,⟨y,rfl⟩,hz⟩;exists k2 λt h1 h2=>hz t h1 (by lia)
theorem kZ:aP ["lines","at","place","before","used","by","swept"] ["lines","at","place","before"] (aH wX):=by walk_at "d"
theorem HH (T:Txt K mg Z) (ptree:P.given.tree=none):cC P w K mg base eY 1 Z.C9 Z.CP ["lines","at","place","before"] Co:=by
 refine T.uv.F.ok kZ (λvs H Q E h=>?_) (λcdv A outer s H vs Q E hr h=>?_)
 ·obtain ⟨l,p,ls,kk,c,n,b,rfl,_⟩:=h;rfl
 ·obtain ⟨l,p,ls,kk,c,n,b,rfl,hl,G,l1000,hk,hw,n1000,hc,b0,sb,hs,k⟩:=h
  refine ⟨_,(ar (a9 (i:=4) kZ.nd rfl (Or.inr rfl) (aW bL (pv 0) (pv 1)))
   (ar (a9 (i:=5) kZ.nd rfl (Or.inr rfl) (aW bL (pv 4) (pv 2)))
   (ar (je 6 ["line"] ["used","by","place","before"] [4,5,2,3] kZ.nd rfl rfl (cu (pv 0)) (λ_=>(aK (i:=0) (show ND9 ["line","used","by","place","before"] by decide +kernel) rfl (Or.inr rfl) (Or.inl rfl))) (λ_=>cB) (λ_=>(cv ["mine","yours"] ["by","line","place","before"] [2,0,3,4] (Lu K rfl T.zip (ae (pv 0) (ae (pv 1) aj))) (λ_=>(l9 K 2 (bX (aK (i:=0) (show ND9 ["mine","yours","by","line","place","before"] by decide +kernel)) (bX (aK (i:=1) (show ND9 ["mine","yours","by","line","place","before"] by decide +kernel)) eQ)))) (λ_=>cB) (λ_=>(bM (jh rfl kZ rfl rfl rfl ptree (vo hr)) (bM lB (bM c5 (pv 2) (pv 0)) (bM c5 (aW (fE K (by rfl)) (pv 3) (pv 4)) (pv 1))) (pv 5))))))
   (ar (eI (pv 4) (gK (pv 6) (pv 1) set_list))
   (ay (aN (pv 6))))))),?_⟩
  refine aM (σ:=[some (.ref p),some (.int kk),some (.int c),some (.int b),none,none,none]) rfl ?_;obtain ⟨pl,xs,gx,qx⟩:=id G;have lx:=qx.length;obtain ⟨zk,vk,ek,evk,mk,qk,rfl,qkl,gk⟩:=gL qx hk;have wk:=hw zk mk;have ek':ls.getD kk []=zk:=by rw[aa,ek];rfl
  exists b9 (bE.of gx) (dX evk) ?_;exists b9 (bE.of gk) (zh (by lia)) ?_;exists ⟨⟨_,bE.of gx⟩,?_⟩;refine d6 (K:=K) (xs:=xs) (λi ys H'=>aF H H'/\Paired (Jw l H') ((ls.take i).map λzs=>List.zipWith (λx y=>(zk.getD c 0*x - zs.getD c 0*y).fdiv b) zs zk) ys) (bc (bC (by lia))) ⟨aF.refl _,.nil⟩ (λi ys H' _ ⟨s,_⟩=>bE.of (s _ _ gx)) ?_ ?_
  ·rintro i v ys0 H' hx hlen ⟨s',pr⟩;obtain ⟨zs,ec,q,rfl,ql,gq⟩:=bY qx hx;have mz:=au ec;have wz:=hw zs mz;have gq':=s' _ _ gq;have gk':=s' _ _ gk;exists ⟨⟨_,bE.of gq'⟩,⟨_,bE.of gk'⟩,?_⟩;refine rN (K:=K) (xs:=zs.map V.int) (ws:=zk.map V.int) (λj ys H2=>aF H' H2/\ys=((List.zipWith (λx y=>(zk.getD c 0*x - zs.getD c 0*y).fdiv b) zs zk).take j).map V.int) (bc (bC (by rw[ah];lia))) (by rw[ah,ah];lia) ⟨aF.refl _,rfl⟩ (λj ys H2 _ ⟨s2,_⟩=>⟨bE.of (s2 _ _ gq'),bE.of (s2 _ _ gk')⟩) ?_ ?_
   ·rintro j v1 v2 ys H2 r h1 h2 hy ⟨s2,rfl⟩ hr
    obtain ⟨x,ex,rfl⟩:∃x,zs[j]?=some x/\V.int x=v1:=by
     rw[aD] at h1;cases e:zs[j]? with
     | none=>rw[e] at h1;cases h1
     | some x=>rw[e] at h1;exact ⟨x,rfl,bU h1⟩
    obtain ⟨y,ey,rfl⟩:∃y,zk[j]?=some y/\V.int y=v2:=by
     rw[aD] at h2;cases e:zk[j]? with
     | none=>rw[e] at h2;cases h2
     | some x=>rw[e] at h2;exact ⟨x,rfl,bU h2⟩
    have sr:aF H2 (upd H2 r (.tup [.int x,.int y])):=aF.new hr;have gr:(upd H2 r (.tup [.int x,.int y])) r=some (.tup [.int x,.int y]):=aE;generalize upd H2 r (.tup [.int x,.int y])=H3 at sr gr ⊢;have gq3:=sr _ _ (s2 _ _ gq');have sx:=hs zs mz x (au ex);have sy:=hs zk mk y (au ey);have s1:=hs zk mk _ (getD_in (e:=0) (show c < zk.length by lia));have s3:=hs zs mz _ (getD_in (e:=0) (show c < zs.length by lia));exists fj (show fh _ _ from .inr ⟨_,_,s1,sx,by decide⟩) ?_;exists b9 (bE.of gq3) (zh (by lia)) ?_;exists fj (show fh _ _ from .inr ⟨_,_,s3,sy,by decide⟩) ?_;exists fj (show pW _ _ from ⟨b0,sb⟩) ?_;have ez:(List.zipWith (λx y=>(zk.getD c 0*x - zs.getD c 0*y).fdiv b) zs zk)[j]?=some ((zk.getD c 0*x - zs.getD c 0*y).fdiv b):=by rw[bS,ex,ey]
    exact ⟨s2.trans sr,by rw[take_snoc ez];simp⟩
   ·rintro ys H2 hy ⟨s2,rfl⟩ r hr;have sn:aF H2 (upd H2 r (.lst (((List.zipWith (λx y=>(zk.getD c 0*x - zs.getD c 0*y).fdiv b) zs zk).take (zs.map V.int).length).map V.int))):=aF.new hr;refine ⟨(s'.trans s2).trans sn,?_⟩;rw[take_snoc ec,cE];refine cp (Paired.imp' (λ_ _ z=>(Jw.same z s2).same sn) pr) (.cons ⟨r,rfl,ne_old (λz=>hl (s'.none (s2.none z))) hr,?_⟩ .nil);rw[aE,aI (by rw[bO,ah];lia)]
  ·rintro ys H1 hy ⟨s1,pr⟩ r hr;have sn:aF H1 (upd H1 r (.lst ys)):=aF.new hr;have gn:(upd H1 r (.lst ys)) r=some (.lst ys):=aE;have ly:=pr.length;rw[ah,bR] at ly;generalize upd H1 r (.lst ys)=H2 at sn gn ⊢;exists eN gn (fo (by lia)) rfl ?_;have s2:aF H1 (upd H2 r (.lst (ys.set kk (.ref qk)))):=sn.after hr;exists k r _ (s1.none hr) (s1.trans s2) ⟨ne_old (λz=>hl (s1.none z)) hr,_,aE,?_⟩;unfold FQ;rw[ek'];rw[aI (by lia)] at pr;exact jK (Paired.imp' (λ_ _ z=>Jw.same z s2) pr) kk ⟨qk,rfl,qkl,(s1.trans s2) _ _ gk⟩
theorem sO:aP ["lines","at","to","swapped"] ["lines","at","to"] (aH oC):=by walk_at "d"
theorem Bw (T:Txt K mg Z) (ptree:P.given.tree=none):cC P w K mg base eY 1 Z.vS Z.vB ["lines","at","to"] xM:=by
 refine T.mY.F.ok sO (λvs H Q E h=>?_) (λcdv A outer s H vs Q E hr h=>?_)
 ·obtain ⟨l,p,ls,t,kk,rfl,_⟩:=h;rfl
 ·obtain ⟨l,p,ls,t,kk,rfl,hl,G,l1000,ht,hk,k⟩:=h
  refine ⟨_,(ar (a9 (i:=3) sO.nd rfl (Or.inl rfl) (eL pB (by rfl) T.list PyProof.Rows.boot_list (ae (pv 0) aj)))
   (ar (eI (aW bL (pv 0) (pv 1)) (gK (pv 3) (pv 2) set_list))
   (ar (eI (aW bL (pv 0) (pv 2)) (gK (pv 3) (pv 1) set_list))
   (ay (aN (pv 3)))))),?_⟩
  refine aM (σ:=[some (.ref p),some (.int t),some (.int kk),none]) rfl ?_;obtain ⟨pl,xs,gx,qx⟩:=id G;have lx:=qx.length;obtain ⟨zt,vt,et,evt,_,Ft⟩:=gL qx ht;obtain ⟨zk,vk,ek,evk,_,Fk⟩:=gL qx hk;exists ⟨p,xs,rfl,.inl (bE.of gx),λc hc=>?_⟩;have sc:aF H (upd H c (.lst xs)):=aF.new hc;have gc:(upd H c (.lst xs)) c=some (.lst xs):=aE;generalize upd H c (.lst xs)=Hc at sc gc ⊢;exists b9 (bE.of (sc _ _ gx)) (dX evt) ?_;exists eN gc (fo (by lia)) rfl ?_;have s1:aF H (upd Hc c (.lst (xs.set kk vt))):=sc.after hc;have g1:(upd Hc c (.lst (xs.set kk vt))) c=some (.lst (xs.set kk vt)):=aE;generalize upd Hc c (.lst (xs.set kk vt))=H1 at s1 g1 ⊢;exists b9 (bE.of (s1 _ _ gx)) (dX evk) ?_;exists eN g1 (fo (by rw[dU];lia)) rfl ?_;have s2:aF H (upd H1 c (.lst ((xs.set kk vt).set t vk))):=s1.after hc;exists k c _ hc s2 ⟨ne_old hl hc,_,aE,?_⟩;have et':ls.getD t []=zt:=by rw[aa,et];rfl
  have ek':ls.getD kk []=zk:=by rw[aa,ek];rfl
  unfold oo;rw[et',ek'];exact jK (jK (Paired.imp' (λ_ _ z=>Jw.same z s2) qx) kk (Jw.same Ft s2)) t (Jw.same Fk s2)
theorem iV:aP ["rows","wide","lines","leads","before","place","many","at"] ["rows","wide"] (aH DK):=by walk_at "d"
theorem Fv (T:Txt K mg Z) (ptree:P.given.tree=none):cC P w K mg base eY 4 Z.Jr Z.Jh ["rows","wide"] (BX K):=by
 have mB:=uT (P:=P) (w:=w) (base:=base) T ptree;have iu:=nH (P:=P) (w:=w) (base:=base) T ptree;have EB:=Bv (P:=P) (w:=w) (base:=base) T ptree;have Kv:=HH (P:=P) (w:=w) (base:=base) T ptree;have EC:=Bw (P:=P) (w:=w) (base:=base) T ptree;refine T.u6.F.ok iV (λvs H Q E h=>?_) (λcdv A outer s H vs Q E hr h=>?_)
 ·obtain ⟨p,n,w,H0,rows,rfl,_⟩:=h;rfl
 ·obtain ⟨p,n,w,H0,rows,rfl,G,r100,n100,hw,F,k⟩:=h
  refine ⟨_,(ar (je 2 ["row"] [] [] iV.nd rfl rfl (cu (pv 0)) (λ_=>(aK (i:=0) (show ND9 ["row"] by decide +kernel))) (λ_=>cB) (λ_=>(cJ mB hr T.jm (ae (pv 0) (ae (cJ iu hr T.fB (ae (pv 0) aj)) aj)))))
   (ar (a9 (i:=3) iV.nd rfl (Or.inl rfl) (du aj))
   (ar (a9 (i:=4) iV.nd rfl (Or.inl rfl) ak)
   (ar (df PassesOwn.never rfl (cy rfl T.range (ae (pv 1) aj)) (aK (i:=5) iV.nd)
    (ar (a9 (i:=6) iV.nd rfl (Or.inl rfl) (bF a7 (by rfl) T.len aR (ae (pv 3) aj)))
   (ar (a9 (i:=7) iV.nd rfl (Or.inl rfl) (cJ EB hr T.mX (ae (pv 2) (ae (pv 6) (ae (pv 5) aj)))))
   (ay (cY (be IK (pv 7) oM (bB _)) (ar (a9 (i:=2) iV.nd rfl (Or.inl rfl) (cJ Kv hr T.uv (ae (cJ EC hr T.mY (ae (pv 2) (ae (pv 7) (ae (pv 6) aj)))) (ae (pv 6) (ae (pv 5) (ae (pv 4) aj))))))
   (ar (a9 (i:=4) iV.nd rfl (Or.inl rfl) (aW bL (aW bL (pv 2) (pv 6)) (pv 5)))
   (ay (eO (ma bN cx cw fA (pv 3) (ae (pv 5) aj)))))) bQ)))))
   (ay (aN (c8 (ae (z9 Dz (pv 2) DR (DQ (bF a7 (by rfl) T.len aR (ae (pv 3) aj)))) (ae (pv 3) aj))))))))),?_⟩
  refine aM (σ:=[some (.ref p),some (.int n),none,none,none,none,none,none]) rfl ?_;obtain ⟨xs,gx,qx,_⟩:=id G;obtain ⟨W,hW,W2,ent⟩:=F.ent;obtain ⟨_,_,_,_,_,_,_,_,r15,r89⟩:=id F;exists ⟨⟨_,bE.of gx⟩,?_⟩;refine dw (K:=K) (as:=rows) (F:=cO K H0) (λ(H:Hp) (zs:List Int) (v:V)=>∃q,v=V.ref q/\H q=some (.lst (zs.map V.int))) gE gx qx (by lia) (λa b=>a.same b) (λ⟨q,a,b⟩ s=>⟨q,a,s _ _ b⟩) ?_ ?_
  ·rintro i qs v H' NY NN ec s' ⟨u,rfl,_,R⟩ k1;have mx:=au ec;obtain ⟨M,hM⟩:=F.rowM mx;obtain ⟨b1,sb⟩:=hM.bot;have lq:(qs.map nm).length<=1000:=by rw[ah,hw qs mx];lia
   exists ⟨u,_,M,rfl,R.rowK,lq,hM,λH2 s2=>?_⟩;exists ⟨u,_,M,_,rfl,(R.same s2).rowK,lq,hM,b1,sb,λr H3 n3 s3 g3=>k1 _ _ (s2.trans s3) ⟨r,rfl,g3⟩⟩
  rintro ys H1 lp0 hlp s1 g1 pr1 nx1;exists dd λqp H2 s2 nq gq=>?_
  have G2:rR qp H2 lp0 (rows.map gE):=⟨(λz=>by rw[z,nq] at g1;cases g1),ys,s2 _ _ g1,Paired.imp' (λ_ _ ⟨q,a,b⟩=>⟨q,a,(λz=>by rw[z,nq] at b;cases b),s2 _ _ b⟩) pr1⟩;have hq0:H qp=none:=s1.none nq;have s02:=s1.trans s2;have hm:(rows.map gE).length=rows.length:=ah ..;clear g1 pr1 nx1;exists ⟨by lia,by lia,?_⟩;refine eF (n:=n) (λP σ' H'=>aF H H'/\∃lp ls ps d y1 y2 y3,σ'=[some (.ref p),some (.int n),some (.ref lp),some (.ref qp),some (.int d),y1,y2,y3]/\H' qp=some (.lst (c7 ps))/\rR qp H' lp ls/\De (rows.map gE) n P ls ps d) ⟨s02,lp0,rows.map gE,[],1,_,_,_,rfl,gq,G2,De.start λzs hz=>by obtain ⟨x,hx,rfl⟩:=az.mp hz;rw[nk];exact hw x hx⟩ ?_ ?_
  ·rintro P σ' H' hP ⟨s',lp,ls,ps,d,y1,y2,y3,rfl,gq',G',I⟩;have hl:=I.len;have kP:=I.el.kP;have km:=I.el.km;have lps:(c7 ps).length=ps.length:=ah ..;have hqp:H' qp≠none:=by rw[gq'];exact λz=>nomatch z
   obtain ⟨z1,z2⟩:=I.sz (r:=min rows.length n) hW ent (by lia) (by rw[hm];exact aw _) r15;have big:(16*W)^min rows.length n < 2^449950:=bo (xh W2) (dB (by decide) (by lia));exists ⟨_,_,rfl,.inl (bE.of gq'),?_⟩;rw[lps];exists ⟨qp,lp,ls,ps.length,P,rfl,G',by lia,by lia,λzs hz=>by rw[I.wide zs hz];exact hP,λt h1 h2 h3=>?_,λhz=>?_⟩
   ·exists ⟨rfl,_,rfl,?_⟩;rw[show decide (V.int (t:Int)=V.non)=false from decide_eq_false (λz=>nomatch z)];exists ⟨qp,lp,ls,t,ps.length,rfl,hqp,G',by lia,h2,by lia,λl1 Ha na sa Ga=>?_⟩;exists ⟨qp,l1,_,ps.length,P,n,d,rfl,λz=>hqp (sa.none z),Ga,by rw[wC];lia,by rw[wC];lia,Iv I.wide (by lia) h2,by lia,hP,I.d0,bo z1 big,λzs hz z hz'=>?_,λl2 Hb nb sb Gb=>?_⟩
    ·unfold oo at hz;have key:∀ys,ys∈ls->∀z∈ys,Sz 449950 z:=λys hy z hz=>bo (z2 ys hy z hz) big
     rcases cM hz with h | h
     ·rcases cM h with h | h
      ·exact key zs h z hz'
      ·rw[h] at hz';exact key _ (getD_in h2) z hz'
     ·rw[h] at hz';exact key _ (getD_in (by lia)) z hz'
    have sab:=sa.trans sb;have I2:=I.step hW ent h1 h2 h3;have hk2:ps.length < (FQ (oo ls ps.length t) ps.length P d).length:=by rw[Mz,wC];lia
    obtain ⟨n2,xs2,gx2,qx2⟩:=id Gb;obtain ⟨zk,vk,ek,evk,mk,qk,rfl,_,gk⟩:=gL qx2 hk2;have wk:=I2.wide zk mk;exists b9 (bE.of gx2) (dX evk) ?_;exists b9 (bE.of gk) (zh (by lia)) ?_;have gqb:=sab _ _ gq';exists ⟨.inl ⟨rfl,_,bE.of gqb⟩,?_⟩;exists fz gqb (bC (by lia)) ?_;refine ⟨(s'.trans sab).after hq0,l2,_,ps++[P],_,_,_,_,rfl,?_,Gb.upd,?_⟩
    ·rw[aE];unfold c7;rw[cE];rfl
    ·have e:(FQ (oo ls ps.length t) ps.length P d).getD ps.length []=zk:=by rw[aa,ek];rfl
     rw[e] at I2;exact I2
   ·exists ⟨rfl,_,rfl,?_⟩;rw[show decide (V.non=V.non)=true from decide_eq_true rfl];exists ⟨s',lp,ls,ps,d,_,_,_,rfl,gq',G',I.skip hz⟩
  rintro σ' H' ⟨s',lp,ls,ps,d,y1,y2,y3,rfl,gq',G',I⟩;obtain ⟨R,hR⟩:=I.done hw F;have lps:(c7 ps).length=ps.length:=ah ..;obtain ⟨nl,xs',gx',qx'⟩:=id G';exists ⟨_,_,rfl,.inl (bE.of gq'),?_⟩;rw[lps];exists Lj (bE.of gx') λsl H3 s3 n3 g3=>?_
  rw[Mw] at g3;exists cD λt H4 s4 g4=>?_
  have s34:=s3.trans s4;exact k t sl qp R ps d _ H4 g4 (s34 _ _ gq') ⟨(λz=>by rw[z,gq'] at n3;cases n3),_,s4 _ _ g3,Paired.imp' (λ_ _ z=>Jw.same z s34) (qW qx' ps.length)⟩ (s'.trans s34) hR
theorem nE:aP ["rows","wide","due","found","answer","line","lead"] ["rows","wide","due"] (aH zS):=by walk_at "d"
theorem JW (T:Txt K mg Z) (ptree:P.given.tree=none):cC P w K mg base eY 5 Z.FY Z.FK ["rows","wide","due"] (zB K):=by
 have Ey:=Fv (P:=P) (w:=w) (base:=base) T ptree;have jz:=mU (P:=P) (w:=w) (base:=base) T ptree;have jA:=nG (P:=P) (w:=w) (base:=base) T ptree;refine T.rZ.F.ok nE (λvs H Q E h=>?_) (λcdv A outer s H vs Q E hr h=>?_)
 ·obtain ⟨p,q,n,w,H0,rows,due,rfl,_⟩:=h;rfl
 ·obtain ⟨p,q,n,w,H0,rows,due,rfl,G,Rd,hd,m99,n99,hw,F,k1,k2⟩:=h
  refine ⟨_,(ar (a9 (i:=3) nE.nd rfl (Or.inl rfl) (cJ Ey hr T.u6 (ae (cv ["row","wanted"] [] [] (kE rfl T.zip (ae (pv 0) (ae (pv 2) aj))) (λ_=>(l9 K 2 (bX (aK (i:=0) (show ND9 ["row","wanted"] by decide +kernel)) (bX (aK (i:=1) (show ND9 ["row","wanted"] by decide +kernel)) eQ)))) (λ_=>cB) (λ_=>(bM rd (pv 0) (du (ae (pv 1) aj))))) (ae (bM fW (pv 1) ak) aj))))
   (ar (cY (be JU (pv 1) (aW bI (pv 3) ak) (by with_unfolding_all rfl)) (ay (aN oM)) bQ)
   (ar (a9 (i:=4) nE.nd rfl (Or.inl rfl) (cJ jz hr T.ig (ae (pv 1) aj)))
   (ar (df PassesOwn.never rfl (kE rfl T.zip (ae (aW bI (pv 3) ak) (ae (aW bI (pv 3) ak) aj))) (mS rfl (bX (aK (i:=5) nE.nd) (bX (aK (i:=6) nE.nd) eQ)))
    (ay (eI (cJ jA hr T.jL (ae (aW bL (pv 5) (pv 1)) (ae (aW bL (pv 5) (pv 6)) aj))) (gK (pv 4) (pv 6) set_list))))
   (ay (aN (pv 4))))))),?_⟩
  refine aM (σ:=[some (.ref p),some (.int n),some (.ref q),none,none,none,none]) rfl ?_;obtain ⟨xs,gx,qx,_⟩:=id G;obtain ⟨ds,gd,qd⟩:=id Rd;have lx:=qx.length;have ld:=qd.length;have lj:=HS hd;exists ⟨⟨_,bE.of gx⟩,⟨_,bE.of gd⟩,?_⟩;refine rN (K:=K) (xs:=xs) (ws:=ds) (λi ys H'=>aF H H'/\Paired (cO K H H') ((fD rows due).take i) ys) (bc (bC (by lia))) (by lia) ⟨aF.refl _,.nil⟩ (λi ys H' _ ⟨s,_⟩=>⟨bE.of (s _ _ gx),bE.of (s _ _ gd)⟩) ?_ ?_
  ·rintro i v1 v2 ys H' r h1 h2 hy ⟨s,pr⟩ hr;obtain ⟨row,er,u,rfl,_,Ru⟩:=bY qx h1;obtain ⟨d,ed,nd⟩:=bY qd h2;have wr:=hw row (au er);have sr:aF H' (upd H' r (.tup [.ref u,v2])):=aF.new hr;have gr:(upd H' r (.tup [.ref u,v2])) r=some (.tup [.ref u,v2]):=aE;generalize upd H' r (.tup [.ref u,v2])=H2 at sr gr ⊢;have s2:=s.trans sr;exists dd λl1 H3 s3 n3 g3=>?_
   have s23:=s2.trans s3;obtain ⟨zs,gz,qz⟩:=Ru.same s23;have lz:=qz.length;exists xa gz g3 (bc (bC (by rw[aX];lia))) λl2 H4 s4 n4 g4=>?_
   refine ⟨s23.trans s4,?_⟩;rw[take_snoc (OO er ed)];exact cp (Paired.imp' (λ_ _ z=>cO.same z ((sr.trans s3).trans s4)) pr) (.cons ⟨l2,rfl,s23.none n4,_,g4,Paired.imp' (λ_ _ z=>cA.same z s4) (cp qz (.cons (nd.same s23) .nil))⟩ .nil)
  rintro ys H1 hy ⟨s1,pr⟩ l hl;have sn:aF H1 (upd H1 l (.lst ys)):=aF.new hl;have gn:(upd H1 l (.lst ys)) l=some (.lst ys):=aE;rw[aI (by lia)] at pr;generalize upd H1 l (.lst ys)=H2 at sn gn ⊢;have GJ:bA K H H2 l (fD rows due):=CC pr sn hl gn;have s02:=s1.trans sn;walk_at "w";rw[show ((n:Int)+1)=((n+1:Nat):Int) by lia];refine ⟨l,n+1,w,H,_,rfl,GJ,by lia,by lia,IV hw,F,λt lp qp R ps d ls H3 gt gq GZ s3 S=>?_⟩;have s03:=s02.trans s3;have pn:=S.rr.le;exists ⟨qp,c7 ps,rfl,.inl (bE.of gq),rfl,Cu,?_⟩;rw[FF];by_cases hn:n∈ps
  ·rw[decide_eq_true hn,show (if false=true then !true else true)=true from rfl];exists k2 R ps H3 S.rr hn s03
  ·rw[decide_eq_false hn,show (if false=true then !false else false)=false from rfl];obtain ⟨lR,wR,rr⟩:=id S.rr;obtain ⟨_,zs,gz,qz⟩:=id GZ;have lz:=qz.length;have hl':=S.len
   have low:∀j,j < ps.length->ps.getD j 0 < n:=λj hj=>by
    have:=rr.low j hj;have:ps.getD j 0≠n:=λz=>hn (by rw[<- z];exact getD_in hj)
    lia
   obtain ⟨_,_,_,_,_,_,_,_,_,e89⟩:=id F;rw[lj] at e89;have dsz:Sz 449950 d:=bo S.dsz (dB (by decide) (by rw[lj];lia));have lps:=lF (ps:=ps);exists ⟨n,rfl,by lia,λan H4 na s4 R4=>?_⟩;rw[<- Nh (R:=R) (ps:=ps)] at R4;obtain ⟨vs0,g0,q0⟩:=id R4;have gt4:=s4 _ _ gt;exists ⟨⟨_,bE.of (s4 _ _ gz)⟩,⟨_,bE.of (s4 _ _ gq)⟩,?_⟩;refine El (K:=K) (xs:=zs) (ws:=c7 ps) (λj σ' H'=>aF H3 H'/\∃y1 y2 vs,σ'=[some (.ref p),some (.int n),some (.ref q),some (.ref t),some (.ref an),y1,y2]/\H' an=some (.lst vs)/\Paired (cA K H') (uI R ps n j) vs) (by lia) ⟨s4,_,_,vs0,rfl,g0,q0⟩ (λj σ' H' _ ⟨e,_⟩=>⟨bE.of (e _ _ gz),bE.of (e _ _ gq)⟩) ?_ ?_
   ·rintro j v1 v2 σ' H' r h1 h2 ⟨s',y1,y2,vs,rfl,ga,qa⟩ hr;obtain ⟨line,el,u,rfl,_,gu⟩:=bY qz h1;have wl:=S.wide line (au el);obtain ⟨pj,ej,rfl⟩:=uZ h2;have hj:j < ps.length:=(aB.mp ej).1;have ejD:ps.getD j 0=pj:=by rw[aa,ej];rfl
    have pjn:=low j hj;rw[ejD] at pjn;have v0:=S.val j n;rw[KO el] at v0
    have ed:line.getD pj 0=d:=by
     have h:=S.val j pj;rw[KO el] at h;have u:=rr.unit j hj j hj;rw[if_pos rfl,ejD] at u;rw[u,Rat.mul_one] at h;exact di.mp h
    have sr:aF H' (upd H' r (.tup [.ref u,.int pj])):=aF.new hr;have gr:(upd H' r (.tup [.ref u,.int pj])) r=some (.tup [.ref u,.int pj]):=aE;generalize upd H' r (.tup [.ref u,.int pj])=H5 at sr gr ⊢;have gu5:=(s'.trans sr) _ _ gu;exists b9 (bE.of gu5) (zh (by lia)) ?_;exists b9 (bE.of gu5) (zh (by lia)) ?_;rw[ed];exists ⟨_,d,rfl,S.d0,dsz,λr6 H6 s6 g6=>?_⟩;have d0:(d:Rat)≠0:=λz=>S.d0 (pQ z)
    have n6:cA K H6 (bV R j n) (.ref r6):=by
     refine cA.mk g6 ?_;rcases Int.lt_or_lt_of_ne S.d0 with hd' | hd'
     ·rw[if_pos hd',if_pos hd'];refine kJ (by lia) ?_;rw[cP,cP,v0];grind
     ·rw[if_neg (by lia),if_neg (by lia)];refine kJ hd' ?_;rw[v0];grind
    have ga6:=(sr.trans s6) _ _ ga;have la:=qa.length;rw[ot] at la;exists eN ga6 (fo (by lia)) rfl ?_;refine ⟨((s'.trans sr).trans s6).after na,_,_,_,rfl,aE,?_⟩;rw[<- Ni S.rr hj,ejD];exact jK (Paired.imp' (λ_ _ z=>(cA.same z (sr.trans s6)).updL ga6) qa) pj (n6.updL ga6)
   ·rintro σ' H' ⟨s',y1,y2,vs,rfl,ga,qa⟩;rw[show zs.length=ps.length by lia] at qa;exists k1 an R ps d.natAbs H' S.rr hn (s03.none na) (s03.trans s') ⟨vs,ga,qa⟩ (by have:=S.d0;lia) (by rw[<- lj];exact S.dsz) ?_;rw[<- lj];exact OE (by have:=S.d0;lia) S.tp S.rr
theorem zK:aP ["rows","wide","due","answer","columns"] ["rows","wide","due"] (aH DM):=by walk_at "d"
theorem LB (T:Txt K mg Z) (ptree:P.given.tree=none):cC P w K mg base eY 6 Z.Js Z.Ji ["rows","wide","due"] (BZ K):=by
 have F6:=JW (P:=P) (w:=w) (base:=base) T ptree;have ik:=lD (P:=P) (w:=w) (base:=base) T ptree;have jz:=mU (P:=P) (w:=w) (base:=base) T ptree;refine T.Ar.F.ok zK (λvs H Q E h=>?_) (λcdv A outer s H vs Q E hr h=>?_)
 ·obtain ⟨p,q,n,w,H0,rows,due,rfl,_⟩:=h;rfl
 ·obtain ⟨p,q,n,w,H0,rows,due,rfl,G,Rd,hd,m90,n90,hw,F,F1,k1⟩:=h
  refine ⟨_,(ar (a9 (i:=3) zK.nd rfl (Or.inl rfl) (cJ F6 hr T.rZ (ae (pv 0) (ae (pv 1) (ae (pv 2) aj)))))
   (ar (cY (be IK (pv 3) oM (bB _)) (ay (aN (c8 (ae qV (ae (pv 3) aj))))) bQ)
   (ar (a9 (i:=4) zK.nd rfl (Or.inl rfl) (cJ ik hr T.gN (ae (pv 0) (ae (pv 1) aj))))
   (ay (aN (c8 (ae qV (ae (cJ F6 hr T.rZ (ae (bM rd (pv 4) (du (ae (pv 2) aj))) (ae (bF a7 (by rfl) T.len aR (ae (pv 0) aj)) (ae (bM rd (cJ jz hr T.ig (ae (pv 1) aj)) (du (ae (kF (v:=.ref Z.a_ONE) rfl T.mg_ONE rfl) aj))) aj)))) aj)))))))),?_⟩
  refine aM (σ:=[some (.ref p),some (.int n),some (.ref q),none,none]) rfl ?_;exists ⟨p,q,n,w,H0,rows,due,rfl,G,Rd,hd,by lia,by lia,hw,F,λx R ps M H1 RR hn nx s1 Rx M0 M1 tM=>?_,λR ps H1 RR hn s1=>absurd hn (F1 R ps RR)⟩;exists ⟨rfl,_,rfl,?_⟩;rw[show decide (V.ref x=V.non)=false from decide_eq_false (λz=>nomatch z)];exists cD λt H2 s2 g2=>?_
  exact k1 t x R ps H2 RR g2 nx (s1.trans s2) (Rx.same s2)
theorem DE:aP ["lists","joined","each"] ["lists"] (aH GW):=by walk_at "d"
theorem N2 (T:Txt K mg Z) (ptree:P.given.tree=none):cC P w K mg base eY 1 Z.MD Z.Mu ["lists"] E8:=by
 refine T.yW.F.ok DE (λvs H Q E h=>?_) (λcdv A outer s H vs Q E hr h=>?_)
 ·obtain ⟨p,us,zss,rfl,_⟩:=h;rfl
 ·obtain ⟨p,us,zss,rfl,gx,qx,hl,k⟩:=h
  refine ⟨_,(ar (a9 (i:=1) DE.nd rfl (Or.inl rfl) (du aj))
   (ar (df PassesOwn.never rfl (cu (pv 0)) (aK (i:=2) DE.nd)
    (ay (eO (ma bN QT QR Cv (pv 1) (ae (pv 2) aj)))))
   (ay (aN (pv 1))))),?_⟩
  refine aM (σ:=[some (.ref p),none,none]) rfl ?_;have lx:=qx.length;exists dd λj H1 s1 n1 g1=>?_
  exists ⟨⟨_,bE.of (s1 _ _ gx)⟩,?_⟩;refine eX (K:=K) (a:=p) (xs:=us) (λi σ' H'=>aF H H'/\∃x:Option V,σ'=[some (.ref p),some (.ref j),x]/\H' j=some (.lst (zss.take i).flatten)) ⟨s1,none,rfl,g1⟩ (λi σ' H' _ ⟨s,_⟩=>bE.of (s _ _ gx)) ?_ ?_
  ·rintro i x σ' H' hx ⟨s,y,rfl,gj⟩;obtain ⟨zs,ez,q,rfl,gz⟩:=bY qx hx;have tl:(zss.take (i+1)).flatten=(zss.take i).flatten++zs:=by rw[take_snoc ez,EM];simp
   have bl:(zss.take i).flatten.length+zs.length<=1000:=by
    have e:zss.flatten=(zss.take (i+1)).flatten++(zss.drop (i+1)).flatten:=by rw[<- EM,List.take_append_drop]
    rw[e,tl,ao,ao] at hl
    lia
   exists ⟨.inl ⟨rfl,_,bE.of gj⟩,?_⟩;exists ⟨j,q,_,zs,rfl,rfl,gj,s _ _ gz,bc (bC (by lia)),?_⟩;exact ⟨s.after n1,_,rfl,by rw[aE,tl]⟩
  ·rintro σ' H' ⟨s,y,rfl,gj⟩;rw[aI (by lia)] at gj;exists k j H' n1 s gj
theorem Bp:aP ["system","rows"] ["system","rows"] (aH oA):=by walk_at "d"
theorem sQ (T:Txt K mg Z) (ptree:P.given.tree=none):cC P w K mg base eY 6 Z.vQ Z.vz ["system","rows"] (Cf K Z.a_System):=by
 have xD:=Ah (P:=P) (w:=w) (base:=base) T ptree;refine T.jW.F.ok Bp (λvs H Q E h=>?_) (λcdv A outer s H vs Q E hr h=>?_)
 ·obtain ⟨x,p,H0,H1,mv,pt,lk,R,rfl,_⟩:=h;rfl
 ·obtain ⟨x,p,H0,H1,mv,pt,lk,R,rfl,S,D,G,l100,wR,hf,k⟩:=h;refine ⟨_,(ay (aN (cv ["row"] ["system"] [0] (cu (pv 1)) (λ_=>(aK (i:=0) (show ND9 ["row","system"] by decide +kernel))) (λ_=>cB) (λ_=>(cJ xD hr T.oU (ae (NU K (pv 1) rfl) (ae (pv 0) aj))))))),?_⟩;refine aM (σ:=[some (.ref x),some (.ref p)]) rfl ?_;obtain ⟨dx,a',b',c',gx,_,_,_,Ga,Gb,Gc⟩:=id S;have d8:=D.n8;obtain ⟨xs,gxs,qx,_⟩:=id G;exists ⟨⟨_,bE.of gxs⟩,?_⟩;refine dw (K:=K) (F:=cO K H1) (cO K H) (lY mv) gxs qx (by lia) (λa b=>a.same b) (λa b=>a.same b) ?_ ?_
  ·rintro i ns v H' NY NN en s ⟨u,rfl,_,hu⟩ k1;have mn:=au en;exists ⟨x,Z.a_System,dx,_,_,rfl,s _ _ gx,T.cl_System,T.na_move,zm,?_⟩;exists ⟨a',u,H0,mv,ns,rfl,Ga.same s,hu,by lia,by rw[wR ns mn];lia,λxs hx=>⟨by rw[D.mw xs hx,wR ns mn],hf xs hx ns mn⟩,λr H2 nr s2 R2=>k1 _ _ s2 ⟨r,rfl,s.none nr,R2⟩⟩
  ·rintro ys H' r hr s g pr nx;exact k r H' hr s ⟨ys,g,pr,ka nx⟩
theorem iW:aP ["system","steps","lists","rows","step"] ["system","steps"] (aH qI):=by walk_at "d"
theorem DY (T:Txt K mg Z) (ptree:P.given.tree=none):cC P w K mg base eY 7 Z.yn Z.xT ["system","steps"] (Fd K Z.a_System):=by
 have pF:=sQ (P:=P) (w:=w) (base:=base) T ptree;refine T.oV.F.ok iW (λvs H Q E h=>?_) (λcdv A outer s H vs Q E hr h=>?_)
 ·obtain ⟨x,u,H0,mv,pt,lk,rfl,_⟩:=h;rfl
 ·obtain ⟨x,u,H0,mv,pt,lk,rfl,hu,S,D,F,k⟩:=h
  refine ⟨_,(ar (a9 (i:=2) iW.nd rfl (Or.inl rfl) (du aj))
   (ar (a9 (i:=3) iW.nd rfl (Or.inl rfl) (eJ (pv 0) rfl))
   (ar (df PassesOwn.never rfl (cy rfl T.range (ae (pv 1) aj)) (aK (i:=4) iW.nd)
    (ar (eO (ma bN cx cw fA (pv 2) (ae (pv 3) aj)))
   (ay (a9 (i:=3) iW.nd rfl (Or.inl rfl) (cJ pF hr T.jW (ae (pv 0) (ae (pv 3) aj)))))))
   (ay (aN (pv 2)))))),?_⟩
  refine aM (σ:=[some (.ref x),some (.int u),none,none,none]) rfl ?_;obtain ⟨dx,a',b',c',gx,_,_,_,Ga,Gb,Gc⟩:=id S;have d8:=D.n8;have i4:=D.i4;exists dd λl H1 s1 n1 g1=>?_
  exists ⟨x,Z.a_System,dx,_,_,rfl,s1 _ _ gx,T.cl_System,T.na_put,yS,?_⟩;walk_at "w";obtain ⟨bl,G0⟩:=Gb.off n1;have G1:=G0.same s1;refine ⟨by lia,by lia,?_⟩;refine eF (n:=u) (λi σ' H'=>aF H H'/\∃q us y,σ'=[some (.ref x),some (.int u),some (.ref l),some (.ref q),y]/\q≠l/\H' l=some (.lst us)/\Paired (KD K l H') (Kq mv pt i) us/\bA K (Ea l) H' q (pt.map (fV mv i))) ⟨s1,b',[],_,rfl,bl,g1,.nil,by rw[show pt.map (fV mv 0)=pt from pY pt];exact G1⟩ ?_ ?_
  ·rintro i σ' H' hi ⟨s',q,us,y,rfl,ql,gu,pu,Gq⟩;have lu:=pu.length;have la:(Kq mv pt i).length=i:=by unfold Kq;rw[ah,cg]
   exists ⟨.inl ⟨rfl,_,bE.of gu⟩,?_⟩;exists fz gu (bC (by lia)) ?_;have s2:aF H (upd H' l (.lst (us++[V.ref q]))):=s'.after n1;have g2:(upd H' l (.lst (us++[V.ref q]))) l=some (.lst (us++[V.ref q])):=aE
   have p2:Paired (KD K l (upd H' l (.lst (us++[V.ref q])))) (Kq mv pt (i+1)) (us++[V.ref q]):=by
    rw[Jp];exact cp (Paired.imp' (λ_ _ z=>KD.upd z gu) pu) (.cons ⟨q,rfl,ql,Gq.updL gu off_ne ql⟩ .nil)
   have Gq2:=Gq.updL (o:=.lst (us++[V.ref q])) gu off_ne ql;generalize upd H' l (.lst (us++[V.ref q]))=H2 at s2 g2 p2 Gq2 ⊢;walk_at "w"
   refine ⟨x,q,H0,Ea l,mv,pt,lk,_,rfl,S.same s2,D,Gq2,by rw[ah];lia,λr hr=>?_,λxs hx r hr=>(by
     obtain ⟨y,hy,rfl⟩:=az.mp hr;exact ((F.row D.mw D.pw y hy).fit D.mw (D.pw y hy) (by lia)).1 xs hx),λr H3 nr s3 G3=>?_⟩
   ·obtain ⟨y,hy,rfl⟩:=az.mp hr;exact uQ (D.pw y hy) i
   ·have e:(pt.map (fV mv i)).map (lY mv)=pt.map (fV mv (i+1)):=by rw[iB];rfl
    rw[e] at G3;exact ⟨s2.trans s3,r,_,_,rfl,λz=>(by rw[z,g2] at nr;cases nr),s3 _ _ g2,Paired.imp' (λ_ _ z=>KD.same z s3) p2,G3.weakN λq h=>LD λz=>by rw[z,g2] at h;cases h⟩
  ·rintro σ' H' ⟨s',q,us,y,rfl,ql,gu,pu,Gq⟩;exists k l us H' n1 s' gu pu
theorem wM:aP ["self"] ["self"] (aH eK):=by walk_at "d"
theorem nI (T:Txt K mg Z) (ptree:P.given.tree=none):cC P w K mg base eY 7 Z.ks Z.kq ["self"] (zw K Z.a_System):=by
 have jB:=lE (P:=P) (w:=w) (base:=base) T ptree;have ik:=lD (P:=P) (w:=w) (base:=base) T ptree;refine T.pT.ok wM (λvs H Q E h=>?_) (λcdv A outer s H vs Q E hr h=>?_)
 ·obtain ⟨x,H0,mv,pt,lk,rfl,_⟩:=h;rfl
 ·obtain ⟨x,H0,mv,pt,lk,rfl,S,D,F,k⟩:=h;refine ⟨_,(ay (aN (II T.mk_System jB (hr.mono (by decide)) rfl T.mg_System T.jv .nil Aa (ae (cJ ik hr T.gN (ae (eJ (pv 0) rfl) (ae (eJ (pv 0) rfl) aj))) (ae (eJ (pv 0) rfl) (ae (eJ (pv 0) rfl) aj)))))),?_⟩;refine aM (σ:=[some (.ref x)]) rfl ?_;obtain ⟨dx,a,b,c,gx,n1,n2,n3,Ga,Gb,Gc⟩:=id S;have d1:=D.n8;exists ⟨x,Z.a_System,dx,_,_,rfl,gx,T.cl_System,T.na_move,zm,?_⟩;exists ⟨x,Z.a_System,dx,_,_,rfl,gx,T.cl_System,T.na_states,iE,?_⟩;exists ⟨a,mv.length,H0,mv,rfl,Ga,by lia,by lia,D.mw,λt H1 nt s1 Gt=>?_⟩;have gx1:=s1 _ _ gx;exists ⟨x,Z.a_System,dx,_,_,rfl,gx1,T.cl_System,T.na_look,EV,?_⟩;exists ⟨x,Z.a_System,dx,_,_,rfl,gx1,T.cl_System,T.na_put,yS,?_⟩;walk_at "w";intro x' dx' nx ndx nex;have F':=F.turn;exact ⟨x',dx',t,c,b,H1,H,H0,H0,_,_,_,rfl,nx,ndx,nex,rfl,Gt,Gc.same s1,Gb.same s1,D.turn,F'.ok.1,F'.ok.2.1,F'.ok.2.2,λH' s' S'=>⟨rfl,k x' H' (s1.none nx) (s1.trans s') (S'.weak s1)⟩⟩
theorem Pq:aP ["row","many","wide"] ["row","many","wide"] (aH Le):=by walk_at "d"
theorem Qf (T:Txt K mg Z) (ptree:P.given.tree=none):cC P w K mg base eY 1 Z.O1 Z.OY ["row","many","wide"] Ng:=T.HM.F.ok Pq (λvs H Q E h=>(show False from h).elim) (λcdv A outer s H vs Q E hr h=>(show False from h).elim)
theorem zL:aP ["rows","wide","found"] ["rows","wide"] (aH wQ):=by walk_at "d"
theorem ui (T:Txt K mg Z) (ptree:P.given.tree=none):cC P w K mg base eY 5 Z.C5 Z.CL ["rows","wide"] (xK K):=by
 have Ey:=Fv (P:=P) (w:=w) (base:=base) T ptree;have jA:=nG (P:=P) (w:=w) (base:=base) T ptree;refine T.lI.F.ok zL (λvs H Q E h=>?_) (λcdv A outer s H vs Q E hr h=>?_)
 ·obtain ⟨p,n,w,H0,rows,rfl,_⟩:=h;rfl
 ·obtain ⟨p,n,w,H0,rows,rfl,G,r100,n100,hw,F,k⟩:=h
  refine ⟨_,(ar (a9 (i:=2) zL.nd rfl (Or.inl rfl) (cJ Ey hr T.u6 (ae (pv 0) (ae (pv 1) aj))))
   (ay (aN (cv ["line","lead"] [] [] (kE rfl T.zip (ae (aW bI (pv 2) ak) (ae (aW bI (pv 2) ak) aj))) (λ_=>(l9 K 2 (bX (aK (i:=0) (show ND9 ["line","lead"] by decide +kernel) rfl (Or.inr rfl) (Or.inl rfl)) (bX (aK (i:=1) (show ND9 ["line","lead"] by decide +kernel) rfl (Or.inr rfl) (Or.inl rfl)) eQ)))) (λ_=>cB) (λ_=>(cv ["top"] ["line","lead"] [0,1] (Fq K (pv 0)) (λ_=>(aK (i:=0) (show ND9 ["top","line","lead"] by decide +kernel))) (λ_=>cB) (λ_=>(cJ jA hr T.jL (ae (pv 0) (ae (aW (fE K (by rfl)) (pv 1) (pv 2)) aj)))))))))),?_⟩
  refine aM (σ:=[some (.ref p),some (.int n),none]) rfl ?_;obtain ⟨_,_,_,_,_,_,_,_,r15,r89⟩:=id F;exists ⟨p,n,w,H0,rows,rfl,G,r100,n100,hw,F,λt lp qp R ps d ls H1 gt gq G1 s1 S=>?_⟩;obtain ⟨lR,wR,RR⟩:=id S.rr;have hl:=S.len;obtain ⟨_,xs,gx,qx⟩:=id G1;have lx:=qx.length;have lps:(c7 ps).length=ps.length:=ah ..;have d0:(d:Rat)≠0:=λz=>S.d0 (pQ z)
  have dsz:Sz 449950 d:=bo S.dsz (dB (by decide) (by lia))
  have km:ps.length<=n:=by
   rcases b8 n ps.length with z | z
   ·have inc:∀j,j < ps.length->j<=ps.getD j 0:=by
     intro j
     induction j with
     | zero=>intro _;exact aZ _
     | succ j ih =>
      intro hj;have:=ih (by lia);have:=RR.inc j (j+1) (by lia) hj
      lia
    have h1:=inc (ps.length - 1) (by lia);have h2:=RR.low (ps.length - 1) (by lia)
    lia
   ·exact z
  exists ⟨⟨_,bE.of gx⟩,⟨_,bE.of gq⟩,?_⟩;refine rN (K:=K) (xs:=xs) (ws:=c7 ps) (λi ys H'=>aF H1 H'/\Paired (cO K H1 H') (R.take i) ys) (bc (bC (by lia))) (by lia) ⟨aF.refl _,.nil⟩ (λi ys H' _ ⟨s,_⟩=>⟨bE.of (s _ _ gx),bE.of (s _ _ gq)⟩) ?_ ?_
  ·rintro i v1 v2 ys H' r h1 h2 hy ⟨s,pr⟩ hr;obtain ⟨zs,ez,q,rfl,_,gq1⟩:=bY qx h1;have hi:i < ls.length:=(aB.mp ez).1;have mz:=au ez;have wz:=S.wide zs mz
   obtain ⟨j,ej,rfl⟩:∃j:Nat,ps[i]?=some j/\V.int (j:Int)=v2:=by
    unfold c7 at h2;rw[aD] at h2;cases e:ps[i]? with
    | none=>rw[e] at h2;cases h2
    | some x=>rw[e] at h2;exact ⟨x,rfl,bU h2⟩
   have ej':ps.getD i 0=j:=by rw[aa,ej];rfl
   have jn:j < n:=by have:=RR.low i (by lia);rw[ej'] at this;exact this
   have sr:aF H' (upd H' r (.tup [.ref q,.int j])):=aF.new hr;have gr:(upd H' r (.tup [.ref q,.int j])) r=some (.tup [.ref q,.int j]):=aE;generalize upd H' r (.tup [.ref q,.int j])=H2 at sr gr ⊢;have s2:=s.trans sr;have iR:i < R.length:=by lia
   have eR:=ag iR;have wRi:=wR _ (aL iR)
   have ed:zs.getD j 0=d:=by
    have h:=S.val i j;rw[KO ez] at h;have u:=RR.unit i (by lia) i (by lia);rw[if_pos rfl,ej'] at u;rw[u,Rat.mul_one] at h;exact di.mp h
   have val:∀c,((zs.getD c 0:Int):Rat)=(d:Rat)*(R[i]).getD c 0:=λc=>by
    have h:=S.val i c;rw[KO ez] at h;rw[h];unfold bV;rw[aa (l:=R),eR];rfl
   exists ⟨⟨_,bE.of (s2 _ _ gq1)⟩,?_⟩;refine d6 (K:=K) (xs:=zs.map V.int) (λc ys' H3=>aF H2 H3/\Paired (cA K H3) ((R[i]).take c) ys') (bc (bC (by rw[ah];lia))) ⟨aF.refl _,.nil⟩ (λc ys' H3 _ ⟨s3,_⟩=>bE.of ((s2.trans s3) _ _ gq1)) ?_ ?_
   ·rintro c x ys' H3 hx hlen ⟨s3,pr3⟩
    obtain ⟨z,ec,rfl⟩:∃z,zs[c]?=some z/\V.int z=x:=by
     rw[aD] at hx;cases e:zs[c]? with
     | none=>rw[e] at hx;cases hx
     | some x=>rw[e] at hx;exact ⟨x,rfl,bU hx⟩
    have hc:c < zs.length:=(aB.mp ec).1;have vc:=val c;have e1:zs.getD c 0=z:=by rw[aa,ec];rfl
    rw[e1] at vc;exists b9 (bE.of ((s2.trans s3) _ _ gq1)) (zh (by lia)) ?_;rw[ed];exists ⟨z,d,rfl,S.d0,dsz,λr4 H4 s4 g4=>?_⟩;have ec':(R[i])[c]?=some ((R[i]).getD c 0):=by rw[aa,ag (show c < (R[i]).length by lia)];rfl
    refine ⟨s3.trans s4,?_⟩;rw[take_snoc ec'];refine cp (Paired.imp' (λ_ _ z=>cA.same z s4) pr3) (.cons (cA.mk g4 ?_) .nil);rcases Int.lt_or_lt_of_ne S.d0 with hd | hd
    ·rw[if_pos hd,if_pos hd];refine kJ (by lia) ?_;rw[cP,cP,vc];grind
    ·rw[if_neg (by lia),if_neg (by lia)];refine kJ hd ?_;rw[vc];grind
   ·rintro ys' H3 hy' ⟨s3,pr3⟩ l4 hl4;have sn:aF H3 (upd H3 l4 (.lst ys')):=aF.new hl4;refine ⟨(s2.trans s3).trans sn,?_⟩;rw[take_snoc eR];rw[aI (by rw[ah];lia)] at pr3;exact cp (Paired.imp' (λ_ _ z=>cO.same z ((sr.trans s3).trans sn)) pr) (.cons ⟨l4,rfl,(s2.trans s3).none hl4,ys',aE,Paired.imp' (λ_ _ z=>cA.same z sn) pr3⟩ .nil)
  ·rintro ys H' hy ⟨s,pr⟩ r hr;have sn:aF H' (upd H' r (.lst ys)):=aF.new hr;rw[aI (by lia)] at pr;refine k r R ps d.natAbs _ (s1.none (s.none hr)) ((s1.trans s).trans sn) ⟨ys,aE,Paired.imp' (λ_ _ z=>(cO.weak z s1).same sn) pr,ka (H0:=H1) (rows:=R) ⟨H',hr,pr⟩⟩ S.rr S.km ?_ S.dsz S.tp;have:=S.d0
   lia
theorem kW:aP ["system","steps","lists","rows"] ["system","steps"] (aH mI):=by walk_at "d"
theorem Af (T:Txt K mg Z) (ptree:P.given.tree=none):cC P w K mg base eY 7 Z.tG Z.sU ["system","steps"] (Cm K Z.a_System):=by
 have nZ:=ui (P:=P) (w:=w) (base:=base) T ptree;have pF:=sQ (P:=P) (w:=w) (base:=base) T ptree;refine T.lJ.F.ok kW (λvs H Q E h=>?_) (λcdv A outer s H vs Q E hr h=>?_)
 ·obtain ⟨x,a,c,st,H0,mv,pt,lk,rfl,_⟩:=h;rfl
 ·obtain ⟨x,a,c,st,H0,mv,pt,lk,rfl,s1000,S,D,F,k⟩:=h
  refine ⟨_,(ar (a9 (i:=2) kW.nd rfl (Or.inl rfl) (du (ae (du aj) aj)))
   (ar (z5 PassesOwn.never (be RS (bF a7 (by rfl) T.len aR (ae (pv 2) aj)) (pv 1) (bB _))
    (ar (a9 (i:=3) kW.nd rfl (Or.inl rfl) (cJ nZ hr T.lI (ae (bM rd (eJ (pv 0) rfl) (cJ pF hr T.jW (ae (pv 0) (ae (aW bL (pv 2) (uR oi ak)) aj)))) (ae (eJ (pv 0) rfl) aj))))
   (ar (cY (be eS (bF a7 (by rfl) T.len aR (ae (pv 3) aj)) (bF a7 (by rfl) T.len aR (ae (aW bL (pv 2) (uR oi ak)) aj)) (bB _)) (ay (aN (pv 2))) bQ)
   (ay (eO (ma bN cx cw fA (pv 2) (ae (pv 3) aj)))))))
   (ay (aN (pv 2))))),?_⟩
  refine aM (σ:=[some (.ref x),some (.int st),none,none]) rfl ?_;obtain ⟨dx,a',b',c',gx,_,_,_,Ga,Gb,Gc⟩:=id S;have d8:=D.n8;have i4:=D.i4;have lP:=eE (mv:=mv) (pt:=pt) rfl D.pw;exists dd λq0 H1 s1 nq0 g1=>?_
  exists dd λl H2 s2 nl g2=>?_
  have s02:=s1.trans s2;have nl0:H l=none:=s1.none nl;obtain ⟨Hz,eHz⟩:∃Hz,Hz=upd H l (.lst []):=⟨_,rfl⟩;have zl:Hz l≠none:=by rw[eHz,aE];exact λz=>nomatch z
  have zn:∀q,Hz q=none->H q=none/\q≠l:=λq h=>by
   have ne:q≠l:=λz=>zl (by rw[<- z];exact h)
   rw[eHz,bf ne] at h;exact ⟨h,ne⟩
  have nz:∀q,H q=none->q≠l->Hz q=none:=λq h ne=>by rw[eHz,bf ne];exact h
  clear eHz;have q0l:q0≠l:=λz=>by rw[z,nl] at g1;cases g1
  have G0:bA K Hz H2 q0 []:=⟨[],s2 _ _ g1,.nil,λz=>nomatch z⟩;exists Dp (λσ' H'=>aF H H'/\∃Rs R us y,σ'=[some (.ref x),some (.int st),some (.ref l),y]/\H' l=some (.lst us)/\Paired (λR v=>∃q,v=V.ref q/\Hz q=none/\bA K Hz H' q R) (Rs++[R]) us/\A8 mv pt (Rs++[R])/\Rs.length<=st) (λ_ H'=>match H' l with | some (.lst us)=>st+1 - us.length | _=>0) ⟨s02,[],[],_,_,rfl,g2,.cons ⟨q0,rfl,nz q0 nq0 q0l,G0⟩ .nil,⟨by simp,λt R e=>?_,λt R R' e e'=>?_⟩,aZ _⟩ ?_
  ·have ht:=(aB.mp e).1;have:t=0:=by simpa using ht
   subst this;cases e;exact ⟨[],GY⟩
  ·have ht:=(aB.mp e').1;simp at ht
  rintro σ' Ha ⟨sa,Rs,R,us,y,rfl,gu,pa,Gw,hst⟩;have lu:=pa.length;rw[ao,aX] at lu;have eR:(Rs++[R])[Rs.length]?=some R:=by rw[bT (aw _),mD];rfl
  obtain ⟨ps,RR⟩:=Gw.rr _ _ eR;have tn:Rs.length<=mv.length:=by have:=Gw.len _ _ eR;have:=RR.le;have:=RR.1;lia
  have fin:∀(Hx:Hp) (sx:aF Ha Hx) (hh:∀s,(Rs.length=st/\s=st\/Rs.length < st/\Rs.length<=s)->∃ps,bK (kry mv pt s) mv.length R ps),Q (.ref l) Hx:=λHx sx hh=>by
   refine k l (Rs++[R]) Hx nl0 (sa.trans sx) ⟨us,sx _ _ gu,Paired.imp' (λ_ _ ⟨q,e1,e2,e3⟩=>⟨q,e1,(zn q e2).1,(zn q e2).2,bA.weakN (bA.same e3 sx) λq h=>(zn q h).1⟩) pa⟩ Gw (by rw[ao,aX];lia) λR2 e2 s hs=>?_
   rw[List.getLast?_concat] at e2;cases e2;rw[ao,aX,Nat.add_sub_cancel] at hs;exact hh s hs
  exists ⟨_,_,rfl,.inl (bE.of gu),?_⟩;exists gR (λh0=>?_) (λh0=>?_)
  ·have h0:=of_decide_eq_true h0;refine OH ?_
   obtain ⟨zs,gS⟩:∃zs q,us=zs++[V.ref q]/\Hz q=none/\bA K Hz Ha q R:=by
    obtain ⟨v,ev,q,rfl,e2,e3⟩:∃v,us[Rs.length]?=some v/\∃q,v=V.ref q/\Hz q=none/\bA K Hz Ha q R:=by
     have ev:=ag (show Rs.length < us.length by lia);obtain ⟨R2,e2,w⟩:=bY pa ev;rw[eR] at e2;cases e2;exact ⟨_,ev,w⟩
    refine ⟨us.take Rs.length,q,?_,e2,e3⟩;rw[<- take_snoc ev,aI (by lia)]
   obtain ⟨q,rfl,zq,Gq⟩:=gS;have gxa:=sa _ _ gx;exists ⟨x,Z.a_System,dx,_,_,rfl,gxa,T.cl_System,T.na_put,yS,?_⟩;exists b9 (bE.of gu) (vL _ _) ?_;have wR:=RR.2.1;have lR:=RR.1;have pn:=RR.le;exists ⟨x,q,H0,Hz,mv,pt,lk,R,rfl,S.same sa,D,Gq,by lia,wR,F.fit d8 D.mw D.pw tn RR,λmr Hb nmr sb Gm=>?_⟩;obtain ⟨pv,gpv,qpv,_⟩:=Gb.same (sa.trans sb);obtain ⟨mvs,gmv,qmv,_⟩:=id Gm;have lpv:=qpv.length;have lmv:=qmv.length;rw[ah] at lmv;exists xa gpv gmv (bc (bC (by lia))) λcr Hc sc nc gc=>?_
   have sab:=sa.trans (sb.trans sc);have Gc':bA K (λ_=>none) Hc cr (pt++R.map (lY mv)):=CC (H:=Hb) (cp (Paired.imp' (λ_ _ ⟨q,e1,e2,e3⟩=>⟨q,e1,rfl,e3⟩) qpv) (Paired.imp' (λ_ _ ⟨q,e1,e2,e3⟩=>⟨q,e1,rfl,e3⟩) qmv)) sc nc gc;exists ⟨x,Z.a_System,dx,_,_,rfl,sab _ _ gx,T.cl_System,T.na_states,iE,?_⟩;exists ⟨cr,mv.length,_,_,_,rfl,Gc',by rw[ao,ah];lia,by lia,λxs hx=>?_,F.step d8 D.mw D.pw tn RR,λrr R' ps' M' Hd nrr sd G' RR' pm' _ _ _=>?_⟩
   ·rcases ax.mp hx with hx | hx
    ·exact D.pw xs hx
    ·obtain ⟨y,_,rfl⟩:=az.mp hx;exact oO
   have sbd:=sb.trans (sc.trans sd);have sad:=sa.trans sbd;have K1:=vf rfl D.mw D.pw RR RR';have gud:=sbd _ _ gu;obtain ⟨rv,grv,qrv,_⟩:=id G';have lrv:=qrv.length;have lR':=RR'.1;have pn':=RR'.le;exists ⟨_,_,rfl,.inl (bE.of grv),?_⟩;exists b9 (bE.of gud) (vL _ _) ?_;obtain ⟨ov,gov,qov,_⟩:=Gq.same sbd;have lov:=qov.length;exists ⟨_,_,rfl,.inl (bE.of gov),?_⟩;exists gR (λh1=>?_) (λh1=>?_)
   ·have h1:=of_decide_eq_true h1;exists fin Hd sbd λs hs=>⟨ps,?_⟩
    obtain ⟨s',rfl⟩:∃s',s=Rs.length+s':=⟨s - Rs.length,by lia⟩;exact Cz rfl D.mw D.pw RR RR' (by lia) s'
   ·have h1:¬((rv.length:Int)=ov.length):=λz=>h1 (decide_eq_true z)
    have gr:=FE rfl D.mw D.pw RR K1;have rl:rr≠l:=λz=>by rw[z,(sb.trans sc) _ _ gu] at nrr;cases nrr
    have zc:∀q,Hc q=none->Hz q=none:=λq h=>nz q (sab.none h) (λz=>by rw[z,(sb.trans sc) _ _ gu] at h;cases h)
    exists ⟨.inl ⟨rfl,_,bE.of gud⟩,?_⟩;exists fz gud (bC (by lia)) ?_;refine ⟨⟨sad.after nl0,Rs++[R],R',_,_,rfl,aE,cp (Paired.imp' (λ_ _ ⟨q,e1,e2,e3⟩=>⟨q,e1,e2,bA.updL (bA.same e3 sbd) gud zl (zn q e2).2⟩) pa) (.cons ⟨rr,rfl,zc rr nrr,bA.updL (G'.weakN zc) gud zl rl⟩ .nil),Gw.snoc K1 (by lia),by rw[ao,aX];lia⟩,?_⟩;simp only[gu,aE,ao,aX] at lu h0 ⊢
    lia
  ·have h0:¬((us.length:Int)<=st):=λz=>h0 (decide_eq_true z)
   walk_at "w"
   exact fin Ha (aF.refl _) λs hs=>⟨ps,by
    have:s=Rs.length:=by lia
    rw[this];exact RR⟩
theorem Bn:aP ["system","steps"] ["system","steps"] (aH oy):=by walk_at "d"
theorem Bu (T:Txt K mg Z) (ptree:P.given.tree=none):cC P w K mg base eY 8 Z.vO Z.vv ["system","steps"] (Ca K Z.a_System):=by
 have BL:=Af (P:=P) (w:=w) (base:=base) T ptree;refine T.mW.F.ok Bn (λvs H Q E h=>?_) (λcdv A outer s H vs Q E hr h=>?_)
 ·obtain ⟨x,a,c,st,H0,mv,pt,lk,rfl,_⟩:=h;rfl
 ·obtain ⟨x,a,c,st,H0,mv,pt,lk,rfl,s1000,S,D,F,k⟩:=h;refine ⟨_,(ay (aN (aW bL (cJ BL hr T.lJ (ae (pv 0) (ae (pv 1) aj))) (uR oi ak)))),?_⟩;refine aM (σ:=[some (.ref x),some (.int st)]) rfl ?_;exists ⟨x,a,c,st,H0,mv,pt,lk,rfl,s1000,S,D,F,λr Rs H1 nr s1 ⟨us,gu,pa⟩ Gw hl hh=>?_⟩;have lu:=pa.length;obtain ⟨Rs',R,rfl⟩:∃Rs' R,Rs=Rs'++[R]:=⟨Rs.dropLast,Rs.getLast Gw.ne,(List.dropLast_concat_getLast Gw.ne).symm⟩;rw[ao,aX] at lu hl;have eR:(Rs'++[R])[Rs'.length]?=some R:=by rw[bT (aw _),mD];rfl
  obtain ⟨zs,q,rfl,zq,ql,Gq⟩:∃zs q,us=zs++[V.ref q]/\H q=none/\q≠r/\bA K H H1 q R:=by
   have ev:=ag (show Rs'.length < us.length by lia);obtain ⟨R2,e2,q,e3,e4,e5,e6⟩:=bY pa ev;rw[eR] at e2;cases e2;rw[e3] at ev;refine ⟨us.take Rs'.length,q,?_,e4,e5,e6⟩;rw[<- take_snoc ev,aI (by lia)]
  obtain ⟨ps,RR⟩:=hh R (by rw[List.getLast?_concat]) st (by rw[ao,aX,Nat.add_sub_cancel];lia);exists b9 (bE.of gu) (vL _ _) ?_;exact k q R ps H1 zq s1 Gq RR
theorem Fe:aP ["many","at"] ["many","at"] (aH tY):=by walk_at "d"
theorem Fu (T:Txt K mg Z) (ptree:P.given.tree=none):cC P w K mg base eY 1 Z.AZ Z.AM ["many","at"] (EW K):=by
 refine T.rB.F.ok Fe (λvs H Q E h=>?_) (λcdv A outer s H vs Q E hr h=>?_)
 ·obtain ⟨m,a',rfl,_⟩:=h;rfl
 ·obtain ⟨m,a',rfl,hm,k⟩:=h;refine ⟨_,(ay (aN (cv ["place"] ["at"] [1] (cy rfl T.range (ae (pv 0) aj)) (λ_=>(aK (i:=0) (show ND9 ["place","at"] by decide +kernel))) (λ_=>cB) (λ_=>(Lv (be eS (pv 0) (pv 1) (bB _)) (kF (v:=.ref Z.a_ONE) rfl T.mg_ONE rfl) (kF (v:=.ref Z.a_NOUGHT) rfl T.mg_NOUGHT rfl)))))),?_⟩;refine aM (σ:=[some (.int m),some (.int a')]) rfl ?_;exists ⟨by lia,by lia,?_⟩;refine fR (n:=m) (cA K) (λi=>if ((i:Nat):Int)=a' then 1 else 0) hm (λa b=>a.same b) ?_ ?_
  ·rintro i H' NY NN hi s k1;exists gR (λh0=>?_) (λh0=>?_)
   ·exists k1 _ _ (aF.refl _) (by rw[if_pos (of_decide_eq_true h0)];exact ⟨_,rfl,T.sq_ONE _⟩)
   ·exists k1 _ _ (aF.refl _) (by rw[if_neg (λz=>h0 (decide_eq_true z))];exact ⟨_,rfl,T.sq_NOUGHT _⟩)
  ·rintro ys H' l hl s g pr nx;exact k l _ hl s ⟨ys,g,pr⟩
theorem wJ:aP ["row"] ["row"] (aH kj):=by walk_at "d"
theorem xj (T:Txt K mg Z) (ptree:P.given.tree=none):cC P w K mg base eY 1 Z.pR Z.pO ["row"] (E6 K):=by
 refine T.jM.F.ok wJ (λvs H Q E h=>?_) (λcdv A outer s H vs Q E hr h=>?_)
 ·obtain ⟨p,xs,j,rfl,_⟩:=h;rfl
 ·obtain ⟨p,xs,j,rfl,R,x1000,hj,hne,hz,k⟩:=h;refine ⟨_,(ay (aN (bF (Ko rfl) (by rfl) T.min PyProof.Rows.boot_min (ae (cv ["place","value"] [] [] (IG rfl T.enumerate (ae (pv 0) aj)) (λ_=>(l9 K 2 (bX (aK (i:=0) (show ND9 ["place","value"] by decide +kernel)) (bX (aK (i:=1) (show ND9 ["place","value"] by decide +kernel)) eQ)))) (λ_=>DS (be (DU K (by rfl) (AB hr)) (pv 1) (kF (v:=.ref Z.a_NOUGHT) rfl T.mg_NOUGHT rfl) (bB _))) (λ_=>(pv 0))) aj)))),?_⟩;refine aM (σ:=[some (.ref p)]) rfl ?_;obtain ⟨zs,gz,qz⟩:=id R;have lz:=qz.length;exists ⟨⟨_,bE.of gz⟩,?_⟩;refine Km (K:=K) (xs:=zs) (λi ys H'=>aF H H'/\ys=c7 (uC xs i)) (bc (bC (by lia))) ⟨aF.refl _,rfl⟩ (λi ys H' _ ⟨s,_⟩=>bE.of (s _ _ gz)) ?_ ?_
  ·rintro i v ys H' r hx hlen ⟨s',rfl⟩ hr;obtain ⟨y,ey,ny⟩:=bY qz hx;have ey':xs.getD i 0=y:=by rw[aa,ey];rfl
   have sr:aF H' (upd H' r (.tup [.int i,v])):=aF.new hr;have gr:(upd H' r (.tup [.int i,v])) r=some (.tup [.int i,v]):=aE;generalize upd H' r (.tup [.int i,v])=H2 at sr gr ⊢;exists ⟨_,_,CA,y,0,by decide,(ny.same s').same sr,⟨_,rfl,T.sq_NOUGHT _⟩,?_⟩;by_cases e:y=0
   ·rw[decide_eq_true e];exists ⟨s'.trans sr,?_⟩;rw[mf,ey',if_neg (by simpa using e)]
   ·rw[decide_eq_false e];exists ⟨s'.trans sr,?_⟩;rw[mf,ey',if_pos e];unfold c7;rw[cE];rfl
  ·rintro ys H1 hy ⟨s1,rfl⟩ l hl;have sn:aF H1 (upd H1 l (.lst (c7 (uC xs zs.length)))):=aF.new hl;have gn:(upd H1 l (.lst (c7 (uC xs zs.length)))) l=some (.lst (c7 (uC xs zs.length))):=aE;generalize upd H1 l (.lst (c7 (uC xs zs.length)))=H2 at sn gn ⊢
   have mj:j∈uC xs zs.length:=by
    unfold uC;exact kM.mpr ⟨fJ.mpr (by lia),by simpa using hne⟩
   exists ⟨l,IX (uC xs zs.length),rfl,bE.of (by rw[<- J6];exact gn),?_,λM hM hle=>?_⟩
   ·unfold IX;rw[ah];exact List.length_pos_of_mem mj
   ·obtain ⟨c,hc,rfl⟩:=az.mp hM;have h1:=hle j (az.mpr ⟨j,mj,rfl⟩);have h2:=(kM.mp hc).2
    have e:c=j:=by
     rcases dM c j with z | z | z
     ·exact absurd (hz c z) (of_decide_eq_true h2)
     ·exact z
     ·lia
    rw[e];exact k _ (s1.trans sn)
theorem GR:aP ["rows"] ["rows"] (aH wV):=by walk_at "d"
theorem uj (T:Txt K mg Z) (ptree:P.given.tree=none):cC P w K mg base eY 2 Z.C7 Z.CN ["rows"] (zE K):=by
 have yN:=xj (P:=P) (w:=w) (base:=base) T ptree;refine T.lL.F.ok GR (λvs H Q E h=>?_) (λcdv A outer s H vs Q E hr h=>?_)
 ·obtain ⟨p,n,H0,R,ps,rfl,_⟩:=h;rfl
 ·obtain ⟨p,n,H0,R,ps,rfl,G,r100,n100,⟨rows,RR⟩,k⟩:=h;refine ⟨_,(ay (aN (cv ["row"] [] [] (cu (pv 0)) (λ_=>(aK (i:=0) (show ND9 ["row"] by decide +kernel))) (λ_=>cB) (λ_=>(cJ yN hr T.jM (ae (pv 0) aj)))))),?_⟩;refine aM (σ:=[some (.ref p)]) rfl ?_;obtain ⟨lR,wR,rr⟩:=id RR;obtain ⟨xs,gx,qx,_⟩:=id G;have lx:=qx.length;exists ⟨⟨_,bE.of gx⟩,?_⟩;refine d6 (K:=K) (xs:=xs) (λi ys H'=>aF H H'/\ys=c7 (ps.take i)) (bc (bC (by lia))) ⟨aF.refl _,rfl⟩ (λi ys H' _ ⟨s,_⟩=>bE.of (s _ _ gx)) ?_ ?_
  ·rintro i v ys H' hx hlen ⟨s',rfl⟩;obtain ⟨row,er,q,rfl,_,Rr⟩:=bY qx hx;have wr:=wR row (au er);have hi:i < ps.length:=by have:=(aB.mp er).1;lia
   have ef:∀c,bV R i c=row.getD c 0:=λc=>by unfold bV;rw[aa (l:=R),er];rfl
   have ep:ps[i]?=some (ps.getD i 0):=by rw[aa,ag hi];rfl
   have lowp:=rr.low i hi;have u:=rr.unit i hi i hi;rw[if_pos rfl,ef] at u;exists ⟨q,row,ps.getD i 0,rfl,Rr.same s',by lia,by lia,by rw[u];decide,λc hc=>by rw[<- ef];exact rr.lead i hi c hc,λH2 s2=>?_⟩;refine ⟨s'.trans s2,?_⟩;unfold c7;rw[take_snoc ep,cE];rfl
  ·rintro ys H1 hy ⟨s1,rfl⟩ r hr;refine k r _ (s1.none hr) (s1.trans (aF.new hr)) ?_;rw[aE,aI (by lia)]
theorem ox:aP ["rows","wide","at","answer","lead","row"] ["rows","wide","at"] (aH wU):=by walk_at "d"
theorem HG (T:Txt K mg Z) (ptree:P.given.tree=none):cC P w K mg base eY 4 Z.C6 Z.CM ["rows","wide","at"] (Ce K):=by
 have Im:=Fu (P:=P) (w:=w) (base:=base) T ptree;have oa:=uj (P:=P) (w:=w) (base:=base) T ptree;have EA:=Fw (P:=P) (w:=w) (base:=base) T ptree;refine T.uu.F.ok ox (λvs H Q E h=>?_) (λcdv A outer s H vs Q E hr h=>?_)
 ·obtain ⟨p,n,a,H0,R,ps,rfl,_⟩:=h;rfl
 ·obtain ⟨p,n,a,H0,R,ps,rfl,G,r100,n100,⟨rows,RR⟩,ha,hp,hz,k⟩:=h
  refine ⟨_,(ar (a9 (i:=3) ox.nd rfl (Or.inl rfl) (cJ Im hr T.rB (ae (pv 1) (ae (pv 2) aj))))
   (ar (df PassesOwn.never rfl (kE rfl T.zip (ae (cJ oa hr T.lL (ae (pv 0) aj)) (ae (pv 0) aj))) (mS rfl (bX (aK (i:=4) ox.nd) (bX (aK (i:=5) ox.nd) eQ)))
    (ay (eI (cJ EA hr T.vd (ae (kF (v:=.ref Z.a_NOUGHT) rfl T.mg_NOUGHT rfl) (ae (aW bL (pv 5) (pv 2)) aj))) (gK (pv 3) (pv 4) set_list))))
   (ay (aN (pv 3))))),?_⟩
  refine aM (σ:=[some (.ref p),some (.int n),some (.int a),none,none,none]) rfl ?_;obtain ⟨lR,wR,rr⟩:=id RR;exists ⟨n,a,rfl,by lia,λan H1 na s1 R1=>?_⟩;rw[<- N4 (R:=R) (ps:=ps)] at R1;obtain ⟨vs0,g0,q0⟩:=id R1;exists ⟨p,n,H0,R,ps,rfl,G.same s1,r100,n100,⟨rows,RR⟩,λle H2 nl s2 g2=>?_⟩;have anl:le≠an:=λz=>by rw[z,g0] at nl;cases nl
  obtain ⟨rs,grs,qrs,_⟩:=id G;have lrs:=qrs.length;have lps:=lF (ps:=ps);exists ⟨⟨_,bE.of g2⟩,⟨_,bE.of ((s1.trans s2) _ _ grs)⟩,?_⟩;refine El (K:=K) (xs:=c7 ps) (ws:=rs) (λj σ' H'=>aF H H'/\H' le=some (.lst (c7 ps))/\∃y1 y2 vs,σ'=[some (.ref p),some (.int n),some (.int a),some (.ref an),y1,y2]/\H' an=some (.lst vs)/\Paired (cA K H') (IM R ps n a j) vs) (by lia) ⟨s1.trans s2,g2,_,_,vs0,rfl,s2 _ _ g0,Paired.imp' (λ_ _ z=>cA.same z s2) q0⟩ (λj σ' H' _ ⟨e,e2,_⟩=>⟨bE.of e2,bE.of (e _ _ grs)⟩) ?_ ?_
  ·rintro j v1 v2 σ' H' r h1 h2 ⟨s',gl,y1,y2,vs,rfl,ga,qa⟩ hr;obtain ⟨row,er,q,rfl,_,Rr⟩:=bY qrs h2;have mr:=au er;have wr:=wR row mr;obtain ⟨pj,ej,rfl⟩:=uZ h1;have hj:j < ps.length:=(aB.mp ej).1;have ejD:ps.getD j 0=pj:=by rw[aa,ej];rfl
   have pjn:pj < n:=by have:=rr.low j hj;rw[ejD] at this;exact this
   have fr:bV R j a=row.getD a 0:=by unfold bV;rw[aa (l:=R),er];rfl
   have sr:aF H' (upd H' r (.tup [.int pj,.ref q])):=aF.new hr;have gr:(upd H' r (.tup [.int pj,.ref q])) r=some (.tup [.int pj,.ref q]):=aE;generalize upd H' r (.tup [.int pj,.ref q])=H3 at sr gr ⊢;have s03:=s'.trans sr;obtain ⟨us,gu,qu⟩:=Rr.same s03;obtain ⟨vx,ex,nx⟩:=BF qu (j:=a) (by lia);exists b9 (bE.of gu) ex ?_;exists ⟨_,_,0,row.getD a 0,rfl,⟨_,rfl,T.sq_NOUGHT _⟩,nx,KZ,hz row mr _ (getD_in (by lia)),λr4 H4 s4 n4=>?_⟩;have ga4:=(sr.trans s4) _ _ ga;have gl4:=(sr.trans s4) _ _ gl;have la:=qa.length;rw[rz] at la;exists eN ga4 (fo (by lia)) rfl ?_;refine ⟨(s03.trans s4).after na,by rw[bf anl];exact gl4,_,_,_,rfl,aE,?_⟩;rw[<- N5 RR hj hp,ejD,fr,show -(row.getD a 0)=0 - row.getD a 0 by grind];exact jK (Paired.imp' (λ_ _ z=>(cA.same z (sr.trans s4)).updL ga4) qa) pj (n4.updL ga4)
  ·rintro σ' H' ⟨s',gl,y1,y2,vs,rfl,ga,qa⟩;rw[lps] at qa;exists k an H' na s' ⟨vs,ga,qa⟩
theorem qB:aP ["rows","wide","leads"] ["rows","wide"] (aH mL):=by walk_at "d"
theorem Ai (T:Txt K mg Z) (ptree:P.given.tree=none):cC P w K mg base eY 3 Z.tJ Z.sX ["rows","wide"] (E7 K):=by
 have oa:=uj (P:=P) (w:=w) (base:=base) T ptree;refine T.lM.F.ok qB (λvs H Q E h=>?_) (λcdv A outer s H vs Q E hr h=>?_)
 ·obtain ⟨p,n,H0,R,ps,rfl,_⟩:=h;rfl
 ·obtain ⟨p,n,H0,R,ps,rfl,G,r100,n100,RR,k⟩:=h
  refine ⟨_,(ar (a9 (i:=2) qB.nd rfl (Or.inr rfl) (cJ oa hr T.lL (ae (pv 0) aj)))
   (ay (aN (cv ["place"] ["leads"] [2] (cy rfl T.range (ae (pv 1) aj)) (λ_=>(aK (i:=0) (show ND9 ["place","leads"] by decide +kernel))) (λ_=>DS (be (Bt K (by rfl)) (pv 0) (pv 1) (by with_unfolding_all rfl))) (λ_=>(pv 0)))))),?_⟩
  refine aM (σ:=[some (.ref p),some (.int n),none]) rfl ?_;exists ⟨p,n,H0,R,ps,rfl,G,r100,n100,RR,λl H1 nl s1 g1=>?_⟩;exists ⟨by lia,by lia,?_⟩;refine jP (n:=n) (λi ys H'=>aF H1 H'/\ys=c7 (y8 ps i)) (bc (bC (by lia))) ⟨aF.refl _,rfl⟩ ?_ ?_
  ·rintro i ys H' hi hlen ⟨s',rfl⟩;rw[mE];exists ⟨l,c7 ps,rfl,.inl (bE.of (s' _ _ g1)),rfl,Cu,?_⟩;rw[FF];by_cases e:i∈ps
   ·rw[decide_eq_true e];exists ⟨s',?_⟩;rw[AI,if_neg (by simpa using e)]
   ·rw[decide_eq_false e,show (if true=true then !false else false)=true from rfl];exists ⟨s',?_⟩;rw[AI,if_pos e];unfold c7;rw[cE];rfl
  ·rintro ys H2 hy ⟨s2,rfl⟩ r hr;exact k r _ (s1.none (s2.none hr)) ((s1.trans s2).trans (aF.new hr)) aE
theorem Ff:aP ["rows","wide","basis"] ["rows","wide"] (aH DN):=by walk_at "d"
theorem LC (T:Txt K mg Z) (ptree:P.given.tree=none):cC P w K mg base eY 6 Z.Jt Z.Jj ["rows","wide"] (Cd K):=by
 have nZ:=ui (P:=P) (w:=w) (base:=base) T ptree;have Ku:=HG (P:=P) (w:=w) (base:=base) T ptree;have BN:=Ai (P:=P) (w:=w) (base:=base) T ptree;refine T.As.F.ok Ff (λvs H Q E h=>?_) (λcdv A outer s H vs Q E hr h=>?_)
 ·obtain ⟨p,n,w,H0,rows,R,ps,rfl,_⟩:=h;rfl
 ·obtain ⟨p,n,w,H0,rows,R,ps,rfl,G,r100,n100,RR,F,szR,k⟩:=h
  refine ⟨_,(ar (a9 (i:=2) Ff.nd rfl (Or.inr rfl) (cJ nZ hr T.lI (ae (pv 0) (ae (pv 1) aj))))
   (ay (aN (cv ["at"] ["basis","wide"] [2,1] (cu (cJ BN hr T.lM (ae (pv 2) (ae (pv 1) aj)))) (λ_=>(aK (i:=0) (show ND9 ["at","basis","wide"] by decide +kernel))) (λ_=>cB) (λ_=>(cJ Ku hr T.uu (ae (pv 1) (ae (pv 2) (ae (pv 0) aj))))))))),?_⟩
  refine aM (σ:=[some (.ref p),some (.int n),none]) rfl ?_;exists ⟨p,n,w,H0,R,rfl,G,r100,n100,RR.2.1,F,λba R2 ps2 M H1 nb s1 G1 RR2 pm M0 M1 tM=>?_⟩;obtain ⟨rfl,rfl⟩:=RR2.same (uN RR);have pn:=RR.le;have lR:=RR.1;have fl:=Qw (ps:=ps2) (i:=n);exists ⟨ba,n,H,R2,ps2,rfl,G1,by lia,by lia,⟨rows,RR⟩,λfr H2 nf s2 g2=>?_⟩;exists ⟨⟨_,bE.of g2⟩,?_⟩;refine d6 (K:=K) (xs:=c7 (y8 ps2 n)) (λi ys H'=>aF H2 H'/\Paired (cO K H H') ((y8 ps2 n).take i |>.map (Ky R2 ps2 n)) ys) (bc (bC (by rw[lF];lia))) ⟨aF.refl _,.nil⟩ (λi ys H' _ ⟨s,_⟩=>bE.of (s _ _ g2)) ?_ ?_
  ·rintro i v ys H' hx hlen ⟨s',pr⟩;obtain ⟨a,ea,rfl⟩:=uZ hx;obtain ⟨an,ap⟩:=Ek.mp (au ea);have s02:=(s1.trans s2).trans s';exists ⟨ba,n,a,H,R2,ps2,rfl,(G1.same s2).same s',by lia,by lia,⟨rows,RR⟩,an,ap,szR,λr H3 nr s3 R3=>?_⟩;refine ⟨s'.trans s3,?_⟩;rw[take_snoc ea,cE];exact cp (Paired.imp' (λ_ _ z=>cO.same z s3) pr) (.cons ⟨r,rfl,s02.none nr,R3⟩ .nil)
  ·rintro ys H3 hy ⟨s3,pr⟩ r hr;rw[aI (by rw[lF];exact aw _)] at pr;have sn:aF H3 (upd H3 r (.lst ys)):=aF.new hr;have s03:=(s1.trans s2).trans s3;exact k r _ (s03.none hr) (s03.trans sn) ⟨ys,aE,Paired.imp' (λ_ _ z=>cO.same z sn) pr,ka (H0:=H) (rows:=dg R2 ps2 n) ⟨H3,hr,pr⟩⟩
theorem qv:aP ["system","steps","told"] ["system","steps"] (aH mH):=by walk_at "d"
theorem Ad (T:Txt K mg Z) (ptree:P.given.tree=none):cC P w K mg base eY 9 Z.tE Z.sT ["system","steps"] (zu K Z.a_System):=by
 have Ez:=Bu (P:=P) (w:=w) (base:=base) T ptree;have kv:=nI (P:=P) (w:=w) (base:=base) T ptree;have nZ:=ui (P:=P) (w:=w) (base:=base) T ptree;have Ou:=LC (P:=P) (w:=w) (base:=base) T ptree;refine T.lG.F.ok qv (λvs H Q E h=>?_) (λcdv A outer s H vs Q E hr h=>?_)
 ·obtain ⟨x,tt,e,H0,mv,pt,lk,rfl,_⟩:=h;rfl
 ·obtain ⟨x,tt,e,H0,mv,pt,lk,rfl,hT,S,D,F,UF,k⟩:=h
  refine ⟨_,(ar (a9 (i:=2) qv.nd rfl (Or.inl rfl) (cJ Ez hr T.mW (ae (Fs (pv 0) T.cl_System T.jN kv (hr.mono (by decide)) T.kr .nil Aa) (ae (pv 1) aj))))
   (ay (aN (cJ nZ hr T.lI (ae (cJ Ou hr T.As (ae (pv 2) (ae (eJ (pv 0) rfl) aj))) (ae (eJ (pv 0) rfl) aj)))))),?_⟩
  refine aM (σ:=[some (.ref x),some (.int tt),none]) rfl ?_;have d8:=D.n8;have et:(bJ mv mv.length).length=mv.length:=cW;obtain ⟨a,c,KF,_,_⟩:=UF.kf;obtain ⟨dx,a',b',c',gx,_⟩:=id S;exists ⟨x,dx,_,rfl,gx,zj,?_⟩;exists ⟨x,H0,mv,pt,lk,rfl,S,D,F.sf,λy H1 ny s1 S1=>?_⟩;exists ⟨y,a,c,tt,H,_,lk,pt,rfl,by lia,S1,D.turn,KF,λq R ps H2 nq s2 G2 RR=>?_⟩;have s02:=s1.trans s2;obtain ⟨⟨w1,sw⟩,szR,w2,swn,bn,q1,q10,tn⟩:=UF.sw RR;have e1:=UF.e1;rw[et] at RR sw swn bn tn;have le:=RR.le;have lR:=RR.1;have cnt:=xl RR;exists ⟨x,Z.a_System,dx,_,_,rfl,s02 _ _ gx,T.cl_System,T.na_states,iE,?_⟩;exists ⟨q,mv.length,w1,H1,_,R,ps,rfl,G2,by lia,by lia,RR,sw,szR,λr3 H3 n3 s3 G3=>?_⟩;have s03:=s02.trans s3;exists ⟨x,Z.a_System,dx,_,_,rfl,s03 _ _ gx,T.cl_System,T.na_states,iE,?_⟩;exists ⟨r3,mv.length,w2,H2,_,rfl,G3,by lia,by lia,Eb,swn,λr4 Hd psd M4 H4 n4 s4 G4 RN _ M0 M1 tp=>?_⟩;have up:=av (show 0 < 2 by decide) bn;exact k r4 Hd H4 (s03.none n4) (s03.trans s4) (G4.weakN λq h=>s03.none h) ⟨R,ps,psd,M4,RR,RN,HJ RR bW q10 tn RN,M0,ai M1 up,λxs hx x hx'=>(tp xs hx x hx').mono up⟩
theorem Lb:aP ["one","other"] ["one","other"] (aH DJ):=by walk_at "d"
theorem LA (T:Txt K mg Z) (ptree:P.given.tree=none):cC P w K mg base eY 3 Z.Jq Z.Jg ["one","other"] (mF K (λx y=>x*y)):=by
 have jA:=nG (P:=P) (w:=w) (base:=base) T ptree;refine T.Aq.F.ok Lb (λvs H Q E h=>?_) (λcdv A outer s H vs Q E hr h=>?_)
 ·obtain ⟨p,q,a,b,c,d,rfl,hp,hq,hb,hd,sa,sb,sc,sd,k⟩:=yV h;rfl
 ·obtain ⟨p,q,a,b,c,d,rfl,hp,hq,hb,hd,sa,sb,sc,sd,k⟩:=yV h;refine ⟨_,(ay (aN (cJ jA hr T.jL (ae (bM c5 (aW bI (pv 0) ak) (aW bI (pv 1) ak)) (ae (bM c5 (aW bI (pv 0) ak) (aW bI (pv 1) ak)) aj))))),?_⟩;refine aM (σ:=[some (.ref p),some (.ref q)]) rfl ?_;have hbd:0 < b*d:=gD hb hd;have sbd:Sz 449950 (b*d):=(sb.mul sd).mono (by decide);exists fj (show fh _ _ from .inr ⟨_,_,sa,sc,by decide⟩) ?_;exists fj (show fh _ _ from .inr ⟨_,_,sb,sd,by decide⟩) ?_;walk_at "w";exists ⟨_,_,rfl,by lia,sbd,λr H' s' h'=>?_⟩;rw[if_neg (by lia),if_neg (by lia)] at h';exact k r H' s' h'
theorem DB:aP ["by","row"] ["by","row"] (aH qF):=by walk_at "d"
theorem DW (T:Txt K mg Z) (ptree:P.given.tree=none):cC P w K mg base eY 4 Z.yj Z.xQ ["by","row"] (GP K):=by
 have Oq:=LA (P:=P) (w:=w) (base:=base) T ptree;refine T.oR.F.ok DB (λvs H Q E h=>?_) (λcdv A outer s H vs Q E hr h=>?_)
 ·obtain ⟨u,q,c,ys,rfl,_⟩:=h;rfl
 ·obtain ⟨u,q,c,ys,rfl,hc,sc,hq,hz,h2,kk⟩:=h;refine ⟨_,(ay (aN (cv ["value"] ["by"] [0] (cu (pv 1)) (λ_=>(aK (i:=0) (show ND9 ["value","by"] by decide +kernel))) (λ_=>cB) (λ_=>(cJ Oq hr T.Aq (ae (pv 1) (ae (pv 0) aj))))))),?_⟩;refine aM (σ:=[some u,some (.ref q)]) rfl ?_;obtain ⟨us,gu,qu⟩:=id hq;exists ⟨⟨_,bE.of gu⟩,?_⟩;refine dw (K:=K) (F:=cA K) (cA K) (λy=>c*y) gu qu hz (λa b=>a.same b) (λa b=>a.same b) ?_ ?_
  ·rintro i y x H' NY NN en s hx k;exists ⟨_,_,_,_,rfl,hc.same s,hx,sc,h2 y (au en),λr H2 s2 h2'=>k _ _ s2 h2'⟩
  ·rintro ys' H' r hr s g pr nx;exact kk r H' hr s ⟨ys',g,pr⟩
theorem ou:aP ["state","rows","lead","row"] ["state","rows"] (aH wN):=by walk_at "d"
theorem Hw (T:Txt K mg Z) (ptree:P.given.tree=none):cC P w K mg base eY 5 Z.C3 Z.CJ ["state","rows"] (OD K):=by
 have oa:=uj (P:=P) (w:=w) (base:=base) T ptree;have rT:=uU (P:=P) (w:=w) (base:=base) T ptree;have F7:=DW (P:=P) (w:=w) (base:=base) T ptree;refine T.uq.F.ok ou (λvs H Q E h=>?_) (λcdv A outer s H vs Q E hr h=>?_)
 ·obtain ⟨s,g,n,H0,x,rows,Hd,ps,rfl,_⟩:=h;rfl
 ·obtain ⟨s,g,n,H0,x,rows,Hd,ps,rfl,Rs,ls,G,n90,RR,WZ,k⟩:=h
  refine ⟨_,(ar (df PassesOwn.never rfl (kE rfl T.zip (ae (cJ oa hr T.lL (ae (pv 1) aj)) (ae (pv 1) aj))) (mS rfl (bX (aK (i:=2) ou.nd) (bX (aK (i:=3) ou.nd) eQ)))
    (ay (a9 (i:=0) ou.nd rfl (Or.inl rfl) (cJ rT hr T.kH (ae (pv 0) (ae (cJ F7 hr T.oR (ae (aW bL (pv 0) (pv 2)) (ae (pv 3) aj))) aj))))))
   (ay (aN (pv 0)))),?_⟩
  refine aM (σ:=[some (.ref s),some (.ref g),none,none]) rfl ?_;obtain ⟨lR,wR,rr⟩:=id RR;have pn:=RR.le;obtain ⟨rs,grs,qrs,_⟩:=id G;have lrs:=qrs.length;have lps:=lF (ps:=ps);exists ⟨g,n,H0,Hd,ps,rfl,G,by lia,by lia,⟨rows,RR⟩,λle H2 nl s2 g2=>?_⟩;exists ⟨⟨_,bE.of g2⟩,⟨_,bE.of (s2 _ _ grs)⟩,?_⟩;refine El (K:=K) (xs:=c7 ps) (ws:=rs) (λj σ' H'=>aF H2 H'/\∃y1 y2 q,σ'=[some (.ref q),some (.ref g),y1,y2]/\(q=s\/H q=none)/\cL K H' q (Bl x Hd ps n j)) (by lia) ⟨aF.refl _,_,_,s,rfl,.inl rfl,by rw[MY ls];exact Rs.same s2⟩ (λj σ' H' _ ⟨e,_⟩=>⟨bE.of (e _ _ g2),bE.of ((s2.trans e) _ _ grs)⟩) ?_ ?_
  ·rintro j v1 v2 σ' H' r h1 h2 ⟨s',y1,y2,q,rfl,hq,Rq⟩ hr;obtain ⟨row,er,u,rfl,_,Rr⟩:=bY qrs h2;have mr:=au er;have wr:=wR row mr;obtain ⟨pj,ej,rfl⟩:=uZ h1;have hj:j < ps.length:=(aB.mp ej).1;have ejD:ps.getD j 0=pj:=by rw[aa,ej];rfl
   have pjn:pj < n:=by have:=rr.low j hj;rw[ejD] at this;exact this
   have erD:Hd.getD j []=row:=by rw[aa,er];rfl
   have MU:=WZ.mul j hj;rw[erD] at MU;have sr:aF H' (upd H' r (.tup [.int pj,.ref u])):=aF.new hr;have gr:(upd H' r (.tup [.int pj,.ref u])) r=some (.tup [.int pj,.ref u]):=aE;generalize upd H' r (.tup [.int pj,.ref u])=H3 at sr gr ⊢;have s03:=(s2.trans s').trans sr;obtain ⟨vq,gq,qq⟩:=Rq.same sr;obtain ⟨vx,ex,nx⟩:=BF qq (j:=pj) (by rw[jF];exact pjn);have mx:(Bl x Hd ps n j).getD pj 0∈Bl x Hd ps n j:=getD_in (by rw[jF];exact pjn);exists b9 (bE.of gq) ex ?_;exists ⟨_,u,_,row,rfl,nx,WZ.sz j (by lia) _ mx,Rr.same s03,by lia,WZ.hz row mr,λr4 H4 n4 s4 R4=>?_⟩;exists ⟨q,r4,_,_,rfl,(Rq.same sr).same s4,R4,by rw[jF,ah,wr],by rw[jF];lia,WZ.sz j (by lia),λz hz=>?_,λr5 H5 n5 s5 R5=>?_⟩
   ·obtain ⟨y,hy,rfl⟩:=az.mp hz;rw[<- ejD];exact MU y hy
   refine ⟨((s'.trans sr).trans s4).trans s5,_,_,r5,rfl,.inr ((s03.trans s4).none n5),?_⟩;rw[<- MZ RR hj er,ejD];exact R5
  ·rintro σ' H' ⟨s',y1,y2,q,rfl,hq,Rq⟩;rw[lps] at Rq;exists k q H' (s2.trans s') hq Rq
theorem kQ:aP ["system","puts","looks","steps","of_rest","of_start","answer","rows"] ["system","puts","looks"] (aH zR):=by walk_at "d"
theorem JV (T:Txt K mg Z) (ptree:P.given.tree=none):cC P w K mg base eY 10 Z.FX Z.FJ ["system","puts","looks"] (BY K Z.a_System):=by
 have BM:=Ag (P:=P) (w:=w) (base:=base) T ptree;have jz:=mU (P:=P) (w:=w) (base:=base) T ptree;have rT:=uU (P:=P) (w:=w) (base:=base) T ptree;have Ot:=LB (P:=P) (w:=w) (base:=base) T ptree;have MH:=N2 (P:=P) (w:=w) (base:=base) T ptree;have F9:=DY (P:=P) (w:=w) (base:=base) T ptree;have kv:=nI (P:=P) (w:=w) (base:=base) T ptree;have Sv:=Qf (P:=P) (w:=w) (base:=base) T ptree;have BK:=Ad (P:=P) (w:=w) (base:=base) T ptree;have Kt:=Hw (P:=P) (w:=w) (base:=base) T ptree;refine T.xm.F.ok kQ (λvs H Q E h=>?_) (λcdv A outer s H vs Q E hr h=>?_)
 ·obtain ⟨x,p,l,tt,e,H0,H1,H2,mv,pt,lk,pus,st,rfl,_⟩:=h;rfl
 ·obtain ⟨x,p,l,tt,e,H0,H1,H2,mv,pt,lk,pus,st,rfl,S,D,F,Gp,Gl,Z5,k⟩:=h
  refine ⟨_,(ar (a9 (i:=3) kQ.nd rfl (Or.inl rfl) (bF a7 (by rfl) T.len aR (ae (pv 2) aj)))
   (ar (a9 (i:=4) kQ.nd rfl (Or.inl rfl) (cJ BM hr T.lK (ae (pv 0) (ae (cJ jz hr T.ig (ae (eJ (pv 0) rfl) aj)) (ae (z9 Dz (pv 1) DR (DQ (uR oi ak))) aj)))))
   (ar (je 5 ["mine","yours"] [] [] kQ.nd rfl rfl (kE rfl T.zip (ae (pv 2) (ae (pv 4) aj))) (λ_=>(l9 K 2 (bX (aK (i:=0) (show ND9 ["mine","yours"] by decide +kernel)) (bX (aK (i:=1) (show ND9 ["mine","yours"] by decide +kernel)) eQ)))) (λ_=>cB) (λ_=>(cJ rT hr T.kH (ae (pv 0) (ae (pv 1) aj)))))
   (ar (a9 (i:=6) kQ.nd rfl (Or.inl rfl) (cJ Ot hr T.Ar (ae (cJ MH hr T.yW (ae (cJ F9 hr T.oV (ae (Fs (pv 0) T.cl_System T.jN kv (hr.mono (by decide)) T.kr .nil Aa) (ae (pv 3) aj))) aj)) (ae (eJ (pv 0) rfl) (ae (cJ MH hr T.yW (ae (pv 5) aj)) aj)))))
   (ar (cY (be eS (aW bI (pv 6) ak) qV (bB _)) (ay (aN (c8 (ae qV (ae (cJ Sv hr T.HM (ae (aW bI (pv 6) ak) (ae (pv 3) (ae (eJ (pv 0) rfl) aj)))) aj))))) bQ)
   (ar (a9 (i:=7) kQ.nd rfl (Or.inl rfl) (cJ BK hr T.lG (ae (pv 0) (ae (pv 3) aj))))
   (ay (aN (c8 (ae qV (ae (cJ Kt hr T.uq (ae (aW bI (pv 6) ak) (ae (pv 7) aj))) (ae (pv 7) aj)))))))))))),?_⟩
  refine aM (σ:=[some (.ref x),some (.ref p),some (.ref l),none,none,none,none,none]) rfl ?_;have d8:=D.n8;have o4:=D.o4;have t12:=Z5.t12;have lp:=Z5.lp;have et:(bJ mv mv.length).length=mv.length:=cW;have wk:=eE (mv:=bJ mv mv.length) (pt:=lk) et D.lw tt;have kl:=vg (mv:=bJ mv mv.length) (pt:=lk) tt;have kl2:tt*lk.length<=12*4:=aJ t12 o4;have l0:(List.replicate mv.length (0:Rat)).length=mv.length:=fN ..;have hd:(lS mv lk st tt).length=(kry (bJ mv mv.length) lk tt).length:=by unfold lS;rw[ah]
  obtain ⟨dx,a',b',c',gx,_⟩:=id S;obtain ⟨us,gl,ql,_⟩:=id Gl;obtain ⟨vs,gp,qp,_⟩:=id Gp;have lu:=ql.length;have lv:=qp.length;have ll:(uw mv pt lk st pus).length=tt:=by unfold uw;rw[ah,cg,lp]
  exists ⟨l,us,rfl,.inl (bE.of gl),?_⟩;have eu:us.length=tt:=by lia
  rw[eu];exists ⟨x,Z.a_System,dx,_,_,rfl,gx,T.cl_System,T.na_states,iE,?_⟩;exists ⟨mv.length,rfl,by lia,λz H3 nz s3 Rz=>?_⟩;exists Lj (bE.of (s3 _ _ gp)) λlA HA sA nA gA=>?_
  rw[Mx] at gA;have qA:=qW qp (vs.length - 1);have s0A:=s3.trans sA;have GA:bA K H1 HA lA (pus.take (vs.length - 1)):=⟨_,gA,Paired.imp' (λ_ _ z=>cO.same z s0A) qA,ka ⟨_,nA,Paired.imp' (λ_ _ z=>cO.same z s3) qA⟩⟩;have ev:vs.length - 1=tt - 1:=by lia
  rw[ev] at GA;exists ⟨x,z,lA,H0,_,mv,pt,lk,pus.take (tt - 1),_,rfl,S.same s0A,D,F,Rz.same sA,l0,GA,by rw[bR];lia,λxs hx=>Z5.wp xs (cb hx),xI.take Z5.cf (by lia),λr4 H4 n4 s4 G4=>?_⟩;have s04:=s0A.trans s4;obtain ⟨ys,g4,q4,_⟩:=id G4;have ly:=q4.length;rw[ah,pe,bR] at ly;exists ⟨⟨_,bE.of (s04 _ _ gl)⟩,⟨_,bE.of g4⟩,?_⟩;refine Kl (K:=K) (xs:=us) (ws:=ys) (λi zs H'=>aF H4 H'/\Paired (cO K H4 H') ((List.range i).map (Sh mv lk st)) zs) (bc (bC (by lia))) (by lia) ⟨aF.refl _,.nil⟩ (λi zs H' _ ⟨s',_⟩=>⟨bE.of ((s04.trans s') _ _ gl),bE.of (s' _ _ g4)⟩) ?_ ?_
  ·rintro i v1 v2 zs H' r e1 e2 hy ⟨s',pr⟩ hr;obtain ⟨row1,er1,u1,rfl,_,R1⟩:=bY ql e1;obtain ⟨row2,er2,u2,rfl,_,R2⟩:=bY q4 e2;have hi:i < tt:=by have:=(aB.mp e1).1;lia
   have er1:lk.map (λxs=>cG xs (pJ mv pt st pus i))=row1:=by
    unfold uw at er1;rw[aD,cV (by lia)] at er1;exact bU er1
   have er2:lk.map (λxs=>cG xs (pJ mv pt (List.replicate mv.length 0) pus i))=row2:=by
    rw[aD,so (by rw[bR];lia),Iw (by lia)] at er2;exact bU er2
   have DL:=Sg D Z5.ls Z5.wp (t:=i) (by lia);obtain ⟨z1,z2⟩:=Z5.sz i hi;rw[er1] at z1;rw[er2] at z2;rw[er1,er2] at DL;have w1:row1.length=lk.length:=by rw[<- er1,ah]
   have w2:row2.length=lk.length:=by rw[<- er2,ah]
   have sr:aF H' (upd H' r (.tup [.ref u1,.ref u2])):=aF.new hr;have gr:(upd H' r (.tup [.ref u1,.ref u2])) r=some (.tup [.ref u1,.ref u2]):=aE;generalize upd H' r (.tup [.ref u1,.ref u2])=H6 at sr gr ⊢;have s46:=s'.trans sr;exists ⟨u1,u2,row1,row2,rfl,R1.same (s04.trans s46),R2.same s46,by rw[w1,w2],by lia,z1,z2,λr7 H7 n7 s7 R7=>⟨s46.trans s7,?_⟩⟩;rw[iT,cE];rw[DL] at R7;exact cp (Paired.imp' (λ_ _ z=>cO.same z (sr.trans s7)) pr) (.cons ⟨r7,rfl,s46.none n7,R7⟩ .nil)
  rintro zs H5 hy ⟨s5,pr⟩ p5 n5;rw[show us.length=tt by lia] at pr;have sp5:aF H5 (upd H5 p5 (.lst zs)):=aF.new n5;have g5:(upd H5 p5 (.lst zs)) p5=some (.lst zs):=aE;generalize upd H5 p5 (.lst zs)=H6 at sp5 g5 ⊢;have s06:=(s04.trans s5).trans sp5;have pr:=Paired.imp' (λ_ _ z=>cO.same z sp5) pr;exists ⟨x,dx,_,rfl,s06 _ _ gx,zj,?_⟩;exists ⟨x,H0,mv,pt,lk,rfl,S.same s06,D,F.sf,λy7 H7 n7 s7 S7=>?_⟩;exists ⟨y7,tt,_,bJ mv mv.length,lk,pt,rfl,by lia,S7,D.turn,Z5.v.ad,λr8 us8 H8 n8 s8 g8 p8=>?_⟩;obtain ⟨zss,pz,pq⟩:=FG p8;have pf:=oN pq;have lf:=pf.length;rw[vN] at pf lf;exists ⟨r8,us8,zss,rfl,g8,pz,by lia,λr9 H9 n9 s9 g9=>?_⟩;have G9:bA K (λ_=>none) H9 r9 (kry (bJ mv mv.length) lk tt):=⟨_,g9,Paired.imp' (λ_ _ ⟨a,b,_,d⟩=>⟨a,b,rfl,d.same s9⟩) pf,ka ⟨H8,n9,pf⟩⟩;have s69:=(s7.trans s8).trans s9;have s09:=s06.trans s69;obtain ⟨zs2,pz2,pq2⟩:=Cq (Paired.imp' (λ_ _ z=>cO.same z s69) pr);have pf2:=oN pq2;have lf2:=pf2.length;rw[Mn] at pf2 lf2;exists ⟨x,Z.a_System,dx,_,_,rfl,s09 _ _ gx,T.cl_System,T.na_states,iE,?_⟩;exists ⟨p5,zs,zs2,rfl,s69 _ _ g5,pz2,by lia,λrA HB nB sB gB=>?_⟩;have RB:cL K HB rA (lS mv lk st tt):=⟨_,gB,Paired.imp' (λ_ _ z=>z.same sB) pf2⟩;have s0B:=s09.trans sB;obtain ⟨w,sw,_⟩:=Z5.sw;exists ⟨r9,rA,mv.length,w,_,_,_,rfl,G9.same sB,RB,hd,by lia,by lia,wk,sw,λR ps RR=>OZ D Z5.ls RR,λtC xC R ps HC RR gC nC sC RC=>?_⟩;have s0C:=s0B.trans sC;walk_at "w";rw[decide_eq_false (show ¬(Str.ofString "yes"=Str.ofString "no") by decide)];exists ⟨x,tt,e,H0,mv,pt,lk,rfl,by lia,S.same s0C,D,F,Z5.v.un,λrD Hd HD nD sD GD U=>?_⟩;obtain ⟨psd,RH,WZ,TL⟩:=SO D Z5 RR U;have s0D:=s0C.trans sD;have gC:=sD _ _ gC;exists ⟨xC,rD,mv.length,_,_,_,Hd,psd,rfl,RC.same sD,ot,GD,by lia,RH,WZ,λrE HE sE hE RE=>?_⟩;exists cD λtF HF sF gF=>?_
  exact k tF rE rD _ Hd HF gF (hE.elim (λz=>z ▸ s0B.none nC) λz=>s0D.none z) (s0C.none nD) ((s0D.trans sE).trans sF) (RE.same sF) ((GD.weakN λq h=>s0C.none h).same (sE.trans sF)) TL
theorem l7:aP ["_law_thing","_law_part"] ["_law_thing"] (aH jI):=by walk_at "d"
theorem uX (T:Txt K mg Z) (ptree:P.given.tree=none):cC P w K mg base eY 2 Z.nW Z.nL ["_law_thing"] (JK K):=by
 have dA:=iL (P:=P) (w:=w) (base:=base) T ptree;refine T.jr.F.ok l7 (λvs H Q E h=>?_) (λcdv A outer s H vs Q E hr h=>?_)
 ·obtain ⟨x,n,rfl,_⟩:=h;rfl
 ·obtain ⟨x,n,rfl,⟨p,rfl,hp⟩,hn,k⟩:=h
  refine ⟨_,(ar (cY (PW.pt (ky (jd (ia (yU rfl T.isinstance PyProof.Rows.boot_tuple T.tuple (pv 0)))) (jb (be sP (bF a7 (by rfl) T.len aR (ae (pv 0) aj)) ak (bB _))))) (ay (aN md)) bQ)
   (ar (df PassesOwn.never rfl (P9 (pv 0)) (aK (i:=1) l7.nd)
    (ay (cY (PW.pt (ky (jd (ia (yU rfl T.isinstance PyProof.Rows.boot_int T.int (pv 1)))) (jb (ia (yU rfl T.isinstance PyProof.Rows.boot_bool T.bool (pv 1)))))) (ay (aN md)) bQ)))
   (ay (aN (Hu (jg qZ (aW bI (pv 0) ak) ak (bB _)) (Hs (jg (Lx (AB hr)) (cJ dA hr T.d4 (ae (aW bI (pv 0) ak) (ae (aW bI (pv 0) ak) aj))) (pv 0) (bB _)))))))),?_⟩
  refine aM (σ:=[some (.ref p),none]) rfl ?_;obtain ⟨hb,hg,_,hs⟩:=hn;exists .inr ⟨p,_,_,rfl,hp,rfl,?_⟩;exists ⟨_,_,rfl,.inr hp,?_⟩;walk_at "w"
  try refine L4 ?_
  exists ⟨⟨_,hp⟩,?_⟩;refine N9 (K:=K) (a:=p) (xs:=[.int n.1,.int n.2]) (λi σ' H'=>H'=H/\∃x,σ'=[some (.ref p),x]) ⟨rfl,none,rfl⟩ (λi σ' H' _ ⟨e,_⟩=>by subst e;exact hp) ?_ ?_
  ·rintro i x σ' H' hx ⟨rfl,y,rfl⟩
   obtain ⟨z,rfl⟩:∃z,x=V.int z:=by
    have hm:x∈[V.int n.1,V.int n.2]:=au hx;simp only[aG,br,or_false] at hm;rcases hm with e | e
    ·exact ⟨_,e⟩
    ·exact ⟨_,e⟩
   exists .inl ⟨_,_,.int z,rfl,?_⟩;exists .inl ⟨_,_,.int z,rfl,?_⟩;exists ⟨rfl,_,rfl⟩
  ·rintro σ' H' ⟨rfl,x,rfl⟩;walk_at "w";rw[decide_eq_true hb];exists ⟨n.1,n.2,rfl,hb,hs.mono (by decide),λr H' s1 h'=>?_⟩;obtain ⟨e1,e2⟩:=Qk hb hg;exists ⟨_,_,RX,(lo n.1 n.2,hi n.1 n.2),n,by decide,⟨r,rfl,nY.of h'⟩,⟨p,rfl,s1.sqt hp⟩,?_⟩;rw[e1,e2,decide_eq_true rfl];exact k _ s1
theorem zO:aP ["_law_thing","_law_many"] ["_law_thing","_law_many"] (aH mP):=by walk_at "d"
theorem rj (T:Txt K mg Z) (ptree:P.given.tree=none):cC P w K mg base eY 3 Z.tP Z.tu ["_law_thing","_law_many"] (wI K):=by
 have xG:=uX (P:=P) (w:=w) (base:=base) T ptree;refine T.jq.F.ok zO (λvs H Q E h=>?_) (λcdv A outer s H vs Q E hr h=>?_)
 ·obtain ⟨p,ns,rfl,_⟩:=h;rfl
 ·obtain ⟨p,ns,rfl,hp,hl,hn,k⟩:=h
  refine ⟨_,(ar (cY (PW.pt (ky (jd (ia (uh rfl T.isinstance PyProof.Rows.boot_list T.list (pv 0)))) (jb (be sP (bF a7 (by rfl) T.len aR (ae (pv 0) aj)) (pv 1) (bB _))))) (ay (aN md)) bQ)
   (ay (aN (bF (AW rfl) (by rfl) T.all PyProof.Rows.boot_all (ae (cv ["_law_one"] [] [] (cu (pv 0)) (λ_=>(aK (i:=0) (show ND9 ["_law_one"] by decide +kernel))) (λ_=>cB) (λ_=>(cJ xG hr T.jr (ae (pv 0) aj)))) aj))))),?_⟩
  refine aM (σ:=[some (.ref p),some (.int ns.length)]) rfl ?_;obtain ⟨xs,gx,qx⟩:=id hp;have lx:=qx.length;exists ⟨_,_,.lst gx,rfl,?_⟩;exists ⟨_,_,rfl,.inl (bE.of gx),?_⟩;walk_at "w";rw[show ((xs.length:Nat):Int)=(ns.length:Nat) by rw[lx],decide_eq_true rfl];exists ⟨⟨_,bE.of gx⟩,?_⟩;refine d6 (K:=K) (xs:=xs) (λi ys H'=>aF H H'/\ys=List.replicate i (.bl true)) (bc (bC (by lia))) ⟨aF.refl _,rfl⟩ (λi ys H' _ ⟨s,_⟩=>bE.of (s _ _ gx)) ?_ ?_
  ·rintro i x ys H' hx hlen ⟨s,rfl⟩;obtain ⟨n,en,z⟩:=bY qx hx;exists ⟨x,n,rfl,s.num z,hn n (au en),λH2 s2=>⟨s.trans s2,by rw[Dk]⟩⟩
  ·rintro ys H' hy ⟨s,rfl⟩ l hl';exists ⟨l,List.replicate xs.length true,rfl,bE.of (by rw[aE];simp),?_⟩;have e4:(List.replicate xs.length true).all id=true:=by simp
   rw[e4];exact k _ (s.trans (aF.new hl'))
theorem yG:aP ["_law_thing","_law_many","_law_wide"] ["_law_thing","_law_many","_law_wide"] (aH k9):=by walk_at "d"
theorem yI (T:Txt K mg Z) (ptree:P.given.tree=none):cC P w K mg base eY 4 Z.rQ Z.rM ["_law_thing","_law_many","_law_wide"] (zH K):=by
 have ni:=rj (P:=P) (w:=w) (base:=base) T ptree;refine T.ko.F.ok yG (λvs H Q E h=>?_) (λcdv A outer s H vs Q E hr h=>?_)
 ·obtain ⟨p,rows,m,rfl,_⟩:=h;rfl
 ·obtain ⟨p,rows,m,rfl,hp,hl,hm,hn,k⟩:=h
  refine ⟨_,(ar (cY (PW.pt (ky (jd (ia (uh rfl T.isinstance PyProof.Rows.boot_list T.list (pv 0)))) (jb (be sP (bF a7 (by rfl) T.len aR (ae (pv 0) aj)) (pv 1) (bB _))))) (ay (aN md)) bQ)
   (ay (aN (bF (AW rfl) (by rfl) T.all PyProof.Rows.boot_all (ae (cv ["_law_row_here"] ["_law_wide"] [2] (cu (pv 0)) (λ_=>(aK (i:=0) (show ND9 ["_law_row_here","_law_wide"] by decide +kernel))) (λ_=>cB) (λ_=>(cJ ni hr T.jq (ae (pv 0) (ae (pv 1) aj))))) aj))))),?_⟩
  refine aM (σ:=[some (.ref p),some (.int rows.length),some (.int m)]) rfl ?_;obtain ⟨xs,gx,qx⟩:=id hp;have lx:=qx.length;exists ⟨_,_,.lst gx,rfl,?_⟩;exists ⟨_,_,rfl,.inl (bE.of gx),?_⟩;walk_at "w";rw[show ((xs.length:Nat):Int)=(rows.length:Nat) by rw[lx],decide_eq_true rfl];exists ⟨⟨_,bE.of gx⟩,?_⟩;refine d6 (K:=K) (xs:=xs) (λi ys H'=>aF H H'/\ys=List.replicate i (.bl true)) (bc (bC (by lia))) ⟨aF.refl _,rfl⟩ (λi ys H' _ ⟨s,_⟩=>bE.of (s _ _ gx)) ?_ ?_
  ·rintro i x ys H' hx hlen ⟨s,rfl⟩;obtain ⟨ns,en,q,rfl,z⟩:=bY qx hx;obtain ⟨e1,e2⟩:=hn ns (au en);exists ⟨q,ns,by rw[e1],z.same s,by lia,e2,λH2 s2=>⟨s.trans s2,by rw[Dk]⟩⟩
  ·rintro ys H' hy ⟨s,rfl⟩ l hl';exists ⟨l,List.replicate xs.length true,rfl,bE.of (by rw[aE];simp),?_⟩;have e4:(List.replicate xs.length true).all id=true:=by simp
   rw[e4];exact k _ (s.trans (aF.new hl'))
theorem DF:aP ["_law_one","_law_other"] ["_law_one","_law_other"] (aH qL):=by walk_at "d"
theorem D3 (T:Txt K mg Z) (ptree:P.given.tree=none):cC P w K mg base eY 2 Z.yr Z.xW ["_law_one","_law_other"] (zC K):=by
 have dA:=iL (P:=P) (w:=w) (base:=base) T ptree;refine T.oX.F.ok DF (λvs H Q E h=>?_) (λcdv A outer s H vs Q E hr h=>?_)
 ·obtain ⟨p,q,a,b,c,d,rfl,hp,hq,hb,hd,hc,sa,sb,sc,sd,k⟩:=Fp h;rfl
 ·obtain ⟨p,q,a,b,c,d,rfl,hp,hq,hb,hd,hc,sa,sb,sc,sd,k⟩:=Fp h
  refine ⟨_,(ar (cY (be pM (aW bI (pv 1) ak) ak (bB _)) (ay (aN (cJ dA hr T.d4 (ae (bM lB ak (bM c5 (aW bI (pv 0) ak) (aW bI (pv 1) ak))) (ae (bM lB ak (bM c5 (aW bI (pv 0) ak) (aW bI (pv 1) ak))) aj))))) bQ)
   (ay (aN (cJ dA hr T.d4 (ae (bM c5 (aW bI (pv 0) ak) (aW bI (pv 1) ak)) (ae (bM c5 (aW bI (pv 0) ak) (aW bI (pv 1) ak)) aj)))))),?_⟩
  refine aM (σ:=[some (.ref p),some (.ref q)]) rfl ?_;have sbc:Sz 449950 (b*c):=(sb.mul sc).mono (by decide);exists gR (λh=>?_) (λh=>?_)
  ·have h0:c < 0:=of_decide_eq_true h;have hbc:b*c < 0:=uD hb h0;exists fj (show fh _ _ from .inr ⟨_,_,sa,sd,by decide⟩) ?_;exists fj (show fh _ _ from .inr ⟨_,_,sb,sc,by decide⟩) ?_;exists ⟨_,_,rfl,by lia,by rw[Int.zero_sub];exact sbc.neg,λr H' s' h'=>?_⟩;exact k r H' s' (by rw[if_pos h0,if_pos h0];exact h')
  ·have h0:¬c < 0:=λz=>h (decide_eq_true z)
   have hbc:0 < b*c:=gD hb (by lia);exists fj (show fh _ _ from .inr ⟨_,_,sa,sd,by decide⟩) ?_;exists fj (show fh _ _ from .inr ⟨_,_,sb,sc,by decide⟩) ?_;exists ⟨_,_,rfl,hbc,sbc,λr H' s' h'=>?_⟩;exact k r H' s' (by rw[if_neg h0,if_neg h0];exact h')
theorem DI:aP ["_law_one","_law_other"] ["_law_one","_law_other"] (aH qS):=by walk_at "d"
theorem D9 (T:Txt K mg Z) (ptree:P.given.tree=none):cC P w K mg base eY 2 Z.yz Z.ye ["_law_one","_law_other"] (mF K (λx y=>x - y)):=by
 have dA:=iL (P:=P) (w:=w) (base:=base) T ptree;refine T.o7.F.ok DI (λvs H Q E h=>?_) (λcdv A outer s H vs Q E hr h=>?_)
 ·obtain ⟨p,q,a,b,c,d,rfl,hp,hq,hb,hd,sa,sb,sc,sd,k⟩:=yT h;rfl
 ·obtain ⟨p,q,a,b,c,d,rfl,hp,hq,hb,hd,sa,sb,sc,sd,k⟩:=yT h;refine ⟨_,(ay (aN (cJ dA hr T.d4 (ae (bM lB (bM c5 (aW bI (pv 0) ak) (aW bI (pv 1) ak)) (bM c5 (aW bI (pv 1) ak) (aW bI (pv 0) ak))) (ae (bM c5 (aW bI (pv 0) ak) (aW bI (pv 1) ak)) aj))))),?_⟩;refine aM (σ:=[some (.ref p),some (.ref q)]) rfl ?_;have hbd:0 < b*d:=gD hb hd;have sbd:Sz 449950 (b*d):=(sb.mul sd).mono (by decide);exists fj (show fh _ _ from .inr ⟨_,_,sa,sd,by decide⟩) ?_;exists fj (show fh _ _ from .inr ⟨_,_,sc,sb,by decide⟩) ?_;exists fj (show fh _ _ from .inr ⟨_,_,sb,sd,by decide⟩) ?_;walk_at "w";exists ⟨_,_,rfl,hbd,sbd,k⟩
theorem Br:aP ["_law_one","_law_other"] ["_law_one","_law_other"] (aH oH):=by walk_at "d"
theorem BB (T:Txt K mg Z) (ptree:P.given.tree=none):cC P w K mg base eY 3 Z.vX Z.vG ["_law_one","_law_other"] (wG K):=by
 have Gs:=D9 (P:=P) (w:=w) (base:=base) T ptree;refine T.jY.F.ok Br (λvs H Q E h=>?_) (λcdv A outer s H vs Q E hr h=>?_)
 ·obtain ⟨p,q,xs,ys,rfl,_⟩:=h;rfl
 ·obtain ⟨p,q,xs,ys,rfl,hp,hq,hl,hz,h1,h2,kk⟩:=h;refine ⟨_,(ay (aN (cv ["_law_k"] ["_law_one","_law_other"] [0,1] (cy rfl T.range (ae (bF a7 (by rfl) T.len aR (ae (pv 0) aj)) aj)) (λ_=>(aK (i:=0) (show ND9 ["_law_k","_law_one","_law_other"] by decide +kernel))) (λ_=>cB) (λ_=>(cJ Gs hr T.o7 (ae (aW (fE K (by rfl)) (pv 1) (pv 0)) (ae (aW (fE K (by rfl)) (pv 2) (pv 0)) aj))))))),?_⟩;refine aM (σ:=[some (.ref p),some (.ref q)]) rfl ?_;obtain ⟨us,gu,qu⟩:=id hp;obtain ⟨ws,gw,qw⟩:=id hq;have lu:=qu.length;exists ⟨_,_,rfl,.inl (bE.of gu),?_⟩;exists ⟨by lia,by lia,?_⟩;refine fR (n:=us.length) (cA K) (λi=>xs.getD i 0 - ys.getD i 0) (by lia) (λa b=>a.same b) ?_ ?_
  ·rintro i H' NY NN hi s k1;have ix:i < xs.length:=by lia
   have iy:i < ys.length:=by lia
   obtain ⟨vx,ex,nx⟩:=BF (Paired.imp' (λ_ _ z=>z.same s) qu) ix;obtain ⟨vy,ey,ny⟩:=BF (Paired.imp' (λ_ _ z=>z.same s) qw) iy;exists b9 (bE.of (s _ _ gu)) ex ?_;exists b9 (bE.of (s _ _ gw)) ey ?_;exists ⟨_,_,_,_,rfl,nx,ny,h1 _ (getD_mem ix),h2 _ (getD_mem iy),λr3 H3 s3 n3=>k1 _ _ s3 n3⟩
  ·rintro ys' H' l hl' s g pr nx;exact kk l H' hl' s ⟨ys',g,by rw[Gy (by lia)];rw[<- lu] at pr;exact pr⟩
theorem dq:aP ["_law_rows","_law_wide","_law_found","_law_left","_law_at","_law_first","_law_lead"] ["_law_rows","_law_wide"] (aH k6):=by walk_at "d"
theorem yH (T:Txt K mg Z) (ptree:P.given.tree=none):cC P w K mg base eY 4 Z.rP Z.rL ["_law_rows","_law_wide"] (zF K):=by
 have jS:=uo (P:=P) (w:=w) (base:=base) T ptree;have Gf:=D3 (P:=P) (w:=w) (base:=base) T ptree;have v8:=BB (P:=P) (w:=w) (base:=base) T ptree;refine T.iq.F.ok dq (λvs H Q E h=>?_) (λcdv A outer s H vs Q E hr h=>?_)
 ·obtain ⟨p,n,S,H0,rows,rfl,_⟩:=h;rfl
 ·obtain ⟨p,n,S,H0,rows,rfl,G,r100,n100,hw,⟨e39,J,j0,jskip,jlean,jlw,jsz⟩,k⟩:=h
  refine ⟨_,(ar (a9 (i:=2) dq.nd rfl (Or.inl rfl) (du aj))
   (ar (je 3 ["_law_row_here"] [] [] dq.nd rfl rfl (cu (pv 0)) (λ_=>(aK (i:=0) (show ND9 ["_law_row_here"] by decide +kernel))) (λ_=>cB) (λ_=>(eL (ij K (by rfl)) (by rfl) T.list PyProof.Rows.boot_list (ae (pv 0) aj))))
   (ar (df PassesOwn.never rfl (cy rfl T.range (ae (pv 1) aj)) (aK (i:=4) dq.nd rfl (Or.inr rfl) (Or.inl rfl))
    (ar (je 5 ["_law_row_here"] ["_law_at"] [4] dq.nd rfl rfl (cu (pv 3)) (λ_=>(aK (i:=0) (show ND9 ["_law_row_here","_law_at"] by decide +kernel))) (λ_=>DS (be (DU K (by rfl) (AB hr)) (aW (fE K (by rfl)) (pv 0) (pv 1)) (c8 (ae ak (ae ak aj))) (bB _))) (λ_=>(pv 0)))
   (ay (cY (be qZ (bF a7 (by rfl) T.len aR (ae (pv 5) aj)) ak (bB _)) (ar (a9 (i:=6) dq.nd rfl (Or.inr rfl) (cJ jS hr T.iH (ae (cJ Gf hr T.oX (ae (c8 (ae ak (ae ak aj))) (ae (aW bL (aW bL (pv 5) ak) (pv 4)) aj))) (ae (aW bL (pv 5) ak) aj))))
   (ar (eO (ma bN PySem.F.slot_list_remove PySem.F.type_list_remove (J7 (AB hr)) (pv 3) (ae (aW bL (pv 5) ak) aj)))
   (ar (je 3 ["_law_row_here"] ["_law_at","_law_lead"] [4,6] dq.nd rfl rfl (cu (pv 3)) (λ_=>(aK (i:=0) (show ND9 ["_law_row_here","_law_at","_law_lead"] by decide +kernel))) (λ_=>cB) (λ_=>(cJ v8 hr T.jY (ae (pv 0) (ae (cJ jS hr T.iH (ae (aW (fE K (by rfl)) (pv 0) (pv 1)) (ae (pv 2) aj))) aj)))))
   (ay (a9 (i:=2) dq.nd rfl (Or.inl rfl) (bM rd (cv ["_law_row_here"] ["_law_at","_law_lead"] [4,6] (cu (pv 2)) (λ_=>(aK (i:=0) (show ND9 ["_law_row_here","_law_at","_law_lead"] by decide +kernel))) (λ_=>cB) (λ_=>(cJ v8 hr T.jY (ae (pv 0) (ae (cJ jS hr T.iH (ae (aW (fE K (by rfl)) (pv 0) (pv 1)) (ae (pv 2) aj))) aj))))) (du (ae (pv 6) aj)))))))) bQ))))
   (ay (aN (pv 2)))))),?_⟩
  refine aM (σ:=[some (.ref p),some (.int n),none,none,none,none,none]) rfl ?_;obtain ⟨xs,gx,qx,_⟩:=id G;have szT:∀{D:Nat} {x:Rat},0 < D->D<=2^S->Tp D (2^S) x->kK x:=λh0 h1 t=>kT t h0 (ai h1 (av (by decide) (by lia))) (av (by decide) (by lia))
  have szP:∀{D D':Nat} {x y:Rat},0 < D->0 < D'->D<=2^S->D'<=2^S->Tp D (2^S) x->Tp D' (2^S) y->kK (x*y):=λh0 h0' h1 h1' t t'=>kT (t.mul t') (b7 h0 h0') (ai (aJ h1 h1') (by rw[<- aY];exact av (by decide) (by lia))) (by rw[<- aY];exact av (by decide) (by lia))
  exists dd λfd Hz sz nf gf=>?_
  exists ⟨⟨_,bE.of (sz _ _ gx)⟩,?_⟩;refine dw (K:=K) (F:=cO K H0) (cO K Hz) id (sz _ _ gx) (Paired.imp' (λ_ _ z=>cO.same z sz) qx) (by lia) (λa b=>a.same b) (λa b=>a.same b) ?_ ?_
  ·rintro i ns x H' NY NN en s ⟨u,rfl,_,zs,gz,qz⟩ k1;exists ⟨u,zs,rfl,.inl (bE.of gz),λl1 hl1=>?_⟩;exact k1 _ _ (aF.new hl1) ⟨l1,rfl,s.none hl1,zs,aE,Paired.imp' (λ_ _ z=>z.same (aF.new hl1)) qz⟩
  rintro ys1 H1 L hL s1 g1 pr1 nx1;rw[pY] at pr1 nx1;have GL1:bA K Hz H1 L rows:=⟨ys1,g1,pr1,ka nx1⟩;have GL1:=GL1.weak sz;have fdL:fd≠L:=λz=>by rw[<- z,gf] at hL;cases hL
  clear g1 pr1 nx1;exists ⟨by lia,by lia,?_⟩;refine eF (n:=n) (λP σ' H'=>aF H H'/\∃lp fp ls fs ps vs y1 y2 y3,σ'=[some (.ref p),some (.int n),some (.ref fp),some (.ref lp),y1,y2,y3]/\H lp=none/\H fp=none/\fp≠lp/\bA K H H' lp ls/\H' fp=some (.lst vs)/\Paired (pC K (λq=>(H q=none/\q≠fp)/\q≠lp) H') fs vs/\fs.length=ps.length/\J P (fs++ls) ps) ⟨sz.trans s1,L,fd,rows,[],[],[],_,_,_,rfl,sz.none hL,nf,fdL,GL1,s1 _ _ gf,.nil,rfl,j0⟩ ?_ ?_
  ·rintro P σ' H' hP ⟨s',lp,fp,ls,fs,ps,vs,y1,y2,y3,rfl,nlp,nfp,fl,GL,gv,pv,hf,JI⟩;have I:=jlw _ _ _ JI;have len:=I.len;rw[ao] at len;have wide:=I.wide;obtain ⟨us,gu,qu,nu⟩:=id GL;have lu:=qu.length;have lv:=pv.length;have ez:∀i,(ls.map λr=>r.getD P 0).getD i 0=bV ls i P:=λi=>Qi
   exists ⟨⟨_,bE.of gu⟩,?_⟩;refine d6 (K:=K) (a:=lp) (xs:=us) (λi ys H''=>aF H' H''/\ys=(uC (ls.map λr=>r.getD P 0) i).map λj=>us.getD j .non) (bc (bC (by lia))) ⟨aF.refl _,rfl⟩ (λi ys H'' _ ⟨s,_⟩=>bE.of (s _ _ gu)) ?_ ?_
   ·rintro i v ys Hb hv hlen ⟨sb,rfl⟩;obtain ⟨xt,et,qt,rfl,nqt,Rt⟩:=bY (Paired.imp' (λ_ _ z=>cO.same z sb) qu) hv;have mt:=au et;have wt:=wide xt (ax.mpr (.inr mt));obtain ⟨zs,gz,qz⟩:=id Rt;obtain ⟨vx,ex,nx⟩:=BF qz (j:=P) (by lia);have fx:(ls.map λr=>r.getD P 0).getD i 0=xt.getD P 0:=by rw[ez];unfold bV;rw[aa (l:=ls),et];rfl
    exists b9 (bE.of gz) ex ?_;exists cD λt0 Hc sc gc=>?_
    exists ⟨_,_,CA,xt.getD P 0,0,by decide,nx.same sc,cA.mk (q:=0) gc rfl,?_⟩;by_cases e:xt.getD P 0=0
    ·rw[decide_eq_true e];exists ⟨sb.trans sc,?_⟩;rw[mf,fx,if_neg (by simpa using e)]
    ·rw[decide_eq_false e];exists ⟨sb.trans sc,?_⟩;rw[mf,fx,if_pos e,cE,List.map_singleton,aa,hv];rfl
   rw[<- lu];rintro ys Hb hy ⟨sb,rfl⟩ hd hhd;have nzm:∀c,c∈uC (ls.map λr=>r.getD P 0) ls.length↔c < ls.length/\bV ls c P≠0:=λc=>by rw[HI,ez]
   have nzf:∀t r,uC (ls.map λr=>r.getD P 0) ls.length=t :: r->∀i,i < t->bV ls i P=0:=λt r e i hi=>by rw[<- ez];exact LH e i hi
   generalize uC (ls.map λr=>r.getD P 0) ls.length=hs at hy hhd nzm nzf;have sn:aF Hb (upd Hb hd (.lst (hs.map λj=>us.getD j .non))):=aF.new hhd;have gh:(upd Hb hd (.lst (hs.map λj=>us.getD j .non))) hd=some (.lst (hs.map λj=>us.getD j .non)):=aE;generalize upd Hb hd (.lst (hs.map λj=>us.getD j .non))=Hd at sn gh ⊢;have sbd:=sb.trans sn;exists ⟨_,_,rfl,.inl (bE.of gh),?_⟩;rw[ah];walk_at "w";cases hs with
   | nil =>
    refine L4 ?_;exists ⟨s'.trans sbd,lp,fp,ls,fs,ps,vs,_,_,_,rfl,nlp,nfp,fl,GL.same sbd,sbd _ _ gv,Paired.imp' (λ_ _ z=>pC.same z sbd) pv,hf,jskip _ _ _ JI λi h1 h2=>?_⟩;rw[ao] at h2;obtain ⟨j,rfl⟩:∃j,i=fs.length+j:=⟨i - fs.length,by lia⟩;rw[nR];by_cases z:bV ls j P=0
    ·exact z
    ·exact absurd ((nzm j).mpr ⟨by lia,z⟩) (by simp)
   | cons t hs' =>
    rw[decide_eq_true (show (0:Int) < ((t :: hs').length:Nat) by rw[bg];lia)];obtain ⟨tl,hne⟩:=(nzm t).mp (.head _);have tfst:=nzf t hs' rfl;have gud:=sbd _ _ gu;obtain ⟨xt,vt,et,evt,mt,qt,rfl,nqt,Rt⟩:=gL (Paired.imp' (λ_ _ z=>cO.same z sbd) qu) tl;have ext:ls.getD t []=xt:=by rw[aa,et];rfl
    have hne':xt.getD P 0≠0:=by unfold bV at hne;rw[ext] at hne;exact hne
    have wt:=wide xt (ax.mpr (.inr mt));have qtl:qt≠lp:=λz=>nu (by rw[<- z];exact au evt)
    rw[fI,show us.getD t .non=.ref qt by rw[aa,evt];rfl] at gh;generalize hs'.map (λj=>us.getD j .non)=hv at gh;have I2:=jlean _ _ _ _ _ JI hf tl hP (by rw[ext];exact hne') tfst;rw[ext] at I2
    have rowD:∀r∈fs++ls,∃D:Nat,0 < D/\D<=2^S/\∀c,Tp D (2^S) (r.getD c 0):=λr hr=>by
     obtain ⟨i,hi,rfl⟩:=bP hr;obtain ⟨D,D0,D1,D2⟩:=jsz _ _ _ JI (by lia) i (by rw[ao] at hi;lia);refine ⟨D,D0,D1,λc=>?_⟩;have:=D2 c;unfold bV at this;rw[aa (l:=fs++ls),ag hi] at this;exact this
    have szr:∀r∈fs++ls,∀y∈r,kK y:=λr hr y hy=>by
     obtain ⟨D,D0,D1,D2⟩:=rowD r hr;obtain ⟨c,hc,rfl⟩:=bP hy;have:=D2 c;rw[aa,ag hc] at this;exact szT D0 D1 this
    have mxt:xt∈fs++ls:=ax.mpr (.inr mt);have lu2:(gH P xt).length=n:=by unfold gH;rw[ah];exact wt
    obtain ⟨Du,Du0,Du1,Du2⟩:∃D:Nat,0 < D/\D<=2^S/\∀y∈gH P xt,Tp D (2^S) y:=by
     obtain ⟨D,D0,D1,D2⟩:=jsz _ _ _ I2 (by lia) ps.length (by lia);refine ⟨D,D0,D1,λy hy=>?_⟩;obtain ⟨c,hc,rfl⟩:=bP hy;have:=D2 c;rw[ck,show ps.length=(fs.map (m7 P (gH P xt))).length+0 by rw[ah];lia,nR] at this
     have e:bV ([gH P xt]++(ls.eraseIdx t).map (m7 P (gH P xt))) 0 c=(gH P xt)[c]:=by
      show (gH P xt).getD c 0=_
      rw[aa,ag hc];rfl
     rw[e] at this;exact this
    have szu:∀y∈gH P xt,kK y:=λy hy=>szT Du0 Du1 (Du2 y hy)
    have szp:∀r∈fs++ls,∀y∈gH P xt,kK (r.getD P 0*y):=λr hr y hy=>by
     obtain ⟨D,D0,D1,D2⟩:=rowD r hr;exact szP D0 Du0 D1 Du1 (D2 P) (Du2 y hy)
    obtain ⟨zs,gz,qz⟩:=id Rt;obtain ⟨vx,ex,nx⟩:=BF qz (j:=P) (by lia);have szx:kK (xt.getD P 0):=szr xt mxt _ (getD_in (by lia));exists cD λtq Hf sf gf=>?_
    have ghf:=sf _ _ gh;exists b9 (bE.of ghf) (dX (j:=0) rfl) ?_;exists b9 (bE.of (sf _ _ gz)) ex ?_;exists ⟨_,_,1,xt.getD P 0,rfl,cA.mk (q:=1) gf rfl,nx.same sf,M8,szx,hne',λqr Hg sg nq=>?_⟩;have sfg:=sf.trans sg;have ghg:=sg _ _ ghf;exists b9 (bE.of ghg) (dX (j:=0) rfl) ?_;exists ⟨_,qt,1 / xt.getD P 0,xt,rfl,nq,M9 szx hne',Rt.same sfg,by lia,szr xt mxt,λur Hh nur sh Rur=>?_⟩;have Rur:cL K Hh ur (gH P xt):=Rur;have seh:=sfg.trans sh;have ghh:=sh _ _ ghg;have guh:=seh _ _ gud;have s0h:=(s'.trans sbd).trans seh;have nur0:H ur=none:=((s'.trans sbd).trans sfg).none nur;have url0:ur≠lp:=λz=>by have:=sfg _ _ gud;rw[<- z,nur] at this;cases this
    exists ⟨.inl ⟨rfl,_,bE.of guh⟩,?_⟩;exists b9 (bE.of ghh) (dX (j:=0) rfl) ?_;exists ⟨lp,us,.ref qt,_,_,LZ,ls,xt,t,rfl,rfl,guh,by decide,Paired.imp' (λ_ _ ⟨q,e1,_,e3⟩=>by rw[e1];exact (cL.kind (cL.same (cL.same e3 sbd) seh))) qu,(Rt.same seh).kind,et,λi hi z=>?_,?_⟩
    ·have:=tfst i hi;unfold bV at this;rw[aa (l:=ls),z] at this;exact hne' this
    have s0e:aF H (upd Hh lp (.lst (us.eraseIdx t))):=s0h.after nlp;obtain ⟨us',gu',pu'⟩:=((GL.same sbd).same seh).toE;have eus:us'=us:=by rw[guh] at gu';cases gu';rfl
    subst eus;have ple:Paired (pC K (λq=>H q=none/\q≠lp) (upd Hh lp (.lst (us'.eraseIdx t)))) (ls.eraseIdx t) (us'.eraseIdx t):=uS (Paired.imp' (λ_ _ z=>pC.updL z guh (λq h=>h.2)) pu') t;have gle:(upd Hh lp (.lst (us'.eraseIdx t))) lp=some (.lst (us'.eraseIdx t)):=aE;have gve:(upd Hh lp (.lst (us'.eraseIdx t))) fp=some (.lst vs):=by rw[bf fl];exact seh _ _ (sbd _ _ gv)
    have pve:Paired (pC K (λq=>(H q=none/\q≠fp)/\q≠lp) (upd Hh lp (.lst (us'.eraseIdx t)))) fs vs:=Paired.imp' (λ_ _ z=>pC.updL (pC.same (pC.same z sbd) seh) guh (λq h=>h.2)) pv;have Rur:cL K (upd Hh lp (.lst (us'.eraseIdx t))) ur (gH P xt):=Rur.updL guh url0;generalize upd Hh lp (.lst (us'.eraseIdx t))=He at s0e ple gle gve pve Rur ⊢;clear pu' gu' gud guh gh ghf ghg ghh;exists ⟨⟨_,bE.of gle⟩,?_⟩;refine dw (K:=K) (F:=pC K (λq=>H q=none/\q≠lp)) (cO K H) (m7 P (gH P xt)) gle ple (by rw[O9 tl];lia) (λa b=>a.same b) (λa b=>a.same b) ?_ ?_
    ·rintro i ns x Hi NY NN en si ⟨q,rfl,nq0,Rq⟩ k1;have mn:ns∈fs++ls:=ax.mpr (.inr (QV (au en)));have wn:=wide ns mn;obtain ⟨zs2,gz2,qz2⟩:=id Rq;obtain ⟨vx2,ex2,nx2⟩:=BF qz2 (j:=P) (by lia);exists b9 (bE.of gz2) ex2 ?_;exists ⟨_,ur,ns.getD P 0,gH P xt,rfl,nx2,szr ns mn _ (getD_in (by lia)),Rur.same si,by lia,szu,λb1 Hj nb1 sj Rb=>?_⟩;exists ⟨q,b1,ns,_,rfl,Rq.same sj,Rb,by rw[ah];lia,by lia,szr ns mn,λy hy=>?_,λr2 Hk nr2 sk Rk=>?_⟩
     ·obtain ⟨y',hy',rfl⟩:=az.mp hy;exact szp ns mn y' hy'
     ·exact k1 _ _ (sj.trans sk) ⟨r2,rfl,s0e.none (si.none (sj.none nr2)),Rk⟩
    rintro yl Hk lp2 hlp2 sk gk prk nxk;have s0k:=s0e.trans sk;have Gk:bA K H Hk lp2 ((ls.eraseIdx t).map (m7 P (gH P xt))):=⟨yl,gk,prk,ka nxk⟩;have Ruk:=Rur.same sk;exists ⟨⟨_,bE.of (sk _ _ gve)⟩,?_⟩;refine dw (K:=K) (F:=pC K (λq=>(H q=none/\q≠fp)/\q≠lp)) (cO K Hk) (m7 P (gH P xt)) (sk _ _ gve) (Paired.imp' (λ_ _ z=>pC.same z sk) pve) (by lia) (λa b=>a.same b) (λa b=>a.same b) ?_ ?_
    ·rintro i ns x Hi NY NN en si ⟨q,rfl,nq0,Rq⟩ k1;have mn:ns∈fs++ls:=ax.mpr (.inl (au en));have wn:=wide ns mn;obtain ⟨zs2,gz2,qz2⟩:=id Rq;obtain ⟨vx2,ex2,nx2⟩:=BF qz2 (j:=P) (by lia);exists b9 (bE.of gz2) ex2 ?_;exists ⟨_,ur,ns.getD P 0,gH P xt,rfl,nx2,szr ns mn _ (getD_in (by lia)),Ruk.same si,by lia,szu,λb1 Hj nb1 sj Rb=>?_⟩;exists ⟨q,b1,ns,_,rfl,Rq.same sj,Rb,by rw[ah];lia,by lia,szr ns mn,λy hy=>?_,λr2 Hl nr2 sl Rl=>?_⟩
     ·obtain ⟨y',hy',rfl⟩:=az.mp hy;exact szp ns mn y' hy'
     ·exact k1 _ _ (sj.trans sl) ⟨r2,rfl,si.none (sj.none nr2),Rl⟩
    rintro yf Hl f1 hf1 sl gl prl nxl;have lyf:=prl.length;rw[ah] at lyf;exists dd λsg1 Hm sm nm gm=>?_
    exists xa (sm _ _ gl) gm (bc (bC (by show yf.length+1<=1000;lia))) λfp2 Hn sn2 nfn gn=>?_
    have slm:=sm.trans sn2;have s0n:=(s0k.trans sl).trans slm;have nlp2:H lp2=none:=s0e.none hlp2;have gkm:=sm _ _ (sl _ _ gk);have fl2:fp2≠lp2:=λz=>by rw[z,gkm] at nfn;cases nfn
    have urm:=(Ruk.same sl).same sm;have urf:ur≠fp2:=λz=>by obtain ⟨_,gg,_⟩:=urm;rw[z,nfn] at gg;cases gg
    have url:ur≠lp2:=λz=>by obtain ⟨_,gg,_⟩:=Rur;rw[z,hlp2] at gg;cases gg
    refine ⟨s0n,lp2,fp2,_,_,ps++[P],_,_,_,_,rfl,nlp2,s0k.none (sl.none (sm.none nfn)),fl2,(Gk.same sl).same slm,gn,?_,by rw[ao,ao,ah];show fs.length+1=ps.length+1;lia,I2⟩;refine cp (Paired.imp' (λ_ _ ⟨q,e1,e2,e3⟩=>⟨q,e1,⟨⟨s0k.none e2,λz=>?_⟩,λz=>?_⟩,cL.same e3 slm⟩) prl) (.cons ⟨ur,rfl,⟨⟨nur0,urf⟩,url⟩,urm.same sn2⟩ .nil)
    ·obtain ⟨_,gg,_⟩:=cL.same e3 sm;rw[z,nfn] at gg;cases gg
    ·rw[z,gk] at e2;cases e2
  ·rintro σ' H' ⟨s',lp,fp,ls,fs,ps,vs,y1,y2,y3,rfl,nlp,nfp,fl,GL,gv,pv,hf,JI⟩;have I:=jlw _ _ _ JI;have D:=I.done hw;rw[List.take_left' hf] at D;obtain ⟨km,_⟩:=I.km;exists k fp fs ps H' nfp s' (bA.ofE gv pv (λq h=>h.1.1) (λq h=>h.1.2)) D km
theorem gJ:aP ["_law_told_here","_law_rows","_law_n","_law_row_here","_law_one"] ["_law_told_here","_law_rows","_law_n"] (aH hZ):=by walk_at "d"
theorem rg (T:Txt K mg Z) (ptree:P.given.tree=none):cC P w K mg base eY 5 Z.kB Z.kz ["_law_told_here","_law_rows","_law_n"] (zv K):=by
 have Bc:=yI (P:=P) (w:=w) (base:=base) T ptree;have rV:=yH (P:=P) (w:=w) (base:=base) T ptree;have lV:=rk (P:=P) (w:=w) (base:=base) T ptree;refine T.gP.F.ok gJ (λvs H Q E h=>?_) (λcdv A outer s H vs Q E hr h=>?_)
 ·obtain ⟨td,rw,tt,e,H0,H1,A2,lk,Hd,rfl,_⟩:=h;rfl
 ·obtain ⟨td,rw,tt,e,H0,H1,A2,lk,Hd,rfl,G1,G2,t12,o4,n8,wl,U,VV,k⟩:=h
  refine ⟨_,(ar (cY (PW.pt (ky (jd (ia (cJ Bc hr T.ko (ae (pv 0) (ae (bF a7 (by rfl) T.len aR (ae (pv 0) aj)) (ae (pv 2) aj)))))) (jb (be (xi (AB hr)) (pv 0) (cJ rV hr T.iq (ae (pv 0) (ae (pv 2) aj))) (bB _))))) (ay (aN md)) bQ)
   (ar (df PassesOwn.never rfl (cu (pv 0)) (aK (i:=3) gJ.nd)
    (ay (df PassesOwn.never rfl (cu (pv 1)) (aK (i:=4) gJ.nd)
    (ay (cY (be (xi (AB hr)) (cJ lV hr T.kb (ae (pv 3) (ae (pv 4) aj))) (c8 (ae ak (ae ak aj))) (bB _)) (ay (aN md)) bQ)))))
   (ay (aN (jg eS (bM fW (bF a7 (by rfl) T.len aR (ae (pv 0) aj)) (bF a7 (by rfl) T.len aR (ae (cJ rV hr T.iq (ae (pv 1) (ae (pv 2) aj))) aj))) (pv 2) (bB _)))))),?_⟩
  refine aM (σ:=[some (.ref td),some (.ref rw),some (.int A2.length),none,none]) rfl ?_;obtain ⟨us,gu,qu,_⟩:=id G1;obtain ⟨ws,gw,qw,_⟩:=id G2;have lu:=qu.length;have wk:=eE (mv:=A2) rfl wl tt;have lb:tt*lk.length<=12*4:=aJ t12 o4;have e1:=VV.un.e1;obtain ⟨wH,lH,szH,fH⟩:=U.szn e1;obtain ⟨S,LW⟩:=VV.lw;obtain ⟨kf,jf,hf,fk⟩:=VV.ft;exists ⟨_,_,rfl,.inl (bE.of gu),?_⟩;rw[<- lu];exists ⟨td,_,A2.length,by rw[ah],G1.gridK,by rw[ah];lia,by lia,λns hn=>?_,λH2 s2=>?_⟩
  ·obtain ⟨xs,hx,rfl⟩:=az.mp hn;refine ⟨by rw[ah];exact wH xs hx,λz hz=>?_⟩;obtain ⟨y,hy,rfl⟩:=az.mp hz;exact K2 (szH xs hx y hy)
  exists ⟨td,A2.length,e,H0,Hd,rfl,G1.same s2,by lia,by lia,wH,U.lwt e1,λr R' ps' H3 nr s3 G3 RR _=>?_⟩;have eR:=U.self RR;have s23:=s2.trans s3;exists ⟨_,_,AA,Hd,R',by decide,(G1.same s23).kind,G3.kind,?_⟩;rw[decide_eq_true eR.symm];exists ⟨⟨_,bE.of (s23 _ _ gu)⟩,?_⟩;refine eX (K:=K) (a:=td) (xs:=us) (λi σ' H'=>aF H H'/\∃y1 y2,σ'=[some (.ref td),some (.ref rw),some (.int A2.length),y1,y2]) ⟨s23,_,_,rfl⟩ (λi σ' H' _ ⟨s,_⟩=>bE.of (s _ _ gu)) ?_ ?_
  ·rintro i v σ' H4 hv ⟨s4,y1,y2,rfl⟩;obtain ⟨xs,ex,q,rfl,_,Rq⟩:=bY qu hv;have mx:=au ex;exists ⟨⟨_,bE.of (s4 _ _ gw)⟩,?_⟩;refine eX (K:=K) (a:=rw) (xs:=ws) (λj σ' H'=>aF H H'/\∃y2,σ'=[some (.ref td),some (.ref rw),some (.int A2.length),some (.ref q),y2]) ⟨s4,_,rfl⟩ (λi σ' H' _ ⟨s,_⟩=>bE.of (s _ _ gw)) ?_ ?_
   ·rintro j v2 σ' H5 hv2 ⟨s5,y2,rfl⟩;obtain ⟨ys,ey,q2,rfl,_,Rq2⟩:=bY qw hv2;have my:=au ey;exists ⟨q,q2,xs,ys,rfl,cL.same Rq s5,cL.same Rq2 s5,by rw[wH xs mx,wk ys my],by rw[wH xs mx];lia,⟨e,e,kf,jf,fH xs mx,fk ys my,by lia⟩,λd H6 s6 N6=>?_⟩;exists cD λt0 H7 s7 g7=>?_
    exists ⟨_,_,CA,cG xs ys,0,by decide,N6.same s7,cA.mk (q:=0) g7 rfl,?_⟩;rw[decide_eq_true (U.dot wk xs mx ys my)];exists ⟨(s5.trans s6).trans s7,_,rfl⟩
   ·rintro σ' H5 ⟨s5,y2,rfl⟩;exact ⟨s5,_,_,rfl⟩
  ·rintro σ' H4 ⟨s4,y1,y2,rfl⟩;exists ⟨_,_,rfl,.inl (bE.of (s4 _ _ gu)),?_⟩;rw[<- lu];exists ⟨rw,A2.length,S,H1,_,rfl,G2.same s4,by rw[vg];lia,by lia,wk,LW,λr2 R2 ps2 H5 n5 s5 G5 RR5 _=>?_⟩;obtain ⟨zs,gz,qz,_⟩:=id G5;have lz:=qz.length;exists ⟨_,_,rfl,.inl (bE.of gz),?_⟩;rw[<- lz];walk_at "w";have c:=U.cnt RR5;rw[decide_eq_true (show ((Hd.length:Int)+R2.length)=A2.length by lia)];exact k _ (s4.trans s5)
theorem c4:aP ["_law_parts_here","_law_steps_here","_law_move_here","_law_put","_law_look","_law_n","_law_rows","_law_found","_law_t"] ["_law_parts_here","_law_steps_here"] (aH jH):=by walk_at "d"
theorem uW (T:Txt K mg Z) (ptree:P.given.tree=none):cC P w K mg base eY 4 Z.nV Z.nK ["_law_parts_here","_law_steps_here"] (E5 K):=by
 have lV:=rk (P:=P) (w:=w) (base:=base) T ptree;refine T.jo.F.ok c4 (λvs H Q E h=>?_) (λcdv A outer s H vs Q E hr h=>?_)
 ·obtain ⟨r,tt,H0,mv,pt,lk,rfl,_⟩:=h;rfl
 ·obtain ⟨r,tt,H0,mv,pt,lk,rfl,hT,PQ,D,AD,k⟩:=h
  refine ⟨_,(ar (eI (pv 0) (mS rfl (bX (aK (i:=2) c4.nd rfl (Or.inr rfl) (Or.inl rfl)) (bX (aK (i:=3) c4.nd) (bX (aK (i:=4) c4.nd) eQ)))))
   (ar (a9 (i:=5) c4.nd rfl (Or.inr rfl) (bF a7 (by rfl) T.len aR (ae (pv 2) aj)))
   (ar (je 6 ["_law_row_here"] [] [] c4.nd rfl rfl (cu (pv 4)) (λ_=>(aK (i:=0) (show ND9 ["_law_row_here"] by decide +kernel))) (λ_=>cB) (λ_=>(eL (ij K (by rfl)) (by rfl) T.list PyProof.Rows.boot_list (ae (pv 0) aj))))
   (ar (a9 (i:=7) c4.nd rfl (Or.inl rfl) (du aj))
   (ar (df PassesOwn.never rfl (cy rfl T.range (ae (pv 1) aj)) (aK (i:=8) c4.nd)
    (ar (eO (ma bN QT QR Cv (pv 7) (ae (pv 6) aj)))
   (ay (je 6 ["_law_row_here"] ["_law_n","_law_move_here"] [5,2] c4.nd rfl rfl (cu (pv 6)) (λ_=>(aK (i:=0) (show ND9 ["_law_row_here","_law_n","_law_move_here"] by decide +kernel) rfl (Or.inr rfl) (Or.inl rfl))) (λ_=>cB) (λ_=>(cv ["_law_j"] ["_law_row_here","_law_n","_law_move_here"] [0,1,2] (cy rfl T.range (ae (pv 1) aj)) (λ_=>(aK (i:=0) (show ND9 ["_law_j","_law_row_here","_law_n","_law_move_here"] by decide +kernel) rfl (Or.inr rfl) (Or.inl rfl))) (λ_=>cB) (λ_=>(cJ lV hr T.kb (ae (pv 1) (ae (cv ["_law_i"] ["_law_move_here","_law_j"] [3,0] (cy rfl T.range (ae (pv 2) aj)) (λ_=>(aK (i:=0) (show ND9 ["_law_i","_law_move_here","_law_j"] by decide +kernel))) (λ_=>cB) (λ_=>(aW (fE K (by rfl)) (aW (fE K (by rfl)) (pv 1) (pv 0)) (pv 2)))) aj))))))))))
   (ay (aN (pv 7)))))))),?_⟩
  refine aM (σ:=[some (.ref r),some (.int tt),none,none,none,none,none,none,none]) rfl ?_;have d8:=D.n8;have o4:=D.o4;have et:(bJ mv mv.length).length=mv.length:=cW;obtain ⟨m,p,l,g,n1,n2,n3,Gm,Gp,Gl⟩:=id PQ;obtain ⟨um,gm,qm,_⟩:=id Gm;obtain ⟨ul,gl,ql,_⟩:=id Gl;have lum:=qm.length;have lul:=ql.length;exists ⟨_,_,rfl,.inl (bE.of gm),?_⟩;rw[<- lum];exists ⟨⟨_,bE.of gl⟩,?_⟩;refine dw (K:=K) (F:=cO K H0) (cO K H) id gl ql (by lia) (λa b=>a.same b) (λa b=>a.same b) ?_ ?_
  ·rintro i ns x H' NY NN en s ⟨u,rfl,_,zs,gz,qz⟩ k1;exists ⟨u,zs,rfl,.inl (bE.of gz),λl1 hl1=>?_⟩;exact k1 _ _ (aF.new hl1) ⟨l1,rfl,s.none hl1,zs,aE,Paired.imp' (λ_ _ z=>z.same (aF.new hl1)) qz⟩
  rintro ys1 H1 rq1 hr1 s1 g1 pr1 nx1;rw[pY] at pr1 nx1;have G1:bA K H H1 rq1 lk:=⟨ys1,g1,pr1,ka nx1⟩;exists dd λfd H2 s2 nf gf=>?_
  have s02:=s1.trans s2;have nf0:H fd=none:=s1.none nf;obtain ⟨Hz,eHz⟩:∃Hz,Hz=upd H fd (.lst []):=⟨_,rfl⟩;have zl:Hz fd≠none:=by rw[eHz,aE];exact λz=>nomatch z
  have zn:∀q,Hz q=none->H q=none/\q≠fd:=λq h=>by
   have ne:q≠fd:=λz=>zl (by rw[<- z];exact h)
   rw[eHz,bf ne] at h;exact ⟨h,ne⟩
  have nz:∀q,H q=none->q≠fd->Hz q=none:=λq h ne=>by rw[eHz,bf ne];exact h
  clear eHz;have rf1:rq1≠fd:=λz=>by rw[z,nf] at g1;cases g1
  have G2:bA K Hz H2 rq1 lk:=⟨ys1,s2 _ _ g1,Paired.imp' (λ_ _ ⟨q,a,b,c⟩=>⟨q,a,nz q b (λz=>by obtain ⟨_,gg,_⟩:=c;rw[z,nf] at gg;cases gg),cL.same c s2⟩) pr1,ka nx1⟩
  have powl:∀t,∀ns∈lk.map (fV (bJ mv mv.length) t),ns.length=mv.length:=λt ns hn=>by
   obtain ⟨y,hy,rfl⟩:=az.mp hn;have:=uQ (mv:=bJ mv mv.length) (st:=y) (by rw[et];exact D.lw y hy) t;rw[this,et]
  exists ⟨by lia,by lia,?_⟩;refine eF (n:=tt) (λt σ' H'=>aF H H'/\∃rq us y,σ'=[some (.ref r),some (.int tt),some (.ref m),some (.ref p),some (.ref l),some (.int mv.length),some (.ref rq),some (.ref fd),y]/\rq≠fd/\H' fd=some (.lst us)/\Paired (cO K Hz H') (kry (bJ mv mv.length) lk t) us/\bA K Hz H' rq (lk.map (fV (bJ mv mv.length) t))) ⟨s02,rq1,[],_,rfl,rf1,gf,.nil,by rw[show lk.map (fV (bJ mv mv.length) 0)=lk from pY lk];exact G2⟩ ?_ ?_
  ·rintro t σ' H' ht ⟨s',rq,us,y,rfl,rf,gu,pu,Gq⟩;obtain ⟨zs,gz,qz,_⟩:=id Gq;have lz:=qz.length;rw[ah] at lz;have lu:=pu.length;rw[vg] at lu;have lb:t*lk.length<=12*4:=aJ (by lia) o4;exists ⟨.inl ⟨rfl,_,bE.of gu⟩,?_⟩;exists ⟨fd,rq,us,zs,rfl,rfl,gu,gz,bc (bC (by lia)),?_⟩;have s2':aF H (upd H' fd (.lst (us++zs))):=s'.after nf0;have g2':(upd H' fd (.lst (us++zs))) fd=some (.lst (us++zs)):=aE
   have p2':Paired (cO K Hz (upd H' fd (.lst (us++zs)))) (kry (bJ mv mv.length) lk (t+1)) (us++zs):=by
    rw[<- vN,Jp,EM,vN];have:[lk.map (fV (bJ mv mv.length) t)].flatten=lk.map (fV (bJ mv mv.length) t):=by simp
    rw[this];exact cp (Paired.imp' (λ_ _ z=>cO.updL z gu zl) pu) (Paired.imp' (λ_ _ z=>cO.updL z gu zl) qz)
   have gz2:(upd H' fd (.lst (us++zs))) rq=some (.lst zs):=by rw[bf rf];exact gz
   have qz2:Paired (cO K Hz (upd H' fd (.lst (us++zs)))) (lk.map (fV (bJ mv mv.length) t)) zs:=Paired.imp' (λ_ _ z=>cO.updL z gu zl) qz;generalize upd H' fd (.lst (us++zs))=H3 at s2' g2' p2' gz2 qz2 ⊢;have gm3:=s2' _ _ gm;have qm3:Paired (cO K H0 H3) mv um:=Paired.imp' (λ_ _ z=>cO.same z s2') qm;exists ⟨⟨_,bE.of gz2⟩,?_⟩;refine dw (K:=K) (F:=cO K Hz) (cO K Hz) (lY (bJ mv mv.length)) gz2 qz2 (by rw[ah];lia) (λa b=>a.same b) (λa b=>a.same b) ?_ ?_
   ·rintro i ns v Ha NY NN en sa ⟨u,rfl,_,Ru⟩ k1;have mn:=au en;have wn:=powl t ns mn;exists ⟨by lia,by lia,?_⟩;refine fR (n:=mv.length) (cA K) (λj=>cG ns (mv.map λxs=>xs.getD j 0)) (by lia) (λa b=>a.same b) ?_ ?_
    ·rintro j Hb NY2 NN2 hj sb k2;have sab:=sa.trans sb;exists ⟨by lia,by lia,?_⟩;refine fR (n:=mv.length) (cA K) (λi=>(mv.getD i []).getD j 0) (by lia) (λa b=>a.same b) ?_ ?_
     ·rintro i2 Hc NY3 NN3 hi2 sc k3;have sac:=sab.trans sc;obtain ⟨xr,vr,er,evr,mr,qr,rfl,_,Rr⟩:=gL (Paired.imp' (λ_ _ z=>cO.same z sac) qm3) hi2;have wr:=D.mw xr mr;obtain ⟨ws,gw,qw⟩:=id Rr;obtain ⟨vx,ex,nx⟩:=BF qw (j:=j) (by lia);have e:(mv.getD i2 []).getD j 0=xr.getD j 0:=by rw[aa (l:=mv),er];rfl
      exists b9 (bE.of (sac _ _ gm3)) (dX evr) ?_;exists b9 (bE.of gw) ex ?_;exact k3 _ _ (aF.refl _) (by rw[e];exact nx)
     ·rintro ys Hc cq hcq sc gc prc _
      have ecol:(List.range mv.length).map (λi=>(mv.getD i []).getD j 0)=mv.map λxs=>xs.getD j 0:=by
       apply d9 (by rw[ah,ah,cg]);intro i h1 h2;rw[d7,d7,kR];rw[ah] at h2;rw[aa (l:=mv),ag h2];rfl
      rw[ecol] at prc;have Rc:cL K Hc cq (mv.map λxs=>xs.getD j 0):=⟨ys,gc,prc⟩;exists ⟨u,cq,ns,_,rfl,cL.same Ru (sb.trans sc),Rc,by rw[ah,wn],by lia,?_,λd1 Hd sd Nd=>?_⟩
      ·obtain ⟨y0,hy0,rfl⟩:=az.mp mn;have af:=(AD.row D.turn.mw D.turn.pw y0 hy0).fit D.turn.mw (D.turn.pw y0 hy0) (show t<=tt by lia);refine (af.1 _ ?_).symm;unfold bJ;exact az.mpr ⟨j,fJ.mpr hj,rfl⟩
      ·exact k2 _ _ (sc.trans sd) Nd
    ·rintro ys Hb rr hrr sb gb prb _
     have eo:(List.range mv.length).map (λj=>cG ns (mv.map λxs=>xs.getD j 0))=lY (bJ mv mv.length) ns:=by
      unfold lY bJ;rw[iB];refine dP λj _=>?_
      show cG ns _=cG _ ns
      exact Mr (by rw[ah,wn])
     rw[eo] at prb;exact k1 _ _ sb ⟨rr,rfl,nz rr (s2'.none (sa.none hrr)) (λz=>by have:=sa _ _ g2';rw[z,this] at hrr;cases hrr),ys,gb,prb⟩
   ·rintro ys Hb rr hrr sb gb prb nxb;have e:(lk.map (fV (bJ mv mv.length) t)).map (lY (bJ mv mv.length))=lk.map (fV (bJ mv mv.length) (t+1)):=by rw[iB];rfl
    rw[e] at prb nxb;exact ⟨s2'.trans sb,rr,_,_,rfl,λz=>(by rw[z,g2'] at hrr;cases hrr),sb _ _ g2',Paired.imp' (λ_ _ z=>cO.same z sb) p2',ys,gb,prb,ka nxb⟩
  ·rintro σ' H' ⟨s',rq,us,y,rfl,rf,gu,pu,Gq⟩;exists k fd H' nf0 s' ⟨us,gu,Paired.imp' (λ_ _ ⟨q,a,b,c⟩=>⟨q,a,(zn q b).1,c⟩) pu,λz=>?_⟩;obtain ⟨_,_,q,e,h,_⟩:=dn pu z;cases e;exact zl h
theorem mG:aP ["_law_rows","_law_found","_law_row_here"] ["_law_rows"] (aH oJ):=by walk_at "d"
theorem BC (T:Txt K mg Z) (ptree:P.given.tree=none):cC P w K mg base eY 1 Z.vZ Z.vI ["_law_rows"] (zE K):=by
 refine T.m5.F.ok mG (λvs H Q E h=>?_) (λcdv A outer s H vs Q E hr h=>?_)
 ·obtain ⟨p,n,H0,R,ps,rfl,_⟩:=h;rfl
 ·obtain ⟨p,n,H0,R,ps,rfl,G,r100,n100,⟨rows,RR⟩,k⟩:=h
  refine ⟨_,(ar (a9 (i:=1) mG.nd rfl (Or.inl rfl) (du aj))
   (ar (df PassesOwn.never rfl (cu (pv 0)) (aK (i:=2) mG.nd rfl (Or.inr rfl) (Or.inl rfl))
    (ay (eO (ma bN cx cw fA (pv 1) (ae (aW bL (cv ["_law_k"] ["_law_row_here"] [2] (cy rfl T.range (ae (bF a7 (by rfl) T.len aR (ae (pv 2) aj)) aj)) (λ_=>(aK (i:=0) (show ND9 ["_law_k","_law_row_here"] by decide +kernel))) (λ_=>DS (be (DU K (by rfl) (AB hr)) (aW (fE K (by rfl)) (pv 1) (pv 0)) (c8 (ae ak (ae ak aj))) (bB _))) (λ_=>(pv 0))) ak) aj)))))
   (ay (aN (pv 1))))),?_⟩
  refine aM (σ:=[some (.ref p),none,none]) rfl ?_;obtain ⟨lR,wR,rr⟩:=id RR;obtain ⟨xs,gx,qx,_⟩:=id G;have lx:=qx.length;exists dd λfd H1 s1 n1 g1=>?_
  exists ⟨⟨_,bE.of (s1 _ _ gx)⟩,?_⟩;refine eX (K:=K) (a:=p) (xs:=xs) (λi σ' H'=>aF H H'/\∃y,σ'=[some (.ref p),some (.ref fd),y]/\H' fd=some (.lst (c7 (ps.take i)))) ⟨s1,_,rfl,g1⟩ (λi σ' H' _ ⟨e,_⟩=>bE.of (e _ _ gx)) ?_ ?_
  ·rintro i v σ' H' hx ⟨e,y,rfl,gf⟩;obtain ⟨row,er,q,rfl,_,Rr⟩:=bY (Paired.imp' (λ_ _ z=>cO.same z e) qx) hx;have wr:=wR row (au er);have hi:i < ps.length:=by have:=(aB.mp er).1;lia
   have ef:∀c,bV R i c=row.getD c 0:=λc=>by unfold bV;rw[aa (l:=R),er];rfl
   have ep:ps[i]?=some (ps.getD i 0):=by rw[aa,ag hi];rfl
   have lowp:=rr.low i hi;have u:=rr.unit i hi i hi;rw[if_pos rfl,ef] at u;obtain ⟨rest,en⟩:=LG (xs:=row) (j:=ps.getD i 0) (by rw[u];decide) (λc hc=>by rw[<- ef];exact rr.lead i hi c hc) (n:=row.length) (by lia);obtain ⟨zs,gz,qz⟩:=id Rr;have lz:=qz.length;exists ⟨.inl ⟨rfl,_,bE.of gf⟩,?_⟩;exists ⟨q,zs,rfl,.inl (bE.of gz),?_⟩;exists ⟨by lia,by lia,?_⟩;refine jP (n:=zs.length) (λc ys H2=>aF H' H2/\ys=c7 (uC row c)) (bc (bC (by lia))) ⟨aF.refl _,rfl⟩ ?_ ?_
   ·rintro c ys H2 hc hlen ⟨s2,rfl⟩;rw[mE];obtain ⟨vx,ex,nx⟩:=BF qz (j:=c) (by lia);exists b9 (bE.of (s2 _ _ gz)) ex ?_;exists cD λt0 H3 s3 g3=>?_
    exists ⟨_,_,CA,row.getD c 0,0,by decide,(nx.same s2).same s3,cA.mk (q:=0) g3 rfl,?_⟩;by_cases e0:row.getD c 0=0
    ·rw[decide_eq_true e0];exists ⟨s2.trans s3,?_⟩;rw[mf,if_neg (by simpa using e0)]
    ·rw[decide_eq_false e0];exists ⟨s2.trans s3,?_⟩;rw[mf,if_pos e0];unfold c7;rw[cE];rfl
   rintro ys H2 hy ⟨s2,rfl⟩ l hl;have sn:aF H2 (upd H2 l (.lst (c7 (uC row zs.length)))):=aF.new hl;have gn:(upd H2 l (.lst (c7 (uC row zs.length)))) l=some (.lst (c7 (uC row zs.length))):=aE;generalize upd H2 l (.lst (c7 (uC row zs.length)))=H3 at sn gn ⊢;rw[<- lz,en] at gn;have s23:=s2.trans sn;have gf3:=s23 _ _ gf;exists b9 (bE.of gn) (v:=.int ((ps.getD i 0:Nat):Int)) (dX (j:=0) rfl) ?_;exists fz gf3 (bC (by rw[lF,bR];lia)) ?_;refine ⟨(e.trans s23).after n1,_,rfl,?_⟩;rw[aE,take_snoc ep];unfold c7;rw[cE];rfl
  ·rintro σ' H' ⟨e,y,rfl,gf⟩;rw[aI (by lia)] at gf;exists k fd H' n1 e gf
theorem i8:aP ["_law_parts_here","_law_told_here","_law_puts_here","_law_looks_here","_law_n","_law_at"] ["_law_parts_here","_law_told_here","_law_puts_here","_law_looks_here"] (aH jJ):=by walk_at "d"
theorem uY (T:Txt K mg Z) (ptree:P.given.tree=none):cC P w K mg base eY 7 Z.nX Z.nM ["_law_parts_here","_law_told_here","_law_puts_here","_law_looks_here"] (Fc K):=by
 have ni:=rj (P:=P) (w:=w) (base:=base) T ptree;have sJ:=rg (P:=P) (w:=w) (base:=base) T ptree;have xF:=uW (P:=P) (w:=w) (base:=base) T ptree;have EG:=BC (P:=P) (w:=w) (base:=base) T ptree;have pH:=sS (P:=P) (w:=w) (base:=base) T ptree;refine T.js.F.ok i8 (λvs H Q E h=>?_) (λcdv A outer s H vs Q E hr h=>?_)
 ·obtain ⟨r,t,p,l,a,g,tt,e,H0,H1,H2,H3,mv,pt,lk,pus,Hd,st,y,rfl,_⟩:=h;rfl
 ·obtain ⟨r,t,p,l,a,g,tt,e,H0,H1,H2,H3,mv,pt,lk,pus,Hd,st,y,rfl,PQ,D,Gp,Gl,Z5,gt,Ra,Gg,TL,LF,k⟩:=h
  refine ⟨_,(ar (a9 (i:=4) i8.nd rfl (Or.inl rfl) (bF a7 (by rfl) T.len aR (ae (aW bI (pv 0) ak) aj)))
   (ar (cY (PW.pt (ky (be sP (bF a7 (by rfl) T.len aR (ae (pv 1) aj)) ak (bB _)) (jb (jd (ia (cJ ni hr T.jq (ae (aW bI (pv 1) ak) (ae (pv 4) aj)))))))) (ay (aN md)) bQ)
   (ar (cY (jd (ia (cJ sJ hr T.gP (ae (aW bI (pv 1) ak) (ae (cJ xF hr T.jo (ae (pv 0) (ae (bF a7 (by rfl) T.len aR (ae (pv 2) aj)) aj))) (ae (pv 4) aj)))))) (ay (aN md)) bQ)
   (ar (df PassesOwn.never rfl (cu (cJ EG hr T.m5 (ae (aW bI (pv 1) ak) aj))) (aK (i:=5) i8.nd)
    (ay (cY (be (xi (AB hr)) (aW bL (aW bI (pv 1) ak) (pv 5)) (c8 (ae ak (ae ak aj))) (bB _)) (ay (aN md)) bQ)))
   (ay (aN (jg (Lx (AB hr)) (cJ pH hr T.jZ (ae (pv 0) (ae (aW bI (pv 1) ak) (ae (pv 2) aj)))) (pv 3) (bB _)))))))),?_⟩
  refine aM (σ:=[some (.ref r),some (.ref t),some (.ref p),some (.ref l),none,none]) rfl ?_;have d8:=D.n8;have o4:=D.o4;have t12:=Z5.t12;have lp:=Z5.lp;have et:(bJ mv mv.length).length=mv.length:=cW;have ly:=TL.ly;obtain ⟨q,q0,q1,tq⟩:=TL.fy;obtain ⟨psd,RH,zy⟩:=TL.zy;obtain ⟨wH,lH,_,_⟩:=TL.un.szn Z5.v.un.e1;obtain ⟨m,p',l',gr,n1,n2,n3,Gm,Gp',Gl'⟩:=id PQ;obtain ⟨um,gm,qm,_⟩:=id Gm;obtain ⟨up,gp,qp,_⟩:=id Gp;have lum:=qm.length;have lup:=qp.length;exists ⟨_,_,rfl,.inl (bE.of gm),?_⟩;rw[<- lum];exists ⟨t,_,rfl,.inr (nY.of gt),?_⟩;walk_at "w";rw[decide_eq_true (show (([V.str (Str.ofString "any"),V.ref a,V.ref g].length:Nat):Int)=3 from rfl)];exists ⟨a,y.map nm,by rw[ah,ly],Ra.rowK,by rw[ah];lia,λn hn=>by obtain ⟨z,hz,rfl⟩:=az.mp hn;exact K2 (kT (tq z hz) q0 (ai q1 (Cr (by decide))) (Cr (by decide))),λH7 s7=>?_⟩;have gt7:=s7 _ _ gt;exists ⟨_,_,rfl,.inl (bE.of (s7 _ _ gp)),?_⟩;rw[show up.length=tt by lia];exists ⟨r,tt,H0,mv,pt,lk,rfl,t12,PQ.same s7,D,Z5.v.ad,λrq H8 nrq s8 G8=>?_⟩;have s08:=s7.trans s8;have gt8:=s8 _ _ gt7;exists ⟨g,rq,tt,e,_,_,bJ mv mv.length,lk,Hd,by rw[et],Gg.same s08,G8,t12,o4,by rw[et];exact d8,D.turn.pw,by rw[et];exact TL.un,Z5.v,λH9 s9=>?_⟩;have s09:=s08.trans s9;have gt9:=s9 _ _ gt8;exists ⟨g,mv.length,_,Hd,psd,rfl,Gg.same s09,by lia,by lia,⟨_,RH⟩,λrA HA nA sA gA=>?_⟩;have s0A:=s09.trans sA;have lps:=lF (ps:=psd);exists ⟨⟨_,bE.of gA⟩,?_⟩;refine eX (K:=K) (a:=rA) (xs:=c7 psd) (λi σ' H'=>aF HA H'/\∃y1,σ'=[some (.ref r),some (.ref t),some (.ref p),some (.ref l),some (.int mv.length),y1]) ⟨aF.refl _,_,rfl⟩ (λi σ' H' _ ⟨s,_⟩=>bE.of (s _ _ gA)) ?_ ?_
  ·rintro i v σ' HB hv ⟨sB,y1,rfl⟩;obtain ⟨pj,ej,rfl⟩:=uZ hv;have hi:i < psd.length:=(aB.mp ej).1;have ejD:psd.getD i 0=pj:=by rw[aa,ej];rfl
   have pjn:pj < mv.length:=by have:=RH.2.2.low i hi;rw[ejD] at this;exact this
   have zz:=zy i hi;rw[ejD] at zz;have s0B:=s0A.trans sB;have gtB:=s0B _ _ gt;obtain ⟨va,ga,qa⟩:=Ra.same s0B;obtain ⟨vx,ex,nx⟩:=BF qa (j:=pj) (by lia);exists b9 (bE.of ga) ex ?_;exists cD λt0 HC sC gC=>?_
   exists ⟨_,_,CA,y.getD pj 0,0,by decide,nx.same sC,cA.mk (q:=0) gC rfl,?_⟩;rw[decide_eq_true zz];exists ⟨sB.trans sC,_,rfl⟩
  ·rintro σ' HB ⟨sB,y1,rfl⟩;have s0B:=s0A.trans sB;have gtB:=s0B _ _ gt;exists ⟨r,a,p,H0,H1,mv,pt,lk,pus,y,rfl,PQ.same s0B,D,Ra.same s0B,ly,Gp.same s0B,by lia,Z5.wp,LF,λlC HC nC sC GC=>?_⟩;exists ⟨_,_,AA,_,_,by decide,GC.kind,(Gl.same (s0B.trans sC)).kind,?_⟩;rw[decide_eq_true (TL.looks D Z5)];exact k _ (s0B.trans sC)
theorem iX:aP ["_law_system_here","_law_parts_here","_law_puts_here","_law_looks_here","_law_rows","_law_seen","_law_told_here","_law_row_here"] ["_law_system_here","_law_parts_here","_law_puts_here","_law_looks_here"] (aH qJ):=by walk_at "d"
theorem DZ (T:Txt K mg Z) (ptree:P.given.tree=none):cC P w K mg base eY 11 Z.yo Z.xU ["_law_system_here","_law_parts_here","_law_puts_here","_law_looks_here"] (BW K Z.a_System):=by
 have fU:=rn (P:=P) (w:=w) (base:=base) T ptree;have MF:=JV (P:=P) (w:=w) (base:=base) T ptree;have xH:=uY (P:=P) (w:=w) (base:=base) T ptree;refine T.oW.F.ok iX (λvs H Q E h=>?_) (λcdv A outer s H vs Q E hr h=>?_)
 ·obtain ⟨x,r,p,l,tt,e,H0,H1,H2,H3,mv,pt,lk,pus,st,rfl,_⟩:=h;rfl
 ·obtain ⟨x,r,p,l,tt,e,H0,H1,H2,H3,mv,pt,lk,pus,st,rfl,S,PQ,D,F,Gp,Gl,Z5,LL,k⟩:=h
  refine ⟨_,(ar (a9 (i:=4) iX.nd rfl (Or.inl rfl) (cJ fU hr T.eC (ae (pv 2) aj)))
   (ar (a9 (i:=5) iX.nd rfl (Or.inl rfl) (cJ fU hr T.eC (ae (pv 3) aj)))
   (ar (a9 (i:=6) iX.nd rfl (Or.inl rfl) (cJ MF hr T.xm (ae (pv 0) (ae (pv 4) (ae (pv 5) aj)))))
   (ar (cY (PW.pt (ky (be (xi (AB hr)) (pv 4) (pv 2) (bB _)) (ky (be (xi (AB hr)) (pv 5) (pv 3) (bB _)) (ky (jd (ia (uh rfl T.isinstance PyProof.Rows.boot_tuple T.tuple (pv 6)))) (jb (be pM (bF a7 (by rfl) T.len aR (ae (pv 6) aj)) ak (bB _))))))) (ay (aN oM)) bQ)
   (ar (cY (PW.pt (jc (be eS (aW bI (pv 6) ak) qV (bB _)) (jV (ia (cJ xH hr T.js (ae (pv 1) (ae (pv 6) (ae (pv 2) (ae (pv 3) aj))))))))) (ar (df PassesOwn.never rfl (cu (aW bI (pv 6) ak)) (aK (i:=7) iX.nd)
    (ay (eO (ma bN cx cw fA (pv 7) (ae oM aj)))))
   (ar (eO (ma bN cx cw fA (aW bI (pv 6) ak) (ae oM aj)))
   (ar (eO (ma bN cx cw fA (aW bI (pv 6) ak) (ae oM aj)))
   (ay (aN qV))))) bQ)
   (ay (aN oM))))))),?_⟩
  refine aM (σ:=[some (.ref x),some (.ref r),some (.ref p),some (.ref l),none,none,none,none]) rfl ?_;have d8:=D.n8;have o4:=D.o4;have i4:=D.i4;have t12:=Z5.t12;have lp:=Z5.lp;have ll:(uw mv pt lk st pus).length=tt:=by unfold uw;rw[ah,cg,lp]
  have wl:∀xs∈uw mv pt lk st pus,xs.length=lk.length:=λxs hx=>by
   unfold uw at hx;obtain ⟨t,_,rfl⟩:=az.mp hx;rw[ah]
  exists ⟨p,_,pus,rfl,Gp,by lia,λxs hx=>by rw[Z5.wp xs hx];lia,λp4 H4 n4 s4 G4=>?_⟩;exists ⟨l,_,_,rfl,Gl.same s4,by lia,λxs hx=>by rw[wl xs hx];lia,λl5 H5 n5 s5 G5=>?_⟩;have s05:=s4.trans s5;have G45:=G4.same s5;exists ⟨x,p4,l5,tt,e,H0,_,_,mv,pt,lk,pus,st,rfl,S.same s05,D,F,G45,G5,Z5,λt a g y Hd H6 gt na ng s6 Ra Gg TL=>?_⟩;have s06:=s05.trans s6;have na0:=s05.none na;have ng0:=s05.none ng;obtain ⟨wH,lH,_,_⟩:=TL.un.szn Z5.v.un.e1;have ly:=TL.ly;exists ⟨_,_,AA,_,_,by decide,(G45.same s6).kind,(Gp.same s06).kind,?_⟩;rw[decide_eq_true rfl];exists ⟨_,_,AA,_,_,by decide,(G5.same s6).kind,(Gl.same s06).kind,?_⟩;rw[decide_eq_true rfl];exists PL (.tup gt) (.inr (.inr (.inr rfl))) ?_;rw[show tyB "tuple" (.ref t) H6=true by unfold tyB;dsimp only;rw[gt];rfl];exists ⟨t,_,rfl,.inr (nY.of gt),?_⟩;walk_at "w";rw[decide_eq_false (show ¬((([V.str (Str.ofString "any"),V.ref a,V.ref g].length:Nat):Int) < 2) from λz=>absurd (show (3:Int) < 2 from z) (by decide))];walk_at "w";rw[decide_eq_true rfl];exists ⟨r,t,p,l,a,g,tt,e,H1,H2,H3,_,mv,pt,lk,pus,Hd,st,y,rfl,PQ.same s06,D,Gp.same s06,Gl.same s06,Z5,gt,Ra,Gg,TL,LL y Hd TL,λH7 s7=>?_⟩;have s07:=s06.trans s7;have gt7:=s7 _ _ gt;obtain ⟨us,gu,qu,nu⟩:=Gg.same s7;obtain ⟨va,ga,qa⟩:=Ra.same s7;have lu:=qu.length;have lva:=qa.length;exists ⟨⟨_,bE.of gu⟩,?_⟩;refine eX (K:=K) (a:=g) (xs:=us) (λi σ' H'=>aF H H'/\H' g=some (.lst us)/\H' t=some (.tup [.str (Str.ofString "any"),.ref a,.ref g])/\(∃zs,H' a=some (.lst zs)/\zs.length<=20+i)/\(∀y∈us,∃q zs,y=V.ref q/\H q=none/\q≠g/\q≠t/\H' q=some (.lst zs)/\zs.length<=20+i)/\∃y1,σ'=[some (.ref x),some (.ref r),some (.ref p),some (.ref l),some (.ref p4),some (.ref l5),some (.ref t),y1]) ⟨s07,gu,gt7,⟨va,ga,by lia⟩,λy hy=>?_,_,rfl⟩ (λi σ' H' _ ⟨_,g,_⟩=>bE.of g) ?_ ?_
  ·obtain ⟨xs,mx,q,rfl,nq,zs,gz,qz⟩:=dn qu hy;have:=qz.length;have:=wH xs mx;exact ⟨q,zs,rfl,s05.none nq,λz=>nu (by rw[<- z];exact hy),λz=>(by rw[z,gt7] at gz;cases gz),gz,by lia⟩
  ·rintro i v σ' H8 hv ⟨s8,g8,t8,⟨za,a8,la8⟩,hq,y1,rfl⟩;have hi:i < us.length:=(aB.mp hv).1;obtain ⟨q,zs,rfl,nq,qg,qt,gq,lz⟩:=hq v (au hv);exists ⟨.inl ⟨rfl,_,bE.of gq⟩,?_⟩;exists fz gq (bC (by lia)) ?_;refine ⟨s8.after nq,by rw[bf (Ne.symm qg)];exact g8,by rw[bf (Ne.symm qt)];exact t8,?_,λy hy=>?_,_,rfl⟩
   ·by_cases z:a=q
    ·exact ⟨zs++[.non],by rw[z,aE],by rw[ao,aX];lia⟩
    ·exact ⟨za,by rw[bf z];exact a8,by lia⟩
   obtain ⟨q2,zs2,rfl,nq2,qg2,qt2,gq2,lz2⟩:=hq y hy;by_cases z:q2=q
   ·exact ⟨q2,zs++[.non],rfl,nq2,qg2,qt2,by rw[z,aE],by rw[ao,aX];lia⟩
   ·exact ⟨q2,zs2,rfl,nq2,qg2,qt2,by rw[bf z];exact gq2,by lia⟩
  ·rintro σ' H8 ⟨s8,g8,t8,⟨za,a8,la8⟩,_,y1,rfl⟩;have ta:t≠a:=λz=>by rw[z,a8] at t8;cases t8
   exists ⟨.inl ⟨rfl,_,bE.of a8⟩,?_⟩;exists fz a8 (bC (by lia)) ?_;have s9:=s8.after (o:=.lst (za++[V.non])) na0;have t9:(upd H8 a (.lst (za++[V.non]))) t=some (.tup [.str (Str.ofString "any"),.ref a,.ref g]):=by rw[bf ta];exact t8
   have g9:∃zs,(upd H8 a (.lst (za++[V.non]))) g=some (.lst zs)/\zs.length<=100:=by
    by_cases z:g=a
    ·exact ⟨_,by rw[z,aE],by rw[ao,aX];lia⟩
    ·exact ⟨us,by rw[bf z];exact g8,by lia⟩
   generalize upd H8 a (.lst (za++[V.non]))=H9 at s9 t9 g9 ⊢;obtain ⟨zg,g9,lg9⟩:=g9;exists ⟨.inl ⟨rfl,_,bE.of g9⟩,?_⟩;exists fz g9 (bC (by lia)) ?_;exists k _ (s9.after ng0)
theorem kX:aP ["_law_script","_law_bag_here","_law_parts_here","_law_wide","_law_system_here","_law_n","_law_cases","_law_turn","_law_start","_law_puts_here","_law_k"] ["_law_script"] (aH Ld):=by walk_at "d"
theorem Qd (T:Txt K mg Z) (ptree:P.given.tree=none):cC P w K mg base eY 12 Z.O0 Z.OX ["_law_script"] (zG K):=by
 have Io:=Fy (P:=P) (w:=w) (base:=base) T ptree;have EH:=BD (P:=P) (w:=w) (base:=base) T ptree;have BO:=Ak (P:=P) (w:=w) (base:=base) T ptree;have gU:=me (P:=P) (w:=w) (base:=base) T ptree;have Gh:=D4 (P:=P) (w:=w) (base:=base) T ptree;have pH:=sS (P:=P) (w:=w) (base:=base) T ptree;have Ge:=DZ (P:=P) (w:=w) (base:=base) T ptree;refine T.O8.ok kX (λvs H Q E h=>?_) (λcdv A outer s H vs Q E hr h=>?_)
 ·obtain ⟨a,ns,rfl,_⟩:=h;rfl
 ·obtain ⟨a,ns,rfl,hS,hlen,k⟩:=h
  refine ⟨_,(ar (a9 (i:=1) kX.nd rfl (Or.inl rfl) (cJ Io hr T.rC (ae (pv 0) aj)))
   (ar (eI (cJ EH hr T.m6 (ae (pv 1) aj)) (mS rfl (bX (aK (i:=2) kX.nd) (bX (aK (i:=3) kX.nd) eQ))))
   (ar (a9 (i:=4) kX.nd rfl (Or.inl rfl) (cJ BO hr T.lN (ae (pv 2) aj)))
   (ar (a9 (i:=5) kX.nd rfl (Or.inl rfl) (bF a7 (by rfl) T.len aR (ae (aW bI (pv 2) ak) aj)))
   (ar (a9 (i:=6) kX.nd rfl (Or.inl rfl) (du (ae (c8 (ae (du aj) (ae (du aj) aj))) aj)))
   (ar (df PassesOwn.never rfl (cy rfl T.range (ae ak aj)) (aK (i:=7) kX.nd)
    (ar (a9 (i:=8) kX.nd rfl (Or.inl rfl) (cJ gU hr T.gQ (ae (pv 1) (ae (pv 5) (ae (pv 3) aj)))))
   (ar (a9 (i:=9) kX.nd rfl (Or.inl rfl) (cJ Gh hr T.oY (ae (pv 1) (ae (pv 2) (ae (pv 3) aj)))))
   (ay (eO (ma bN cx cw fA (pv 6) (ae (c8 (ae (pv 9) (ae (cJ pH hr T.jZ (ae (pv 2) (ae (pv 8) (ae (pv 9) aj)))) aj))) aj)))))))
   (ar (df PassesOwn.never rfl (cu (du (ae ak (ae ak (ae ak (ae ak aj)))))) (aK (i:=10) kX.nd)
    (ay (cY (be sP (cJ Ge hr T.oW (ae (pv 4) (ae (pv 2) (ae (aW bI (aW bL (pv 6) (pv 10)) ak) (ae (aW bI (aW bL (pv 6) (pv 10)) ak) aj))))) qV (bB _)) (ay (aN md)) bQ)))
   (ay (aN md))))))))),?_⟩
  refine aM (σ:=[some (.ref a),none,none,none,none,none,none,none,none,none,none]) rfl ?_;exists ⟨a,ns,rfl,hS,hlen,λb H0 hb0 B0 s0=>?_⟩;exists ⟨b,rfl,B0,λt r w mv pt lk H1 g1 PQ D F G w1 wk B1 u1=>?_⟩;have d8:=D.n8;have o4:=D.o4;have i4:=D.i4;have et:(bJ mv mv.length).length=mv.length:=cW;exists ⟨r,H0,mv,pt,lk,rfl,PQ,D,F.sf,λx H2 nx s2 S=>?_⟩;have P2:=PQ.same s2;have B2:=B1.same s2;obtain ⟨m,p,l,gt,mn,pn,ln,Gm,Gp,Gl⟩:=id P2;obtain ⟨um,gm,qm,_⟩:=id Gm;have lum:=qm.length;exists ⟨_,_,rfl,.inl (bE.of gm),?_⟩;rw[<- lum];clear gm qm lum Gm Gp Gl gt mn pn ln;exists dd λp0 H3 s3 n3 g3=>?_
  exists dd λl0 H4 s4 n4 g4=>?_
  exists cD λc0 H5 s5 g5=>?_
  exists dd λfd H6 s6 n6 g6=>?_
  have B3:=B2.same s3;have B4:=B3.same s4;have B5:=B4.same s5;have B6:=B5.same s6;have fb:fd≠b:=λz=>B5.at (by rw[<- z];exact n6)
  obtain ⟨q0,I0,_,gq0⟩:=B5.inner;have fq:fd≠q0:=λz=>by rw[z,gq0] at n6;cases n6
  have nf6:H6 fd≠none:=by rw[g6];exact λz=>nomatch z
  have s36:=(s4.trans s5).trans s6;have s46:=s5.trans s6;have s26:=s3.trans s36;have pf:p0≠fd:=λz=>by rw[<- z,(s4.trans s5) _ _ g3] at n6;cases n6
  have lf:l0≠fd:=λz=>by rw[<- z,s5 _ _ g4] at n6;cases n6
  have pb:p0≠b:=λz=>B2.at (by rw[<- z];exact n3)
  have lb:l0≠b:=λz=>B3.at (by rw[<- z];exact n4)
  have C0:yP K H6 b fd mv pt lk w H6 (.ref c0):=⟨c0,p0,l0,[],List.replicate mv.length 0,0,rfl,s6 _ _ g5,pb,lb,pf,lf,⟨[],s36 _ _ g3,.nil,(λz=>nomatch z)⟩,⟨[],s46 _ _ g4,.nil,(λz=>nomatch z)⟩,⟨rfl,λ_ h=>nomatch h⟩,⟨by decide,λ_=>by decide,λ_ _=>by decide,λ_=>by decide⟩,fN ..,λz hz=>by rw[wo hz];exact Oc (by lia)⟩;have s25:=(s3.trans s4).trans s5;have S5:=S.same s25;have P5:=P2.same s25;exists ⟨by decide,by decide,?_⟩;refine eF (n:=2) (λi σ' H'=>ib H' b/\c6 b H5 H'/\(∀q,H' q=none->H6 q=none)/\∃cs y1 y2 y3 y4,σ'=[some (.ref a),some (.ref b),some (.ref r),some (.int w),some (.ref x),some (.int mv.length),some (.ref fd),y1,y2,y3,y4]/\H' fd=some (.lst cs)/\cs.length=i+1/\∀v∈cs,yP K H6 b fd mv pt lk w H' v) ⟨B6,s6.upto,λ_ h=>h,_,_,_,_,_,rfl,g6,rfl,λv hv=>by rw[cm.mp hv];exact C0⟩ ?_ ?_
  ·rintro i σ' H' hi ⟨B',u',w6,cs,y1,y2,y3,y4,rfl,gf,lc,hc⟩;have P':=P5.upto u' B5 B0.at;exists ⟨b,mv.length,w,rfl,B',by lia,w1,by lia,λs st H8 ns Rs ls ds B8 u8=>?_⟩;have sb:s≠b:=λz=>B'.at (by rw[<- z];exact ns)
   have sf:s≠fd:=λz=>by rw[z,gf] at ns;cases ns
   exists ⟨b,r,w,H0,mv,pt,lk,rfl,B8,B0.at,P'.upto u8 B' B0.at,D,w1,wk,λp pus tt H9 np Gp DP St B9 u9=>?_⟩;have u89:=u8.trans u9;have gf9:=u89.other fb gf;have np':=u8.none B8 np;have pb':p≠b:=λz=>B8.at (by rw[<- z];exact np)
   have pf':p≠fd:=λz=>by rw[z,gf] at np';cases np'
   obtain ⟨e,Z5,LF,_⟩:=Li G D St ls ds DP;have u59:=u'.trans u89;exists ⟨.inl ⟨rfl,_,bE.of gf9⟩,?_⟩;exists ⟨r,s,p,H0,_,mv,pt,lk,pus,st,rfl,P'.upto u89 B' B0.at,D,Rs.upto u9 B8 sb,ls,Gp,by rw[DP.1];have:=St.1;lia,(λxs hx=>(DP.2 xs hx).1),LF,λlq HA nl sA Gl=>?_⟩;exists cD λcq HB sB gB=>?_
   have sAB:=sA.trans sB;have gfB:=sAB _ _ gf9;have nl5:=u9.none B9 nl;have lb':lq≠b:=λz=>B9.at (by rw[<- z];exact nl)
   have lf':lq≠fd:=λz=>by rw[z,gf9] at nl;cases nl
   exists fz gfB (bC (by lia)) ?_;have uB:=(u59.same sAB);refine ⟨(B9.same sAB).upd (uB.2 _ I0) fb fq,uB.after n6,?_,_,_,_,_,_,rfl,aE,by rw[ao,lc];rfl,λv hv=>?_⟩
   ·refine λq h=>w6 q (u89.none B9 (sAB.none ?_))
    rcases Classical.em (q=fd) with z | z
    ·rw[z,aE] at h;cases h
    ·rwa [bf z] at h
   refine yP.app ?_ gfB nf6;rcases ax.mp hv with hv | hv
   ·exact ((hc v hv).upto u89 B' B6.at).same sAB
   ·rw[cm.mp hv];exact ⟨cq,p,lq,pus,st,tt,rfl,gB,pb',lb',pf',lf',(Gp.weakN λq h=>w6 q (u8.none B8 h)).same sAB,(Gl.weakN λq h=>w6 q (u89.none B9 h)).same sB,DP,St,ls,ds⟩
  rintro σ' H' ⟨B',u',w6,cs,y1,y2,y3,y4,rfl,gf,lc,hc⟩;have S':=S5.upto u' B5 B1.at;have P':=P5.upto u' B5 B0.at;exists dd λki H7 s7 n7 g7=>?_
  exists ⟨⟨_,bE.of g7⟩,?_⟩;refine eX (K:=K) (a:=ki) (xs:=_) (λi σ' H''=>aF H7 H''/\∃y,σ'=[some (.ref a),some (.ref b),some (.ref r),some (.int w),some (.ref x),some (.int mv.length),some (.ref fd),y1,y2,y3,y]) ⟨aF.refl _,_,rfl⟩ (λi σ' H'' _ ⟨s,_⟩=>bE.of (s _ _ g7)) ?_ ?_
  ·rintro i v σ' H8 hv ⟨s8,y,rfl⟩;have s78:=s7.trans s8
   obtain ⟨j,rfl,j3⟩:∃j:Nat,v=.int j/\j < 3:=by
    have:=au hv;rcases aG.mp this with z | z
    ·exact ⟨1,z,by decide⟩
    rcases aG.mp z with z | z
    ·exact ⟨2,z,by decide⟩
    rcases aG.mp z with z | z
    ·exact ⟨0,z,by decide⟩
    ·exact ⟨1,cm.mp z,by decide⟩
   have gf8:=s78 _ _ gf;have ej:cs[j]?=some (cs[j]'(by lia)):=ag _;obtain ⟨c,p,l,pus,st,tt,ec,gc,_,_,_,_,Gp,Gl,DP,St,ls,ds⟩:=(hc _ (aL (by lia:j < cs.length))).same s78;rw[ec] at ej;obtain ⟨e,Z5,_,LL⟩:=Li G D St ls ds DP;exists b9 (bE.of gf8) (dX ej) ?_;exists b9 (bE.of gf8) (dX ej) ?_;exists ⟨x,r,p,l,tt,e,_,_,_,_,mv,pt,lk,pus,st,rfl,S'.same s78,P'.same s78,D,F,Gp,Gl,Z5,LL,λH9 s9=>?_⟩;walk_at "w";rw[decide_eq_true rfl];exists ⟨s8.trans s9,_,rfl⟩
  ·rintro σ' H8 ⟨s8,y,rfl⟩;exists k _
end
theorem ln1 {P:List Value->Prop} (h:∀x0,P [x0]):∀us:List Value,us.length=1->P us
 | [x0],_=>h x0
theorem ln2 {P:List Value->Prop} (h:∀x0 x1,P [x0,x1]):∀us:List Value,us.length=2->P us
 | [x0,x1],_=>h x0 x1
theorem ln3 {P:List Value->Prop} (h:∀x0 x1 x2,P [x0,x1,x2]):∀us:List Value,us.length=3->P us
 | [x0,x1,x2],_=>h x0 x1 x2
theorem ln4 {P:List Value->Prop} (h:∀x0 x1 x2 x3,P [x0,x1,x2,x3]):∀us:List Value,us.length=4->P us
 | [x0,x1,x2,x3],_=>h x0 x1 x2 x3
theorem ln5 {P:List Value->Prop} (h:∀x0 x1 x2 x3 x4,P [x0,x1,x2,x3,x4]):∀us:List Value,us.length=5->P us
 | [x0,x1,x2,x3,x4],_=>h x0 x1 x2 x3 x4
local macro_rules | `(tactic| walk_at "b") => `(tactic| (intro _ _ _ _ _ _; first | (refine ln1 ?_; intros; rfl) | (refine ln2 ?_; intros; rfl) | (refine ln3 ?_; intros; rfl) | (refine ln4 ?_; intros; rfl) | (refine ln5 ?_; intros; rfl)))
theorem all_mk {l:W.OpenLaw} {w:World} {K:W.Frag} {h:Heap} {mg:Str->Option Value} {fa:Addr} {f0 f1 f2 f3 f4 f5 f6 f7 f8 f9 f10 f11 f12 f13 f14 f15 f16 f17 f18 f19 f20 f22 f23 f24 f25 f26 f27 f28 f29 f30 f31 f32 f33 f34 f35 f37 f39 f40 f41 f42 f43 f44 f45 f46 f47 f48 f49 f50 f51 f52 f54 f55 f56 f57 f58 f59 f60 f61 f62 f63 f64 f65 f66 f67 f68 f69 f70 f71 f72 f73 f74 f75 f76 f77 f78 f79 f80 f81:Addr} {e0 e1 e2 e3 e4 e5 e6 e7 e8 e9 e10 e11 e12 e13 e14 e15 e16 e17 e18 e19 e20 e22 e23 e24 e25 e26 e27 e28 e29 e30 e31 e32 e33 e34 e35 e37 e39 e40 e41 e42 e43 e44 e45 e46 e47 e48 e49 e50 e51 e52 e54 e55 e56 e57 e58 e59 e60 e61 e62 e63 e64 e65 e66 e67 e68 e69 e70 e71 e72 e73 e74 e75 e76 e77 e78 e79 e80 e81:FuncData}
  {f21 f36 f38 f53:Addr} {od21 od36 od38 od53 an21 an36 an38 an53:Option Addr} {sl21 sl36 sl38 sl53:Array (Option Value)} {oc21 oc36 oc38 oc53 kV21 kV36 kV38 kV53 dc21 dc36 dc38 dc53 pm21 pm36 pm38 pm53 cd21 cd36 cd38 cd53 ct21 ct36 ct38 ct53:Value}
  (X:K.In h) (G:h.Ns mainGlobals mg) (hfa:mg "law"=some (.ref fa)) (htree:l.prog.given.tree=none)
  {C:Addr} (aC:W.nsIn K mainGlobals "System"=some (some (.ref C)))
  (h0:Dh K "_law_bag" ug f0 e0)
  (h1:Dh K "_law_take" qK f1 e1)
  (h2:Dh K "_law_low" ue f2 e2)
  (h3:Dh K "_law_sum" t7 f3 e3)
  (h4:Dh K "_law_plus" qO f4 e4)
  (h5:Dh K "_law_prod" qN f5 e5)
  (h6:Dh K "_law_by" wZ f6 e6)
  (h7:Dh K "_law_mixed" oG f7 e7)
  (h8:Dh K "_law_line" qR f8 e8)
  (h9:Dh K "_law_sizes" kD f9 e9)
  (h10:Dh K "_law_number" mO f10 e10)
  (h11:Dh K "_law_row" uc f11 e11)
  (h12:Dh K "_law_move" qQ f12 e12)
  (h13:Dh K "_law_parts" oF f13 e13)
  (h14:Dh K "_law_drawn" oK f14 e14)
  (h15:Dh K "want_list" qD f15 e15)
  (h16:Dh K "is_whole" tZ f16 e16)
  (h17:Dh K "common_divisor" jG f17 e17)
  (h18:Dh K "is_number" qH f18 e18)
  (h19:Dh K "is_row" zU f19 e19)
  (h20:Dh K "copied_rows" mM f20 e20)
  (a21:W.findIn K (.ref C) "__init__"=some (some (.ref f21))) (i21:W.isFn K (.ref f21)=true) (l21:K.lookup f21=some ⟨oc21,od21,.func (W.fnOf "__init__" "System.__init__" (jt dI) (gW dI) (aH dI) .none kV21 dc21 pm21 an21 cd21 ct21),sl21⟩) (c21:W.codeIn K cd21 "System.__init__"=true) (k21:W.keepIn K (.ref f21)=true)
  (h22:Dh K "_law_copied" mQ f22 e22)
  (h23:Dh K "_law_system" mN f23 e23)
  (h24:Dh K "_law_steps" oE f24 e24)
  (h25:Dh K "_law_puts" qM f25 e25)
  (h26:Dh K "_law_dot" uf f26 e26)
  (h27:Dh K "_law_on" wY f27 e27)
  (h28:Dh K "_law_next" qP f28 e28)
  (h29:Dh K "_law_looks" oI f29 e29)
  (h30:Dh K "common_multiple" ja f30 e30)
  (h31:Dh K "common_bottom" kn f31 e31)
  (h32:Dh K "tops_over" qE f32 e32)
  (h33:Dh K "lowest" zT f33 e33)
  (h34:Dh K "row_dot" wO f34 e34)
  (h35:Dh K "grid_on" wW f35 e35)
  (a36:W.findIn K (.ref C) "seen"=some (some (.ref f36))) (i36:W.isFn K (.ref f36)=true) (l36:K.lookup f36=some ⟨oc36,od36,.func (W.fnOf "seen" "System.seen" (jt fQ) (gW fQ) (aH fQ) .none kV36 dc36 pm36 an36 cd36 ct36),sl36⟩) (c36:W.codeIn K cd36 "System.seen"=true) (k36:W.keepIn K (.ref f36)=true)
  (h37:Dh K "grid_turned" mK f37 e37)
  (a38:W.findIn K (.ref C) "moved"=some (some (.ref f38))) (i38:W.isFn K (.ref f38)=true) (l38:K.lookup f38=some ⟨oc38,od38,.func (W.fnOf "moved" "System.moved" (jt fw) (gW fw) (aH fw) .none kV38 dc38 pm38 an38 cd38 ct38),sl38⟩) (c38:W.codeIn K cd38 "System.moved"=true) (k38:W.keepIn K (.ref f38)=true)
  (h39:Dh K "course" zV f39 e39)
  (h40:Dh K "looks_along" mJ f40 e40)
  (h41:Dh K "nought_row" oz f41 e41)
  (h42:Dh K "minus" DO f42 e42)
  (h43:Dh K "row_minus" qG f43 e43)
  (h44:Dh K "first_with" oB f44 e44)
  (h45:Dh K "cleared" wX f45 e45)
  (h46:Dh K "brought_up" oC f46 e46)
  (h47:Dh K "swept" DK f47 e47)
  (h48:Dh K "solved" zS f48 e48)
  (h49:Dh K "solve" DM f49 e49)
  (h50:Dh K "flat" GW f50 e50)
  (h51:Dh K "moved_rows" oA f51 e51)
  (h52:Dh K "additions" qI f52 e52)
  (a53:W.findIn K (.ref C) "turned"=some (some (.ref f53))) (i53:W.isFn K (.ref f53)=true) (l53:K.lookup f53=some ⟨oc53,od53,.func (W.fnOf "turned" "System.turned" (jt eK) (gW eK) (aH eK) .none kV53 dc53 pm53 an53 cd53 ct53),sl53⟩) (c53:W.codeIn K cd53 "System.turned"=true) (k53:W.keepIn K (.ref f53)=true)
  (h54:Dh K "cut" Le f54 e54)
  (h55:Dh K "reduced" wQ f55 e55)
  (h56:Dh K "reach_grown" mI f56 e56)
  (h57:Dh K "reach_rows" oy f57 e57)
  (h58:Dh K "unit_row" tY f58 e58)
  (h59:Dh K "leading_place" kj f59 e59)
  (h60:Dh K "leading" wV f60 e60)
  (h61:Dh K "null_at" wU f61 e61)
  (h62:Dh K "free_places" mL f62 e62)
  (h63:Dh K "nulls" DN f63 e63)
  (h64:Dh K "unseen_rows" mH f64 e64)
  (h65:Dh K "times" DJ f65 e65)
  (h66:Dh K "row_times" qF f66 e66)
  (h67:Dh K "without" wN f67 e67)
  (h68:Dh K "starts" zR f68 e68)
  (h69:Dh K "_law_is_number" jI f69 e69)
  (h70:Dh K "_law_is_row" mP f70 e70)
  (h71:Dh K "_law_is_grid" k9 f71 e71)
  (h72:Dh K "_law_quot" qL f72 e72)
  (h73:Dh K "_law_less" qS f73 e73)
  (h74:Dh K "_law_minus" oH f74 e74)
  (h75:Dh K "_law_reduced" k6 f75 e75)
  (h76:Dh K "_law_unseen_right" hZ f76 e76)
  (h77:Dh K "_law_look_rows" jH f77 e77)
  (h78:Dh K "_law_leads" oJ f78 e78)
  (h79:Dh K "_law_any_right" jJ f79 e79)
  (h80:Dh K "_law_told" qJ f80 e80)
  (h81:Dh K "law" Ld f81 e81)
  {m0:Addr} {mo0:Option Addr} {mn0:Nat} {ms0:Array (Option Value)} {mt0_0 mt0_1:Tok} (ca0:W.nsIn K mainGlobals "NOUGHT"=some (some (.ref m0))) (cl0:K.lookup m0=some ⟨.type "tuple",mo0,.seq #[.int 0 mt0_0,.int 1 mt0_1] mn0,ms0⟩)
  {m1:Addr} {mo1:Option Addr} {mn1:Nat} {ms1:Array (Option Value)} {mt1_0 mt1_1:Tok} (ca1:W.nsIn K mainGlobals "ONE"=some (some (.ref m1))) (cl1:K.lookup m1=some ⟨.type "tuple",mo1,.seq #[.int 1 mt1_0,.int 1 mt1_1] mn1,ms1⟩)
  {it0:Tok} (ci0:W.nsIn K mainGlobals "MOST_STATES"=some (some (.int 8 it0)))
  {it1:Tok} (ci1:W.nsIn K mainGlobals "MOST_PUTS"=some (some (.int 4 it1)))
  {it2:Tok} (ci2:W.nsIn K mainGlobals "MOST_LOOKS"=some (some (.int 4 it2)))
  (pg:W.plainGet K C Str.empty=true) (hd:W.hasDictIn K C=true) (po:W.plainOver K C=true) (sa:W.findIn K (.ref C) "__setattr__"=some (some (.builtin "object.__setattr__"))) (mk:W.makesIn K C=true) (kc:W.keepIn K (.ref C)=true)
  (n_move:W.findIn K (.ref C) "move"=some none)
  (n_states:W.findIn K (.ref C) "states"=some none)
  (n_put:W.findIn K (.ref C) "put"=some none)
  (n_ins:W.findIn K (.ref C) "ins"=some none)
  (n_look:W.findIn K (.ref C) "look"=some none)
  (n_outs:W.findIn K (.ref C) "outs"=some none)
  (z_abs:W.nsIn K mainGlobals "abs"=some none)
  (z_len:W.nsIn K mainGlobals "len"=some none)
  (z_range:W.nsIn K mainGlobals "range"=some none)
  (z_int:W.nsIn K mainGlobals "int"=some none)
  (z_min:W.nsIn K mainGlobals "min"=some none)
  (z_isinstance:W.nsIn K mainGlobals "isinstance"=some none)
  (z_list:W.nsIn K mainGlobals "list"=some none)
  (z_bool:W.nsIn K mainGlobals "bool"=some none)
  (z_tuple:W.nsIn K mainGlobals "tuple"=some none)
  (z_all:W.nsIn K mainGlobals "all"=some none)
  (z_enumerate:W.nsIn K mainGlobals "enumerate"=some none)
  (z_zip:W.nsIn K mainGlobals "zip"=some none)
  (z_sum:W.nsIn K mainGlobals "sum"=some none)
  : ∃fd:FuncData,(∀(s:Shared) (v:Value),BindsTo s fd ⟨[v],[]⟩ [("_law_script",v)])/\∀base:Heap,K.In base->base.Ns mainGlobals mg->cC l.prog w K mg base eY 12 fa fd ["_law_script"] (zG K):=by
 have e:=hfa.symm.trans (W.mg_of X G h81.a);cases e;obtain ⟨_,_,_,_,_,_,_,_,_,rfl,_,_⟩:=h81.F.ex;have F21:=AG (st:=dI) l21 c21 k21;have F36:=AG (st:=fQ) l36 c36 k36;have F38:=AG (st:=fw) l38 c38 k38;have F53:=AG (st:=eK) l53 c53 k53
 have T:Txt K mg ⟨f0,_,f1,_,f2,_,f3,_,f4,_,f5,_,f6,_,f7,_,f8,_,f9,_,f10,_,f11,_,f12,_,f13,_,f14,_,f15,_,f16,_,f17,_,f18,_,f19,_,f20,_,f21,_,f22,_,f23,_,f24,_,f25,_,f26,_,f27,_,f28,_,f29,_,f30,_,f31,_,f32,_,f33,_,f34,_,f35,_,f36,_,f37,_,f38,_,f39,_,f40,_,f41,_,f42,_,f43,_,f44,_,f45,_,f46,_,f47,_,f48,_,f49,_,f50,_,f51,_,f52,_,f53,_,f54,_,f55,_,f56,_,f57,_,f58,_,f59,_,f60,_,f61,_,f62,_,f63,_,f64,_,f65,_,f66,_,f67,_,f68,_,f69,_,f70,_,f71,_,f72,_,f73,_,f74,_,f75,_,f76,_,f77,_,f78,_,f79,_,f80,_,fa,_,m0,m1,it0,it1,it2,C⟩:={
  rC:=h0.D X G
  bx:=h1.D X G
  d4:=h2.D X G
  iN:=h3.D X G
  kI:=h4.D X G
  gV:=h5.D X G
  iH:=h6.D X G
  jX:=h7.D X G
  o6:=h8.D X G
  m3:=h9.D X G
  lO:=h10.D X G
  gQ:=h11.D X G
  o5:=h12.D X G
  m4:=h13.D X G
  m6:=h14.D X G
  jk:=h15.D X G
  mh:=h16.D X G
  eU:=h17.D X G
  oT:=h18.D X G
  xn:=h19.D X G
  gO:=h20.D X G
  jv:=F21.binds (ps:=["self","move","put","look"]) λ_ _ _ _ _ _=>by refine ln4 ?_;intros;rfl
  mC:=F21
  eC:=h22.D X G
  lN:=h23.D X G
  mZ:=h24.D X G
  oY:=h25.D X G
  kb:=h26.D X G
  oZ:=h27.D X G
  o3:=h28.D X G
  jZ:=h29.D X G
  iG:=h30.D X G
  fB:=h31.D X G
  jm:=h32.D X G
  jL:=h33.D X G
  oS:=h34.D X G
  oU:=h35.D X G
  rG:=⟨a36,i36,k36⟩
  tD:=F36.binds (ps:=["self","state"]) λ_ _ _ _ _ _=>by refine ln2 ?_;intros;rfl
  tT:=F36
  gN:=h37.D X G
  pN:=⟨a38,i38,k38⟩
  rO:=F38.binds (ps:=["self","state","puts"]) λ_ _ _ _ _ _=>by refine ln3 ?_;intros;rfl
  rX:=F38
  xo:=h39.D X G
  lK:=h40.D X G
  ig:=h41.D X G
  vd:=h42.D X G
  kH:=h43.D X G
  mX:=h44.D X G
  uv:=h45.D X G
  mY:=h46.D X G
  u6:=h47.D X G
  rZ:=h48.D X G
  Ar:=h49.D X G
  yW:=h50.D X G
  jW:=h51.D X G
  oV:=h52.D X G
  jN:=⟨a53,i53,k53⟩
  kr:=F53.binds (ps:=["self"]) λ_ _ _ _ _ _=>by refine ln1 ?_;intros;rfl
  pT:=F53
  HM:=h54.D X G
  lI:=h55.D X G
  lJ:=h56.D X G
  mW:=h57.D X G
  rB:=h58.D X G
  jM:=h59.D X G
  lL:=h60.D X G
  uu:=h61.D X G
  lM:=h62.D X G
  As:=h63.D X G
  lG:=h64.D X G
  Aq:=h65.D X G
  oR:=h66.D X G
  uq:=h67.D X G
  xm:=h68.D X G
  jr:=h69.D X G
  jq:=h70.D X G
  ko:=h71.D X G
  oX:=h72.D X G
  o7:=h73.D X G
  jY:=h74.D X G
  iq:=h75.D X G
  gP:=h76.D X G
  jo:=h77.D X G
  m5:=h78.D X G
  js:=h79.D X G
  oW:=h80.D X G
  O8:=h81.F
  abs:=W.mg_none_of X G z_abs
  len:=W.mg_none_of X G z_len
  range:=W.mg_none_of X G z_range
  int:=W.mg_none_of X G z_int
  min:=W.mg_none_of X G z_min
  isinstance:=W.mg_none_of X G z_isinstance
  list:=W.mg_none_of X G z_list
  bool:=W.mg_none_of X G z_bool
  tuple:=W.mg_none_of X G z_tuple
  all:=W.mg_none_of X G z_all
  enumerate:=W.mg_none_of X G z_enumerate
  zip:=W.mg_none_of X G z_zip
  sum:=W.mg_none_of X G z_sum
  mg_NOUGHT:=W.mg_of X G ca0
  sq_NOUGHT:=λH=>.inr ⟨_,_,_,cl0,rfl,rfl,iU rfl,.cons ⟨_,rfl⟩ (.cons ⟨_,rfl⟩ (.nil))⟩
  mg_ONE:=W.mg_of X G ca1
  sq_ONE:=λH=>.inr ⟨_,_,_,cl1,rfl,rfl,iU rfl,.cons ⟨_,rfl⟩ (.cons ⟨_,rfl⟩ (.nil))⟩
  mg_MOST_STATES:=W.mg_of X G ci0
  mg_MOST_PUTS:=W.mg_of X G ci1
  mg_MOST_LOOKS:=W.mg_of X G ci2
  mg_System:=W.mg_of X G aC
  cl_System:=⟨pg,hd,po,sa⟩
  na_move:=n_move
  na_states:=n_states
  na_put:=n_put
  na_ins:=n_ins
  na_look:=n_look
  na_outs:=n_outs
  mk_System:=⟨mk,a21,i21,kc⟩ }
 exact ⟨_,λs v=>.of_eq rfl,λbase _ _=>Qd T htree⟩
theorem walk {l:W.OpenLaw} {q:Program} {loose:List Str} {XP:(Str->Option Value)->Heap->Prop} {YP:World->Heap->Prop} {d:DefRec} {K:Params->W.Frag} (hn:l.most=some 63) (hdf:d.params.defaults=[])
  (hi:PyProof.Rows.importsNone q=true)
  (hY:∀(w:World) (h:Heap),YP w h->(K w.params).In h)
  (F:∀(w:World) (mg:Str->Option Value) (fa:Addr) (h:Heap),(K w.params).In h->h.Ns mainGlobals mg->mg d.name=some (.ref fa) →
   ∃fd:FuncData,(∀(s:Shared) (u:Value),BindsTo s fd ⟨[u],[]⟩ [("_law_script",u)])/\∀base:Heap,(K w.params).In base->base.Ns mainGlobals mg->cC l.prog w (K w.params) mg base eY 12 fa fd ["_law_script"] (zG (K w.params))) :
  W.WalkO q loose XP YP l.row.toRowW d [] (λf vs=>PySem.call f vs) :=
 L2.M5 (n:=63) (k:=12) (x:="_law_script") (CX:=λ_=>eY) (sp:=λw=>zG (K w.params)) hn (by decide) hdf ⟨rfl,by decide,by decide⟩ hi hY F (λ_ _ a ns hl _ hS=>⟨a,ns,rfl,hS,hl,λ_=>rfl⟩) λ_ _ _ _ _ z=>z
end Lw
namespace PySem.W.Fast
def tw12971171765978226192:=()
def tw6999775462254646759:=()
def tw17245669155708459659:=()
def tw14615702928589971951:=()
def tw5210191092987521525:=()
def tw14317704494549462302:=()
def tw12341853338849675240:=()
def tw8930828759328540150:=()
def tw13840144674217866807:=()
def tw9936991694278072307:=()
def tw13948083508642043191:=()
def tw16524722293606385465:=()
def tw6121904439920860027:=()
def tw9461336445044362907:=()
def tw10043929580629169269:=()
def tw8641525891620915528:=()
def tw3914848636030851967:=()
def tw14382676860910364307:=()
def tw6266944745586897848:=()
def tw16346068756576930253:=()
def tw12287909697780172615:=()
def tw7831823357960586825:=()
def tw17901405318949608276:=()
def tw11416745690843439361:=()
def tw4573768309317024649:=()
def tw1953942834537495889:=()
def tw12323147115842075186:=()
def tw6815935639697276065:=()
def tw13498036158247603762:=()
def tw15561503904171105627:=()
def tw9757424733799499949:=()
def tw17850281183339184986:=()
def tw4815265795979159452:=()
def tw13535084734733683680:=()
def tw6431780447179031692:=()
def tw15779828334388369753:=()
def tw10660694081176216571:=()
def tw16666769965112177291:=()
def tw15637487431375801819:=()
def tw13244216063375774219:=()
def tw13509952961773478104:=()
def tw10999587112795405587:=()
def tw9779912560491769314:=()
def tw13250265536725096818:=()
def tw16074538576749340120:=()
def tw3037651247092601679:=()
def tw7157645017913152805:=()
def tw2155993759567763032:=()
def tw13236510142214137840:=()
def tw17789649162242008233:=()
def tw13091529803702588274:=()
def tw3166344463192180162:=()
def tw12269972429815840722:=()
def tw9301381402080960988:=()
def tw6520340741693666297:=()
def tw9680460501710651380:=()
def tw10676062012301238654:=()
def tw13855565724319044305:=()
def tw9623255165086511779:=()
def tw3058980447124957542:=()
def tw2500347713011489275:=()
def tw7232396497016667565:=()
def tw554723391079046894:=()
def tw6223768658141124446:=()
def tw9733951496059805414:=()
def tw10808973221231361881:=()
def tw13232807003828053765:=()
def tw16443459219561273008:=()
def tw17451030638081731439:=()
def tw2122502708087701040:=()
def tw14843743996506020192:=()
def tw12813237262392572357:=()
def tw13061110241146387913:=()
def tw11239479224766333753:=()
def tw17814471399335010429:=()
def tw2715744301649332486:=()
def tw8014388350248427783:=()
def tw9104744116205783355:=()
def tw8901118935511880323:=()
def tw11146200949051340318:=()
def tw8860080746336702699:=()
def tw7612959266800223756:=()
def tw3326253337617582111:=()
def tw9810844153476973856:=()
def tw17218126846138521248:=()
def tw15426490480092709684:=()
def tw5409949356825120367:=()
def tw912718973242281501:=()
def tw1865632440478550946:=()
def tw16364556585645209333:=()
def tw17104682228326884628:=()
def tw5399379271591072989:=()
def tw1140335734700854450:=()
def tw15514733151420832202:=()
def tw9445925327927908856:=()
def tw15477398243942068708:=()
def tw15724037917738763705:=()
def tw1291554807528288220:=()
def tw11457745160794664496:=()
def tw2520568376166131489:=()
def tw13098306764575956385:=()
def tw8862253847330203477:=()
def tw5862968106440571805:=()
def tw9865576893835808110:=()
def tw2796385491419339868:=()
def tw7966288303044126197:=()
def tw12653020917906014671:=()
def tw15490055856926730608:=()
def tw11999955348427590445:=()
def tw12688801404701640188:=()
def tw8004540994899522673:=()
def tw1431840033714034126:=()
def tw18091318707680526471:=()
def tw3913653866488817218:=()
def tw14568699567605790249:=()
def tw3832075048623044048:=()
def tw15702965928217336180:=()
def tw5065937105091638252:=()
def tw10164100333799987621:=()
def tw14222057202383694938:=()
def tw5737220451520461476:=()
def tw5054654744523007267:=()
def tw11307936358633117743:=()
def tw6780660647158275534:=()
def tw9996501198862994738:=()
def tw2571530663396240348:=()
def tw10397084124890957557:=()
def tw14007656433012006571:=()
def tw2830746242214238474:=()
def tw16492687865074797222:=()
def tw5174921425566870573:=()
def tw8128831116872747756:=()
def tw8010199042457661324:=()
def tw1673887194255235859:=()
def tw12577126409638444436:=()
def tw9511116349423693053:=()
def tw9939671307650322431:=()
def tw12310313493119373967:=()
def tw10111635738071696632:=()
def tw3156429184849824934:=()
def tw1995848433505078832:=()
def tw5356277870628007828:=()
def tw8278948393671309300:=()
def tw5408847396780554181:=()
def tw752534021337352877:=()
def tw11887917217675628723:=()
def tw2484750335701924749:=()
def tw15365635888935679208:=()
def tw2727580695040099257:=()
def tw16566112227601370449:=()
def tw17764059248747252985:=()
def tw13430905491245707983:=()
def tw9743171012706037828:=()
def tw6192032523168152514:=()
def tw1165259111598262952:=()
def tw2612233640325461124:=()
def tw987078293571020775:=()
def tw10251573682148758384:=()
def tw5834517290948560096:=()
def tw3740013427058864943:=()
def tw4007011243807551712:=()
def tw10532710981644825920:=()
def tw8728637945816787987:=()
def tw4713165859149727667:=()
def tw8330321436428549823:=()
def tw9043225589653072558:=()
def tw4230835574359207133:=()
def tw15574512049822027070:=()
def tw1450288350033715688:=()
def tw2463929579890593908:=()
def tw17754012808576977205:=()
def tw18287830998975012569:=()
def tw5280225374816890675:=()
def tw7193530677433614777:=()
def tw4166407939374594887:=()
def tw11798284690343677899:=()
def tw7114945448163570369:=()
def tw6552238971631067658:=()
def tw1017979014770557701:=()
def tw17055682419336481680:=()
def tw6092734723950942352:=()
def tw15057715034921040306:=()
def tw6559317221992363882:=()
def tw1453607051440367748:=()
def tw15754598402975004994:=()
def tw7009005893794090079:=()
def tw4486631577413626468:=()
def tw3051255714660023790:=()
def tw2713969990236695813:=()
def tw3808211981139875162:=()
def tw15321632297122911398:=()
def tw762573413004197202:=()
def tw1448622831836460191:=()
def tw2165540281111507067:=()
def tw13386701963261506521:=()
def tw10047297878009714450:=()
def tw5308043495266166763:=()
def tw7823202824705432328:=()
def tw3947392484907429495:=()
def tw4998731866553532466:=()
def tw17358281793150352100:=()
def tw5365876563795800908:=()
def tw16471028040511036371:=()
def tw8091974717671625206:=()
def tw9690163325265275792:=()
def tw10040365662598111749:=()
def tw10814163526694108321:=()
def tw1548287791078940018:=()
def tw15662043210220054798:=()
def tw6730426429343417001:=()
def tw10693095266598058284:=()
def tw5491092277270995139:=()
def tw13675450752944928332:=()
def tw635792863026859667:=()
def tw8960923031282619789:=()
def tw9966847679868951549:=()
def tw16723102238356724822:=()
def tw9893942233550091539:=()
def tw15008154427409159389:=()
def tw16513097423113775577:=()
def tw14513494658953528917:=()
def tw16589087880325246467:=()
def tw6938840119980648619:=()
def tw4789230156749016464:=()
def tw583382145254387587:=()
def tw9185694192493286547:=()
def tw6568558043567343148:=()
def tw13832153372073916662:=()
def tw9947874132927902416:=()
def tw15621573645243933190:=()
def tw10915211707156132579:=()
def tw11467342550324911909:=()
def tw6823488013998973276:=()
def tw17828092889481445360:=()
def tw12703676109715358787:=()
def tw1599612257319773685:=()
def tw7708414304932689439:=()
def tw14667187094497806148:=()
def tw16355934743774840938:=()
def tw8450793336266341767:=()
def tw15543350975200537687:=()
def tw6079448004731800997:=()
def tw4768149616647678666:=()
def tw6296345183595481114:=()
def tw654201662742493510:=()
def tw16383704730331301629:=()
def tw4778807467912989797:=()
def tw7426907709554276824:=()
def tw14290169157476764064:=()
def tw3196038160113308138:=()
def tw1754741564013077524:=()
def tw11712245006952948180:=()
def tw14298025604616531137:=()
def tw18010671155334941561:=()
def tw4305166641023437512:=()
def tw7695009377104547578:=()
def tw9522007581285754265:=()
def tw7893497599468810222:=()
def tw16376616572188322349:=()
def tw9342520795364977399:=()
def tw15537402895235608280:=()
def tw18192097187521993967:=()
def tw334957313255017074:=()
def tw10163057611061719455:=()
def tw8754802841018154615:=()
def tw12507696261701010995:=()
def tw1685921908764339068:=()
def tw15100600952016941032:=()
def tw5094458561394994595:=()
def tw9585385003970500446:=()
def tw15573010397479844471:=()
def tw15394065578563954554:=()
def tw3682397048326698279:=()
def tw8906869254084787728:=()
def tw12994920533323855779:=()
def tw13311342547353049948:=()
def tw8685824676650249487:=()
def tw10194857201456140731:=()
def tw2292813971880733281:=()
def tw14691857938069695292:=()
def tw15037002837943756688:=()
def tw10848759868691073214:=()
def tw11824377525938423653:=()
def tw16355029211431140949:=()
def tw4409148024698275761:=()
def tw5993498649135099738:=()
def tw9811247266003829120:=()
def tw4300295540556698974:=()
def tw11773258063735061878:=()
def tw1397544909348948419:=()
def tw2127434171503118670:=()
def tw6730985552589400384:=()
def tw16176613189039877742:=()
def tw7380620405430566164:=()
def tw12701988718983257678:=()
def tw1053655721448031459:=()
def tw6543030180566140429:=()
def tw13620176886381739603:=()
def tw200547320461872894:=()
def tw16275852829955814824:=()
def tw13312063946758220042:=()
def tw14664844621135673493:=()
def tw3843510824023295123:=()
def tw5532506321651136071:=()
def tw13743306619491448542:=()
def tw15333568993532793001:=()
def tw9274286686841022276:=()
def tw16687694966735973087:=()
def tw16477789466794726801:=()
def tw11471469900582648711:=()
def tw7399092316393879993:=()
def tw16813598222494889136:=()
def tw5543948649779667686:=()
def tw17345501959866023307:=()
def tw8804519653281837261:=()
def tw10494630580223181319:=()
def tw1000483067624613406:=()
def tw13877624156093923548:=()
def tw15768712147366246120:=()
def tw1083939784371276922:=()
def tw7315658466645498875:=()
def tw1338655261708755446:=()
def tw8368271420180281535:=()
def tw8627689629574615754:=()
def tw3544173769772229682:=()
def tw13638618110643988379:=()
def tw663436873907398949:=()
def tw6243069205622970455:=()
def tw9353406582943684094:=()
def tw17971878972898570245:=()
def tw6381326292174577532:=()
def tw620573074213385175:=()
def tw11135744840567455896:=()
def tw10944198057097784531:=()
def tw9666479710483903047:=()
def tw7670339141762526931:=()
def tw16391126627133440444:=()
def tw14229423154227368161:=()
def tw14570690022453068492:=()
def tw698940204345063775:=()
def tw14734939750617262140:=()
def tw12274527406080799656:=()
def tw139744200809864195:=()
def tw10586268788452921749:=()
def tw6227923940376975170:=()
def tw5048837936334273151:=()
def tw18430519032457073389:=()
def tw9745377833406169497:=()
def tw3546826100684769092:=()
def tw9187439188053230397:=()
def tw1758709860392024019:=()
def tw13095249455697103778:=()
def tw1386273175273765398:=()
def tw11791153261015928468:=()
def tw9423565623951097168:=()
def tw11661446325770711986:=()
def tw13529316376305993445:=()
def tw11995162037792367259:=()
def tw5984914428686381731:=()
def tw1998143612139967820:=()
def tw12016096824027497109:=()
def tw17548793955057912516:=()
def tw3662126846035340713:=()
def tw12658099977558533136:=()
def tw32635133490761742:=()
def tw7826397986919105741:=()
def tw7587533529000596197:=()
def tw8246024909213426824:=()
def tw3039723376564015377:=()
def tw1975356433798147707:=()
def tw652768485743961228:=()
def tw6404341039307531702:=()
def tw196939095463609301:=()
def tw11220930640456340494:=()
def tw2265603500725451531:=()
def tw15994789932622772905:=()
def tw9757246710155245098:=()
def tw17247563983959978725:=()
def tw7713119706357489614:=()
def tw15673074175459023324:=()
def tw10446940162497206104:=()
def tw361702841623405015:=()
def tw587042836582737541:=()
def tw10173016715030097400:=()
def tw15869358237187246914:=()
def tw14723379670352568262:=()
def tw12306701643505560130:=()
def tw12276499023556958528:=()
def tw17837903333595709779:=()
def tw12164627655517577796:=()
def tw17325386059329634734:=()
def tw3041279437553468704:=()
def tw2477585871453309985:=()
def tw17535702367197351790:=()
def tw8815736904518843166:=()
def tw13465411928620858205:=()
def tw16234793569575385148:=()
def tw5462349982872997457:=()
def tw14441577367817275090:=()
def tw9554922361735761510:=()
def tw5571031425552581381:=()
def tw15166527521692764579:=()
def tw12828301024718799102:=()
def tw11503368942650204360:=()
def tw17032360365481107026:=()
def tw617108775247795351:=()
def tw15986028892985734082:=()
def tw17999243602259975892:=()
def tw754842899988339978:=()
def tw14792039937610533393:=()
def tw15050136991578660589:=()
def tw16615771639968170863:=()
def tw1072687546569917476:=()
def tw12866117598118845991:=()
def tw6548452670000175937:=()
def tw12119772675074173795:=()
def tw9801839143013974672:=()
def tw4249994297230891302:=()
def tw3580524252856637730:=()
def tw7209545143876290173:=()
def tw2823212687610146251:=()
def tw17252743423767121129:=()
def tw14955066016377698650:=()
def tw9156599971823777560:=()
def tw13869648777081410413:=()
def tw15267135909763925158:=()
def tw12648223756336387458:=()
def tw4933993255332241683:=()
def tw5467843425702356071:=()
def tw12050404073354728627:=()
def tw17634958433684520625:=()
def tw15228071455131379198:=()
def tw597083892169694397:=()
def tw736206244149850436:=()
def tw10494206482453949438:=()
def tw10471471756854792208:=()
def tw8378196434539313520:=()
def tw9966582135041107846:=()
def tw15049958893772506612:=()
def tw5103877293182394829:=()
def tw2621039430194983498:=()
def tw7034371493916605057:=()
def tw17069143744261872165:=()
def tw9913395437755266504:=()
def tw2197416164011117248:=()
def tw5522478559381288918:=()
def tw16351644713475707541:=()
def tw8693639182003893420:=()
def tw16558267941648335536:=()
def tw7868306733858705950:=()
def tw9965824588315453283:=()
def tw17871287481717279314:=()
def tw11103004092795988464:=()
def tw10519597617188341157:=()
def tw3612740213534058402:=()
def tw3583339986750738971:=()
def tw6881622970514408408:=()
def tw16753866300056780157:=()
def tw13131929264985428989:=()
def tw9994391050839483498:=()
theorem te12971171765978226192:True:=trivial
end PySem.W.Fast
open PySem PySem.W PyProof.Rows
set_option maxRecDepth 100000 in
set_option maxHeartbeats 0 in
theorem PySem.Challenge.cw_helmsum_k53_starts_holds : PySem.Challenge.rw_helmsum_k53_starts.Holds := by
 w_on;o_law;k_head;(case hw=>w_witness2)
 k_fill
 refine Lw.walk (l:=PySem.Challenge.rw_helmsum_k53_starts) rfl rfl ?hi (λw h Y=>PySem.W.kIn_of Y) ?F
 case hi=>decide +kernel
 case F =>
  intro w mg fa h KX G hmg;refine' Lw.all_mk KX G hmg rfl ?aC ?_ ?_ ?_ ?_ ?_ ?_ ?_ ?_ ?_ ?_ ?_ ?_ ?_ ?_ ?_ ?_ ?_ ?_ ?_ ?_ ?_ ?a21 ?i21 ?l21 ?c21 ?k21 ?_ ?_ ?_ ?_ ?_ ?_ ?_ ?_ ?_ ?_ ?_ ?_ ?_ ?_ ?a36 ?i36 ?l36 ?c36 ?k36 ?_ ?a38 ?i38 ?l38 ?c38 ?k38 ?_ ?_ ?_ ?_ ?_ ?_ ?_ ?_ ?_ ?_ ?_ ?_ ?_ ?_ ?a53 ?i53 ?l53 ?c53 ?k53 ?_ ?_ ?_ ?_ ?_ ?_ ?_ ?_ ?_ ?_ ?_ ?_ ?_ ?_ ?_ ?_ ?_ ?_ ?_ ?_ ?_ ?_ ?_ ?_ ?_ ?_ ?_ ?_ ?ca0 ?cl0 ?ca1 ?cl1 ?ci0 ?ci1 ?ci2 ?pg ?hd ?po ?sa ?mk ?kc ?n_move ?n_states ?n_put ?n_ins ?n_look ?n_outs ?z_abs ?z_len ?z_range ?z_int ?z_min ?z_isinstance ?z_list ?z_bool ?z_tuple ?z_all ?z_enumerate ?z_zip ?z_sum
  all_goals try refine' Si ?_ ?_ ?_ ?_
  all_goals try k_is