import PyProof.Rows.All
import Wide.All
import OpenK.AllK
import Wide.FinOn
import Lean
import PyProof.EqAt
import PyProof.EqKinds
import PyProof.TupleCall
import PyProof.NeKinds
import PySem.Challenge.RW_helmsum_k52_told_or_alike
set_option Elab.async false
set_option linter.all false
set_option maxRecDepth 100000
abbrev aa:=@List.getD_eq_getElem?_getD
abbrev ag:=@List.getElem?_eq_getElem
abbrev ah:=@Nat.le_trans
abbrev aj:=@Nat.pow_le_pow_right
abbrev ao:=@List.length_map
abbrev av:=@Nat.le_refl
abbrev aw:=@List.length_append
abbrev ax:=@List.mem_append
abbrev ay:=@List.mem_of_getElem?
abbrev aA:=@Nat.mul_le_mul_right
abbrev aD:=@List.mem_map
abbrev aE:=@Nat.mul_le_mul
abbrev aF:=@List.length_replicate
abbrev aG:=@List.mem_cons
abbrev aH:=@List.getElem?_eq_some_iff
abbrev aI:=@List.take_of_length_le
abbrev aJ:=@List.size_toArray
abbrev aM:=@Rat.intCast_natCast
abbrev aN:=@List.getElem?_map
abbrev aO:=@Nat.pow_add
abbrev aP:=@Nat.mul_le_mul_left
abbrev aQ:=@Rat.intCast_mul
abbrev aS:=@List.getElem?_eq_none
abbrev aT:=@List.getElem_mem
abbrev aW:=@List.getElem?_append_right
abbrev aX:=@Bool.false_ne_true
abbrev aY:=@Nat.zero_le
abbrev aZ:=@List.not_mem_nil
abbrev ba:=@List.length_cons
abbrev bp:=@Nat.le_of_lt
abbrev bA:=@Nat.lt_of_le_of_lt
abbrev bF:=@List.getElem?_append_left
abbrev bG:=@Nat.lt_of_lt_of_le
abbrev bH:=@PySem.boot_len
abbrev bI:=@List.length_singleton
abbrev bM:=@Int.natAbs_natCast
abbrev bP:=@List.mem_cons_of_mem
abbrev bR:=@List.mem_append_right
abbrev bU:=@Nat.mul_comm
abbrev bW:=@List.mem_singleton
abbrev bY:=@Nat.mul_pos
abbrev b7:=@Nat.ne_of_lt
abbrev b8:=@Int.eq_ofNat_of_zero_le
abbrev cb:=@List.append_assoc
abbrev cg:=@Option.some.inj
abbrev ck:=@List.length_zipWith
abbrev cw:=@Nat.mul_assoc
abbrev cx:=@List.mem_or_eq_of_mem_set
abbrev cz:=@List.getElem_of_mem
abbrev cC:=@List.mem_of_mem_take
abbrev cD:=@List.length_range
abbrev cE:=@Nat.one_le_two_pow
abbrev cF:=@Int.natAbs_mul
abbrev cG:=@Int.fdiv_eq_ediv_of_nonneg
abbrev cI:=@PySem.F.plainAttrs_list
abbrev cJ:=@Nat.le_mul_of_pos_right
abbrev cM:=@Nat.le_mul_of_pos_left
abbrev cU:=@List.getElem?_zipWith
abbrev cW:=@List.nil_append
abbrev cX:=@List.getElem?_replicate
abbrev dh:=@Nat.lt_or_ge
abbrev di:=@List.mem_replicate
abbrev dk:=@List.mem_cons_self
abbrev dm:=@Rat.intCast_neg
abbrev dn:=@List.length_take
abbrev dr:=@Nat.succ_mul
abbrev du:=@List.nodup_append
abbrev dB:=@PySem.W.kia_one
abbrev dC:=@Rat.mul_comm
abbrev dD:=@List.ext_getElem
abbrev dH:=@PySem.F.type_list_append
abbrev dI:=@PySem.F.slot_list_append
abbrev dJ:=@Int.mul_assoc
abbrev dN:=@Rat.intCast_inj
abbrev dO:=@Nat.succ_le_succ
abbrev dP:=@Nat.pow_lt_pow_right
abbrev dQ:=@Bool.and_eq_true
abbrev dZ:=@Nat.lt_irrefl
abbrev d7:=@Nat.pow_le_pow_left
abbrev eC:=@Rat.natCast_mul
abbrev eE:=@List.nodup_cons
abbrev eF:=@List.length_set
abbrev eG:=@List.drop_eq_getElem_cons
abbrev eI:=@Int.natAbs_dvd_natAbs
abbrev eP:=@List.cons_append
abbrev eQ:=@Int.gcd_dvd_left
abbrev fg:=@Int.gcd_dvd_right
abbrev fh:=@List.map_append
abbrev fq:=@List.length_reverse
abbrev fu:=@List.flatten_append
abbrev fw:=@Nat.pow_succ
abbrev fz:=@Int.mul_comm
abbrev fG:=@List.getElem_map
abbrev fO:=@Bool.beq_eq_decide_eq
abbrev gH:=@Nat.not_lt_zero
abbrev gQ:=@Nat.sub_self
abbrev gR:=@Nat.pow_pos
abbrev gU:=@Nat.mul_add
abbrev gV:=@List.reverse_reverse
abbrev gW:=@List.flatten_cons
abbrev hJ:=@List.map_cons
abbrev iS:=@List.replicate_succ
abbrev iT:=@List.getElem?_range
abbrev iV:=@Nat.lt_succ_self
abbrev iW:=@List.mem_reverse
abbrev ji:=@Rat.mul_zero
abbrev jk:=@Int.emod_lt_of_pos
abbrev jl:=@Bool.false_eq_true
abbrev kx:=@Nat.lt_trichotomy
abbrev kz:=@List.getElem_zipWith
abbrev mE:=@Rat.zero_mul
abbrev mF:=@PySem.IsL.update
abbrev mG:=@List.lookup_cons
abbrev mH:=@Int.gcd_comm
abbrev mS:=@PySem.F.plain_extend_loop
abbrev mT:=@PySem.mem_of_lookup
abbrev mX:=@Nat.le_of_dvd
abbrev nU:=@Nat.min_eq_left
abbrev nV:=@Int.emod_nonneg
abbrev nW:=@Bool.eq_iff_iff
abbrev oj:=@Nat.eq_zero_or_pos
abbrev oN:=@Nat.pow_mul
abbrev oO:=@Int.dvd_mul_of_dvd_left
abbrev pU:=@Nat.min_self
abbrev pV:=@Int.natAbs_neg
abbrev qS:=@PySem.F.slot_zip_next
abbrev qT:=@List.all_eq_true
abbrev sN:=@Nat.le_succ
abbrev sO:=@List.mem_append_left
abbrev sP:=@Int.mul_pos
abbrev sR:=@List.append_nil
abbrev ux:=@List.map_congr_left
abbrev uX:=@List.map_map
abbrev vD:=@List.mem_range
abbrev vE:=@List.getElem_range
abbrev vF:=@Int.eq_of_mul_eq_mul_right
abbrev xo:=@Nat.one_mul
abbrev xp:=@List.reverse_cons
abbrev xt:=@List.map_id
abbrev xx:=@PySem.F.type_list_extend
abbrev xy:=@PySem.F.slot_list_extend
abbrev xA:=@List.getElem?_take_of_lt
abbrev yF:=@Rat.intCast_eq_zero_iff
abbrev yG:=@Nat.min_le_right
abbrev yH:=@Nat.le_add_right
abbrev yI:=@List.mem_flatten
abbrev yJ:=@Int.natCast_dvd_natCast
abbrev zh:=@Rat.add_zero
abbrev zi:=@PySem.W.cellsFrom_some
abbrev zj:=@Nat.add_comm
abbrev zm:=@Int.zero_add
abbrev AE:=@Rat.mul_eq_zero
abbrev AF:=@Rat.intCast_add
abbrev AG:=@List.range_succ
abbrev AH:=@List.map_const'
abbrev AI:=@List.length_zip
abbrev BF:=@Nat.add_le_add_right
abbrev BG:=@List.replicate_succ'
abbrev BH:=@List.nodup_nil
abbrev BI:=@List.forIn_nil
abbrev C3:=@PySem.W.plainGet_of
abbrev C4:=@List.filterMap_cons
abbrev D7:=@Int.natAbs_eq
abbrev Ea:=@PySem.W.callWith_K
abbrev Eb:=@List.append_of_mem
abbrev Gn:=@Nat.ne_of_gt
abbrev Gs:=@Nat.dvd_refl
abbrev Gu:=@List.ext_getElem?
abbrev Im:=@Nat.dvd_mul_left
abbrev Io:=@List.length_drop
abbrev Kz:=@Rat.mul_one
abbrev KA:=@Int.dvd_gcd
abbrev KE:=@List.of_mem_zip
abbrev KG:=@List.forIn_cons
abbrev KH:=@Int.gcd_pos_of_ne_zero_right
abbrev Ow:=@PySem.F.entry_extend_loop
abbrev Ox:=@List.getElem?_zip_eq_some
abbrev Oy:=@Int.natAbs_ediv_of_nonneg
abbrev OE:=@Option.isSome_iff_exists
abbrev OF:=@List.eq_of_mem_replicate
abbrev OG:=@List.all_cons
abbrev PR:=@PySem.F.args_zip_next_1
abbrev PU:=@Nat.add_sub_cancel_left
namespace L2
open PySem PySem.Spec PyProof.Rows
abbrev Key:=Sum Int Str
def MB:Key->Value->Bool
 | .inl k,v=>Value.isInt k v
 | .inr x,v=>Value.isStrOf x v
def Qh (w:World):Key->Int
 | .inl k=>hashInt k
 | .inr x=>hashStr w x
theorem ff:∀{k:Key} {v:Value},MB k v=true->(∃i t,k=Sum.inl i/\v=Value.int i t)\/(∃x t,k=Sum.inr x/\v=Value.str x t)
 | .inl i,v,h=>by
  obtain ⟨t,e⟩:=Value.isInt_shape (k:=i) (v:=v) h;exact .inl ⟨i,t,rfl,e⟩
 | .inr x,v,h=>by
  obtain ⟨t,e⟩:=Value.isStrOf_shape (x:=x) (v:=v) h;exact .inr ⟨x,t,rfl,e⟩
theorem N5 (a b:Int):decide ((Sum.inl a:Key)=Sum.inl b)=(a == b):=by
 by_cases e:a=b
 ·subst e;simp
 ·have h:¬(Sum.inl a:Key)=Sum.inl b:=fun q=>e (Sum.inl.inj q)
  rw[decide_eq_false h];exact (beq_eq_false_iff_ne.mpr e).symm
theorem N2 (a b:Str):decide ((Sum.inr a:Key)=Sum.inr b)=decide (a=b):=by
 by_cases e:a=b
 ·subst e;simp
 ·have h:¬(Sum.inr a:Key)=Sum.inr b:=fun q=>e (Sum.inr.inj q)
  rw[decide_eq_false h,decide_eq_false e]
theorem N4 (a:Int) (b:Str):decide ((Sum.inl a:Key)=Sum.inr b)=false:=decide_eq_false (fun q=>nomatch q)
theorem N3 (a:Str) (b:Int):decide ((Sum.inr a:Key)=Sum.inl b)=false:=decide_eq_false (fun q=>nomatch q)
def FE (prog:Program) (w:World):PySem.KeyKind prog w Key where
 is:=MB
 hash:=Qh w
 inj:=fun v a b ha hb=>by
  rcases ff ha with ⟨i,t,rfl,rfl⟩ | ⟨x,t,rfl,rfl⟩
  ·rcases ff hb with ⟨j,u,rfl,e⟩ | ⟨y,u,rfl,e⟩
   ·injection e with e1 _;rw[e1]
   ·exact nomatch e
  ·rcases ff hb with ⟨j,u,rfl,e⟩ | ⟨y,u,rfl,e⟩
   ·exact nomatch e
   ·injection e with e1 _;rw[e1]
 byValue:=fun k v h=>by
  rcases ff h with ⟨i,t,rfl,rfl⟩ | ⟨x,t,rfl,rfl⟩ <;> rfl
 pyHash:=fun hv h=>by
  rcases ff hv with ⟨i,t,rfl,rfl⟩ | ⟨x,t,rfl,rfl⟩
  ·exact wpAny_pyHash_int h
  ·exact wpAny_pyHash_str h
 eqBool:=fun hu hv h=>by
  rcases ff hu with ⟨i,t,rfl,rfl⟩ | ⟨x,t,rfl,rfl⟩
  ·rcases ff hv with ⟨j,u,rfl,rfl⟩ | ⟨y,u,rfl,rfl⟩
   ·rw[N5] at h;exact wpAny_eqBool_int h
   ·rw[N4] at h;exact SeqAt.EqAt.int_str i t y u _ _ _ _ h
  ·rcases ff hv with ⟨j,u,rfl,rfl⟩ | ⟨y,u,rfl,rfl⟩
   ·rw[N3] at h;exact SeqAt.EqAt.str_int x t j u _ _ _ _ h
   ·rw[N2] at h;exact wpAny_eqBool_str h
 «strs»:=fun k x t v h=>by
  rcases ff h with ⟨i,u,rfl,e⟩ | ⟨y,u,rfl,e⟩
  ·exact nomatch e
  ·injection e with e1 _
   subst e1;cases v <;> rfl
inductive V where
  | non | bl (b : Bool) | int (i : Int) | str (x : Str) | byt (b : Array UInt8) | flt (b : UInt64) | ref (a : Addr) | ty (n : String)
  deriving DecidableEq

def RelV:V->Value->Prop
 | .non,u=>u=Value.none
 | .bl b,u=>u=Value.bool b
 | .int i,u=>∃t,u=Value.int i t
 | .str x,u=>∃t,u=Value.str x t
 | .byt b,u=>∃t,u=Value.bytes b t
 | .flt b,u=>∃t,u=Value.float b t
 | .ref a,u=>u=Value.ref a
 | .ty n,u=>u=Value.type n
abbrev cL:List V->List Value->Prop:=Paired RelV
theorem cL.length {xs:List V} {us:List Value} (r:cL xs us):xs.length=us.length:=Paired.length r
theorem cL.get:∀{xs:List V} {us:List Value} {i:Nat} {x:V},cL xs us->xs[i]?=some x->∃u,us[i]?=some u/\RelV x u
 | _,_,_,_,.nil,e=>by simp at e
 | _,_,0,_,.cons r _,e=>by simp at e;subst e;exact ⟨_,rfl,r⟩
 | _,_,i+1,x,.cons _ t,e=>by
  obtain ⟨u,h1,h2⟩:=cL.get (i:=i) (x:=x) t (by simpa using e);exact ⟨u,by simpa using h1,h2⟩
theorem cL.set {x:V} {u:Value} (r:RelV x u):∀{xs:List V} {us:List Value} (i:Nat),cL xs us->cL (xs.set i x) (us.set i u)
 | _,_,_,.nil=>.nil
 | _,_,0,.cons _ t=>.cons r t
 | _,_,i+1,.cons q t=>.cons q (cL.set r i t)
theorem cL.append:∀{xs ys:List V} {us ws:List Value},cL xs us->cL ys ws->cL (xs++ys) (us++ws)
 | _,_,_,_,.nil,s=>s
 | _,_,_,_,.cons r t,s=>.cons r (cL.append t s)
theorem cL.take:∀{xs:List V} {us:List Value} (n:Nat),cL xs us->cL (xs.take n) (us.take n)
 | _,_,0,_=>.nil
 | _,_,_+1,.nil=>.nil
 | _,_,n+1,.cons r t=>.cons r (cL.take n t)
theorem cL.drop:∀{xs:List V} {us:List Value} (n:Nat),cL xs us->cL (xs.drop n) (us.drop n)
 | _,_,0,r=>r
 | _,_,_+1,.nil=>.nil
 | _,_,n+1,.cons _ t=>cL.drop n t
def AY:Option V->Option Value->Prop
 | some v,some u=>RelV v u
 | none,none=>True
 | _,_=>False
def KV {κ:Type}:List (κ×V)->List (κ×Value)->Prop:=Paired fun (p:κ×V) (q:κ×Value)=>p.1=q.1/\RelV p.2 q.2
def kV:Key->V
 | .inl i=>.int i
 | .inr x=>.str x
inductive HO where
 | lst (xs:List V)
 | tup (xs:List V)
 | dK (kvs:List (Key×V)) | dT (kvs:List (List Key×V))
 | set (S:Int->Bool) (n:Nat)
 | ins (C dx:Addr) (fs:List (Str×V))
 | own (x:Addr)
 | xd (fs:List (Str×V))
 | met (f x:Addr)
 | rng (lo hi:Int)
 | frz (o:Obj) (u:HO)
 | tbl (ps:Array Value)
 | ext (φ:Heap->Prop)
abbrev Hp:=Addr->Option HO
def upd (H:Hp) (a:Addr) (o:HO):Hp:=fun b=>if b=a then some o else H b
theorem aK {H:Hp} {a:Addr} {o:HO}:upd H a o a=some o:=by unfold upd;rw[if_pos rfl]
theorem bu {H:Hp} {a b:Addr} {o:HO} (h:b≠a):upd H a o b=H b:=by unfold upd;rw[if_neg h]
theorem fj {H:Hp} {a b:Addr} {o:HO} (h:H a=some o) (h':H b=none):a≠b:=by
 intro e;subst e;rw[h] at h';cases h'
section
variable (P:Program) (w:World)
def jK (H:Hp) (h:Heap) (a:Addr):HO->Prop
 | .lst xs=>xs.length<=sizeLine/\∃(its:List Value) (n:Nat),cL xs its/\h.get? a=some { cls:=.type "list",data:=.seq its.toArray n }
 | .tup xs=>xs.length<=sizeLine/\∃its:List Value,cL xs its/\IsTup h a its.toArray
 | .dK kvs=>kvs.length<=sizeLine/\(a == sysModules)=false/\∃vs,KV kvs vs/\h.DictOf (FE P w) a vs
 | .dT kvs=>kvs.length<=sizeLine/\(a == sysModules)=false/\∃xs:List (List Key×Addr×Value),
   Paired (fun (p:List Key×V) (q:List Key×Addr×Value)=>p.1=q.1/\H q.2.1=some (.tup (p.1.map kV))/\RelV p.2 q.2.2) kvs xs /\
   ∃o es ep,h.get? a=some o/\o.ExactDict/\o.data=.dict es ep/\es.toList=xs.map (entryOfKey (tupleKind (FE P w)))/\(xs.map (·.1)).Nodup
 | .set S n=>h.SetOf (intKind P w) a S n
 | .ins C dx fs=>H dx=some (.own a)/\fs.length<=1000/\dx≠a/\h.get? a=some (PySem.W.instObj C dx) /\
   ∃mA,h.Ns1 dx mA/\(∀f,AY (fs.lookup f) (mA f))/\PySem.Within mA (fs.map (·.1))
 | .own _=>∃o,h.get? a=some o
 | .xd fs=>∃mA,h.Ns1 a mA/\∀f,AY (fs.lookup f) (mA f)
 | .rng lo hi=>∃t u v,h.get? a=some { cls:=.type "range",data:=.fields #[.int lo t,.int hi u,.int 1 v] }
 | .frz o u=>h.get? a=some o/\jK H h a u
 | .tbl ps=>h.get? a=some { cls:=.none,data:=.fields ps }
 | .met f x=>h.get? a=some (PySem.W.methodObj (.ref f) (.ref x))
 | .ext φ=>φ h/\(∃o,h.get? a=some o)/\∀h1 h2:Heap,φ h1->(∀o,h1.get? a=some o->h2.get? a=some o)->φ h2
def zf (H:Hp) (h:Heap):Prop:=∀a o,H a=some o->jK P w H h a o
end
section
variable {P:Program} {w:World} {H H':Hp} {h h':Heap} {a:Addr} {o:HO}
theorem jK.lt (x:jK P w H h a o):a < h.objs.size:=by
 cases o with
 | lst xs=>obtain ⟨_,_,_,_,e⟩:=x;exact Heap.lt_size e
 | tup xs=>obtain ⟨_,_,_,p⟩:=x;exact p.lt
 | dK kvs=>obtain ⟨_,_,_,_,o,_,_,e,_⟩:=x;exact Heap.lt_size e
 | dT kvs=>obtain ⟨_,_,_,_,o,_,_,e,_⟩:=x;exact Heap.lt_size e
 | set S n=>obtain ⟨o,_,_,_,e,_⟩:=x;exact Heap.lt_size e
 | ins C dx fs=>obtain ⟨_,_,_,e,_⟩:=x;exact Heap.lt_size e
 | own y=>obtain ⟨_,e⟩:=x;exact Heap.lt_size e
 | xd fs=>obtain ⟨_,⟨_,_,_,e,_⟩,_⟩:=x;exact Heap.lt_size e
 | rng lo hi=>obtain ⟨_,_,_,e⟩:=x;exact Heap.lt_size e
 | frz ob u=>obtain ⟨e,_⟩:=x;exact Heap.lt_size e
 | tbl ps=>exact Heap.lt_size (show h.get? a=some _ from x)
 | met f y=>exact Heap.lt_size (show h.get? a=some _ from x)
 | ext φ=>obtain ⟨_,⟨_,e⟩,_⟩:=x;exact Heap.lt_size e
theorem Paired.mapP {α β:Type} {F G:α->β->Prop}:∀{l₁:List α} {l₂:List β},Paired F l₁ l₂->(∀a b,F a b->G a b)->Paired G l₁ l₂
 | _,_,.nil,_=>.nil
 | _,_,.cons r t,f=>.cons (f _ _ r) (Paired.mapP t f)
theorem Paired.imp' {α β:Type} {F G:α->β->Prop} (f:∀a b,F a b->G a b) {l₁:List α} {l₂:List β} (r:Paired F l₁ l₂):Paired G l₁ l₂:=Paired.mapP r f
theorem jK.stay (x:jK P w H h a o) (k:∀b u,(b=a\/H b=some (.own a))->h.get? b=some u->h'.get? b=some u)
  (ho:∀b,H b=some (.own a)->H' b=some (.own a)) (ht:∀b xs,H b=some (.tup xs)->H' b=some (.tup xs)):jK P w H' h' a o:=by
 induction o with
 | lst xs=>obtain ⟨z,its,n,r,e⟩:=x;exact ⟨z,its,n,r,k _ _ (.inl rfl) e⟩
 | tup xs=>obtain ⟨z,its,r,ob,e,c⟩:=x;exact ⟨z,its,r,ob,k _ _ (.inl rfl) e,c⟩
 | dK kvs=>obtain ⟨z,y,vs,r,ob,es,ep,e,c⟩:=x;exact ⟨z,y,vs,r,ob,es,ep,k _ _ (.inl rfl) e,c⟩
 | dT kvs =>
  obtain ⟨z,y,xs,r,ob,es,ep,e,c⟩:=x;exact ⟨z,y,xs,Paired.mapP r fun p q z=>⟨z.1,ht _ _ z.2.1,z.2.2⟩,ob,es,ep,k _ _ (.inl rfl) e,c⟩
 | set S n=>obtain ⟨ob,es,ep,t,e,c⟩:=x;exact ⟨ob,es,ep,t,k _ _ (.inl rfl) e,c⟩
 | ins C dx fs =>
  obtain ⟨d,z,ne,e,mA,⟨od,es,ep,e2,c⟩,r⟩:=x;exact ⟨ho _ d,z,ne,k _ _ (.inl rfl) e,mA,⟨od,es,ep,k _ _ (.inr d) e2,c⟩,r⟩
 | own y=>obtain ⟨ob,e⟩:=x;exact ⟨ob,k _ _ (.inl rfl) e⟩
 | xd fs=>obtain ⟨mA,⟨od,es,ep,e,c⟩,r⟩:=x;exact ⟨mA,⟨od,es,ep,k _ _ (.inl rfl) e,c⟩,r⟩
 | rng lo hi=>obtain ⟨t,u,v,e⟩:=x;exact ⟨t,u,v,k _ _ (.inl rfl) e⟩
 | frz ob u ih=>obtain ⟨e,q⟩:=x;exact ⟨k _ _ (.inl rfl) e,ih q⟩
 | tbl ps =>
  have e:h.get? a=some { cls:=.none,data:=.fields ps }:=x;show h'.get? a=some { cls:=.none,data:=.fields ps }
  exact k a _ (.inl rfl) e
 | met f y =>
  have e:h.get? a=some (PySem.W.methodObj (.ref f) (.ref y)):=x;show h'.get? a=some (PySem.W.methodObj (.ref f) (.ref y))
  exact k a _ (.inl rfl) e
 | ext φ=>obtain ⟨p,⟨o,e⟩,st⟩:=x;exact ⟨st _ _ p fun o q=>k _ _ (.inl rfl) q,⟨o,k _ _ (.inl rfl) e⟩,st⟩
theorem zf.lt (x:zf P w H h) (e:H a=some o):a < h.objs.size:=(x a o e).lt
theorem zf.fresh (x:zf P w H h) (e:h.objs.size<=a):H a=none:=by
 cases q:H a with
 | none=>rfl
 | some u=>exact absurd (bG (x.lt q) e) (dZ _)
theorem zf.kept (x:zf P w H h) (k:∀b u,h.get? b=some u->h'.get? b=some u):zf P w H h':=fun a o e =>
 (x a o e).stay (fun b u _ q=>k b u q) (fun _ q=>q) fun _ _ q=>q
theorem zf.laid (x:zf P w H h) (k:∀b u,h.get? b=some u->h'.get? b=some u) (hp:h.objs.size<=a) (new:jK P w (upd H a o) h' a o):zf P w (upd H a o) h':=fun b u e=>by
 have hn:=x.fresh hp;by_cases hb:b=a
 ·subst hb;rw[aK] at e;cases e;exact new
 ·rw[bu hb] at e;exact (x b u e).stay (fun c v _ q=>k c v q) (fun c q=>by rw[bu (fj q hn)];exact q) fun c xs q=>by rw[bu (fj q hn)];exact q
end
def Rd (H:Hp) (a:Addr) (u:HO):Prop:=H a=some u\/∃o,H a=some (.frz o u)
theorem Rd.ok {P:Program} {w:World} {H:Hp} {h:Heap} {a:Addr} {u:HO} (r:Rd H a u) (x:zf P w H h):jK P w H h a u:=by
 rcases r with r | ⟨o,r⟩
 ·exact x a u r
 ·obtain ⟨_,q⟩:=x a _ r;exact q
def P1:Option HO->Prop
 | some (.lst _)=>True
 | some (.dK _)=>True
 | some (.dT _)=>True
 | some (.set _ _)=>True
 | some (.ins _ _ _)=>True
 | some (.ext _)=>True
 | _=>False
section
variable {P:Program} {w:World} {H:Hp} {h h':Heap} {x e:Addr} {o':HO}
theorem zf.write (ok:zf P w H h) (mu:P1 (H x)) (he:e=x\/H e=some (.own x)) (k:∀b u,b≠e->h.get? b=some u->h'.get? b=some u) (heo:∃u,h'.get? e=some u)
  (new:jK P w (upd H x o') h' x o'):zf P w (upd H x o') h':=fun b u q=>by
 have nown:∀c y,H c=some (.own y)->c≠x:=fun c y r z=>by subst z;rw[r] at mu;exact mu
 have ntup:∀c xs,H c=some (.tup xs)->c≠x:=fun c xs r z=>by subst z;rw[r] at mu;exact mu
 by_cases hb:b=x
 ·subst hb;rw[aK] at q;cases q;exact new
 ·rw[bu hb] at q;by_cases hbe:b=e
  ·have q':H b=some (.own x):=by
    rcases he with z | z
    ·exact absurd (hbe.trans z) hb
    ·rw[hbe];exact z
   rw[q] at q';cases q';obtain ⟨v,hv⟩:=heo;exact ⟨v,by rw[hbe];exact hv⟩
  ·refine (ok b u q).stay (fun c v hc r=>k c v ?_ r) (fun c r=>by rw[bu (nown c b r)];exact r) fun c xs r=>by rw[bu (ntup c xs r)];exact r
   rcases hc with rfl | hc
   ·exact hbe
   ·rintro rfl;rcases he with z | z
    ·exact nown c b hc z
    ·rw[hc] at z;cases z;exact hb rfl
end
structure Un (fs ex:List Addr) (H H':Hp) (h h':Heap):Prop where
 keep:∀b o,h.get? b=some o->H b=none->b∉fs->b∉ex->h'.get? b=some o
 slot:∀b o,h.get? b=some o->H b=none->b∈fs->b∉ex->∃sl,h'.get? b=some { o with slots:=sl }
 free:∀b o,h.get? b=some o->H b=none->b∉ex->H' b=none
 there:∀b o,h.get? b=some o->b∉ex->∃o',h'.get? b=some o'
 tups:∀b xs,H b=some (.tup xs)->H' b=some (.tup xs)
 frzs:∀b o u,H b=some (.frz o u)->H' b=some (.frz o u)
 tbls:∀b ps,H b=some (.tbl ps)->∃more,H' b=some (.tbl (ps++more))
section
variable {fs fs' ex ex':List Addr} {H H1 H2:Hp} {h h1 h2 h':Heap} {a x e:Addr} {o:HO}
theorem Un.any (u:Un fs ex H H1 h h1) {b:Addr} {ob:Obj} (q:h.get? b=some ob) (n:H b=none) (hx:b∉ex):∃sl,h1.get? b=some { ob with slots:=sl }:=by
 by_cases hb:b∈fs
 ·exact u.slot b ob q n hb hx
 ·exact ⟨ob.slots,u.keep b ob q n hb hx⟩
theorem Un.kept (k:∀b u,h.get? b=some u->h'.get? b=some u):Un fs ex H H h h' :=
 ⟨fun b ob q _ _ _=>k b ob q,fun b ob q _ _ _=>⟨ob.slots,k b ob q⟩,fun _ _ _ n _=>n,fun b ob q _=>⟨ob,k b ob q⟩,fun _ _ q=>q,fun _ _ _ q=>q,fun _ ps q=>⟨#[],by rw[q];simp⟩⟩
theorem Un.refl:Un fs ex H H h h:=Un.kept fun _ _ q=>q
theorem Un.laid (k:∀b u,h.get? b=some u->h'.get? b=some u) (hp:h.objs.size<=a) (hn:H a=none):Un fs ex H (upd H a o) h h' where
 keep:=fun b u q _ _ _=>k b u q
 slot:=fun b u q _ _ _=>⟨u.slots,k b u q⟩
 free:=fun b u q n _=>by rw[bu (b7 (bG (Heap.lt_size q) hp))];exact n
 there:=fun b u q _=>⟨u,k b u q⟩
 tups:=fun b xs q=>by rw[bu (fj q hn)];exact q
 frzs:=fun b u xs q=>by rw[bu (fj q hn)];exact q
 tbls:=fun b ps q=>⟨#[],by rw[bu (fj q hn),q];simp⟩
theorem Un.write (mu:P1 (H x)) (he:e=x\/H e=some (.own x)) (k:∀b u,b≠e->h.get? b=some u->h'.get? b=some u) (heo:∃u,h'.get? e=some u):Un fs ex H (upd H x o) h h':=by
 have hx:∀b,H b=none->b≠x:=fun b n z=>by subst z;rw[n] at mu;exact mu
 have hb:∀b,H b=none->b≠e:=fun b n z=>by
  subst z;rcases he with r | r
  ·exact hx b n r
  ·rw[n] at r;cases r
 have hm:∀b u,H b=some u->¬P1 (some u)->b≠x:=fun b u q nm z=>by subst z;rw[q] at mu;exact nm mu
 refine ⟨fun b u q n _ _=>k b u (hb b n) q,fun b u q n _ _=>⟨u.slots,k b u (hb b n) q⟩,fun b u q n _=>by rw[bu (hx b n)];exact n,fun b u q _=>?_,
  fun b xs q=>by rw[bu (hm b _ q fun z=>z)];exact q,fun b u xs q=>by rw[bu (hm b _ q fun z=>z)];exact q,fun b ps q=>⟨#[],by rw[bu (hm b _ q fun z=>z),q];simp⟩⟩
 by_cases hbe:b=e
 ·subst hbe;exact heo
 ·exact ⟨u,k b u hbe q⟩
end
def PV (h:Heap) (H:Hp):List Addr:=(List.range h.objs.size).filter fun a=>(H a).isSome
def Ct (h:Heap) (H:Hp):Heap:=PySem.W.hideAll h (PV h H)
theorem HU (h:Heap) (H:Hp):(Ct h H).objs.size=h.objs.size:=PySem.W.hideAll_size _ _
theorem JV {h:Heap} {H:Hp} {b:Addr} {o:Obj} (e:h.get? b=some o) (n:H b=none):(Ct h H).get? b=some o :=
 PySem.W.hideAll_get _ e fun hm=>by
  have q:(H b).isSome=true:=(List.mem_filter.mp hm).2;rw[n] at q;simp at q
theorem LQ {h:Heap} {H:Hp} {b:Addr} {o:Obj} (e:(Ct h H).get? b=some o):h.get? b=some o/\H b=none:=by
 have e':h.get? b=some o:=PySem.W.of_hideAll (PV h H) e;refine ⟨e',?_⟩;cases q:H b with
 | none=>rfl
 | some x =>
  have hm:b∈PV h H:=List.mem_filter.mpr ⟨vD.mpr (Heap.lt_size e'),by simp [q]⟩;have z:(Ct h H).get? b=none:=PySem.W.hideAll_none (PV h H) hm;rw[z] at e;cases e
structure Mod (K:PySem.W.Frag) (mg:Str->Option Value) (base:Heap):Prop where
 kin:K.In base
 glob:base.Ns mainGlobals mg
 blt:∃mb,base.Ns builtinsNs mb/\∀x:Str,x≠"__name__"->mb x=bootBuiltins x
 nolimit:base.NoLimit
structure Cx where
 prog:Program
 w:World
 K:PySem.W.Frag
 mg:Str->Option Value
 base:Heap
 A:Around
 N:List Str
 s₀:Shared
 H₀:Hp
 env:Env
 outer:List Env
 stack:List Env
 ex:List Addr
 fn:Str->Bool
 calm:Bool
 pn:List (Addr×Obj)
 xe:Value->Shared->Prop
def Ij (l:List Env):List Addr:=l.filterMap (·.frame)
abbrev Cx.fs (X:Cx):List Addr:=Ij X.outer
def Qm (sc:Scope) (x:Str):Prop:=sc.names.lookup x=some .local\/sc.names.lookup x=some .cell\/sc.names.lookup x=some .free
def Loc (sc:Scope) (x:Str):Prop:=sc.names.lookup x=some .local\/sc.names.lookup x=some .cell
def Look (env:Env) (h:Heap) (m:Str->Option Value) (x:Str) (u:Value):Prop :=
 (env.kindOf x=some .local/\m x=some u)\/((env.kindOf x=some .cell\/env.kindOf x=some .free)/\∃c,env.cells.lookup x=some c/\h.IsCell c (some u))
structure Cx.Ok (X:Cx):Prop where
 mod:Mod X.K X.mg X.base
 kind:X.env.scope.kind=.function
 glob:X.env.globals=mainGlobals
 blt:X.env.builtins=builtinsNs
 above:X.s₀.heap.objs.size<=X.env.locals
 inj:∀x y c,X.env.cells.lookup x=some c->X.env.cells.lookup y=some c->x=y
 has:∀x,(X.env.kindOf x=some .cell\/X.env.kindOf x=some .free)->∃c,X.env.cells.lookup x=some c
 cab:∀x c,X.fn x=true->X.env.cells.lookup x=some c->X.s₀.heap.objs.size<=c
 hd:X.calm=true->X.A.handled=none
 frames:X.A.frames=some X.stack
 stk:X.stack=X.outer\/(X.stack=X.env :: X.outer/\X.env.frame=some X.env.locals)
 exf:∀b∈X.ex,b≠X.env.locals/\∀x c,X.env.cells.lookup x=some c->c≠b
 bs:∀b o,X.base.get? b=some o->X.s₀.heap.get? b=some o/\X.H₀ b=none
 bsz:X.base.objs.size<=X.s₀.heap.objs.size
 noex:∀b o,X.base.get? b=some o->b∉X.ex
 exfs:∀b∈X.ex,b∉X.fs
 funs:X.s₀.heap.FunFrames X.base X.outer
 frf:∀b∈X.fs,X.H₀ b=none
structure Inv (X:Cx) (pins:List (Addr×Obj)) (σ:List (Option V)) (H:Hp) (s:Shared):Prop where
 ok:X.Ok
 os:s.os=X.s₀.os
 bare:AllBare s.gens
 base:Un X.fs X.ex X.H₀ H X.s₀.heap s.heap
 loc:∃m,s.heap.Ns X.env.locals m/\∀(i:Nat) (x:Str) (v:V),X.N[i]?=some x->σ[i]?=some (some v)->Qm X.env.scope x->∃u,RelV v u/\Look X.env s.heap m x u
 cell:∀x c,X.env.cells.lookup x=some c->∃v,s.heap.IsCell c v
 free:H X.env.locals=none
 freeC:∀x c,X.env.cells.lookup x=some c->H c=none
 pin:∀p∈X.pn++pins,s.heap.get? p.1=some p.2/\H p.1=none/\p.1≠X.env.locals/\p.1∉X.fs/\∀v,p.2.data≠.cell v
 hok:zf X.prog X.w H s.heap
 len:σ.length=X.N.length
section
variable {X:Cx} {pins:List (Addr×Obj)} {σ:List (Option V)} {H H':Hp} {s:Shared} {h':Heap}
theorem Cx.Ok.nofr (ok:X.Ok) {b:Addr} {o:Obj} (e:X.base.get? b=some o):b∉X.fs:=fun hb=>by
 have:=(ok.funs.mem hb).1;rw[e] at this;cases this
theorem Inv.bs (I:Inv X pins σ H s):∀b o,X.base.get? b=some o->s.heap.get? b=some o/\H b=none:=fun b o e =>
 ⟨I.base.keep b o (I.ok.bs b o e).1 (I.ok.bs b o e).2 (I.ok.nofr e) (I.ok.noex b o e),I.base.free b o (I.ok.bs b o e).1 (I.ok.bs b o e).2 (I.ok.noex b o e)⟩
theorem Inv.bk (I:Inv X pins σ H s):∀b o,X.base.get? b=some o->s.heap.get? b=some o:=fun b o e=>(I.bs b o e).1
theorem Inv.mod (I:Inv X pins σ H s):Mod X.K X.mg X.base:=I.ok.mod
theorem Inv.kIn (I:Inv X pins σ H s):X.K.In s.heap:=I.ok.mod.kin.keeps I.bk
theorem Inv.lt (I:Inv X pins σ H s):X.env.locals < s.heap.objs.size:=let ⟨_,hn,_⟩:=I.loc;hn.lt
theorem Inv.sz (I:Inv X pins σ H s):X.s₀.heap.objs.size<=s.heap.objs.size:=ah I.ok.above (bp I.lt)
theorem Inv.nofs (I:Inv X pins σ H s) {a:Addr} (h:s.heap.objs.size<=a):a∉X.fs:=fun hb=>by
 obtain ⟨_,o,ho,_⟩:=I.ok.funs.mem hb;exact absurd (bG (Heap.lt_size ho) (ah I.sz h)) (dZ _)
theorem Inv.cne (I:Inv X pins σ H s):∀x c,X.env.cells.lookup x=some c->c≠X.env.locals:=fun x c e z=>by
 obtain ⟨v,o,ho,hd⟩:=I.cell x c e;obtain ⟨m,⟨o',es,ep,ho',hd',_⟩,_⟩:=I.loc;rw[z,ho'] at ho;cases ho;rw[hd'] at hd;cases hd
theorem Inv.funs (I:Inv X pins σ H s):s.heap.FunFrames X.base X.outer:=by
 have all:∀(l:List Env),(∀b∈Ij l,b∈X.fs)->X.s₀.heap.FunFrames X.base l->s.heap.FunFrames X.base l:=by
  intro l
  induction l with
  | nil=>intro _ _;trivial
  | cons env r ih =>
   intro hs hl;obtain ⟨hk,⟨L,o,hf,hn,ho,hd⟩,hr⟩:=hl;have hL:L∈X.fs:=hs L (by unfold Ij;rw[C4,hf];exact dk);obtain ⟨sl,e⟩:=I.base.slot L o ho (I.ok.frf L hL) hL fun z=>I.ok.exfs L z hL
   exact ⟨hk,⟨L,_,hf,hn,e,hd⟩,ih (fun b hb=>hs b (by unfold Ij;rw[C4,hf];exact bP _ hb)) hr⟩
 exact all X.outer (fun _ hb=>hb) I.ok.funs
theorem Inv.stack (I:Inv X pins σ H s):s.heap.FunFrames X.base X.stack:=by
 rcases I.ok.stk with e | ⟨e,hf⟩
 ·rw[e];exact I.funs
 ·rw[e];obtain ⟨m,hn,_⟩:=I.loc;refine .cons (by rw[I.ok.kind];decide) hf hn ?_ I.funs;exact Heap.get?_none_of_le (ah I.ok.bsz I.ok.above)
theorem Inv.stkSub (I:Inv X pins σ H s):∀b∈Ij X.stack,b∈X.env.locals :: X.fs:=fun b hb=>by
 rcases I.ok.stk with e | ⟨e,hf⟩
 ·rw[e] at hb;exact bP _ hb
 ·rw[e] at hb;unfold Ij at hb;rw[C4,hf] at hb;exact hb
theorem Inv.stkFree (I:Inv X pins σ H s):∀b∈Ij X.stack,H b=none:=fun b hb=>by
 rcases aG.mp (I.stkSub b hb) with e | hb
 ·rw[e];exact I.free
 ·obtain ⟨_,o,ho,_⟩:=I.ok.funs.mem hb;exact I.base.free b o ho (I.ok.frf b hb) fun z=>I.ok.exfs b z hb
theorem Inv.step {g':Array GenState} {t':Nat} {d':Drawn} {ch:List Addr} (I:Inv X pins σ H s)
  (hch:∀b∈ch,(b∈X.ex\/X.s₀.heap.objs.size<=b)/\b≠X.env.locals/\(∀x c,X.env.cells.lookup x=some c->c≠b)/\∀p∈X.pn++pins,p.1≠b)
  (keep:∀b o,b≠X.env.locals->b∉X.fs->b∉ch->s.heap.get? b=some o->H b=none->h'.get? b=some o)
  (slot:∀b o,b≠X.env.locals->b∈X.fs->b∉ch->s.heap.get? b=some o->H b=none->∃sl,h'.get? b=some { o with slots:=sl }) (free:∀b o,b∉ch->s.heap.get? b=some o->H b=none->H' b=none)
  (there:∀b o,b∉ch->s.heap.get? b=some o->∃o',h'.get? b=some o')
  (tups:∀b xs,H b=some (.tup xs)->H' b=some (.tup xs)) (frzs:∀b o u,H b=some (.frz o u)->H' b=some (.frz o u)) (tbls:∀b ps,H b=some (.tbl ps)->∃more,H' b=some (.tbl (ps++more)))
  (ns:∀m,s.heap.Ns X.env.locals m->h'.Ns X.env.locals m) (hok:zf X.prog X.w H' h') (hg:AllBare g') :
  Inv X pins σ H' { s with heap:=h',gens:=g',drawn:=d',toks:=t' }:=by
 have neL:∀b o,X.s₀.heap.get? b=some o->b≠X.env.locals:=fun b o e=>b7 (bG (Heap.lt_size e) I.ok.above)
 have neC:∀b o,X.s₀.heap.get? b=some o->b∉X.ex->b∉ch:=fun b o e hx hb=>by
  rcases (hch b hb).1 with z | z
  ·exact hx z
  ·exact absurd (bG (Heap.lt_size e) z) (dZ _)
 have cellK:∀x c,X.env.cells.lookup x=some c->∀v,s.heap.IsCell c v->h'.IsCell c v:=fun x c e v ⟨o,ho,hd⟩=>by
  have nch:c∉ch:=fun z=>(hch c z).2.2.1 x c e rfl
  by_cases hc:c∈X.fs
  ·obtain ⟨sl,q⟩:=slot c o (I.cne x c e) hc nch ho (I.freeC x c e);exact ⟨_,q,hd⟩
  ·exact ⟨o,keep c o (I.cne x c e) hc nch ho (I.freeC x c e),hd⟩
 refine ⟨I.ok,I.os,hg,⟨fun b o e n hb hx=>?_,fun b o e n hb hx=>?_,fun b o e n hx=>?_,fun b o e hx=>?_,fun b xs e=>tups b xs (I.base.tups b xs e),fun b o xs e=>frzs b o xs (I.base.frzs b o xs e),fun b ps e=>?_⟩,?_,fun x c e=>?_,?_,fun x c e=>?_,fun p hp=>?_,hok,I.len⟩
 ·exact keep b o (neL b o e) hb (neC b o e hx) (I.base.keep b o e n hb hx) (I.base.free b o e n hx)
 ·obtain ⟨sl,e1⟩:=I.base.slot b o e n hb hx;obtain ⟨sl',e2⟩:=slot b _ (neL b o e) hb (neC b o e hx) e1 (I.base.free b o e n hx);exact ⟨sl',e2⟩
 ·obtain ⟨o',e1⟩:=I.base.there b o e hx;exact free b o' (neC b o e hx) e1 (I.base.free b o e n hx)
 ·obtain ⟨o',e1⟩:=I.base.there b o e hx;exact there b o' (neC b o e hx) e1
 ·obtain ⟨m1,e1⟩:=I.base.tbls b ps e;obtain ⟨m2,e2⟩:=tbls b _ e1;exact ⟨m1++m2,by rw[e2,Array.append_assoc]⟩
 ·obtain ⟨m,hn,hl⟩:=I.loc;refine ⟨m,ns m hn,fun i x v e1 e2 e3=>?_⟩;obtain ⟨u,r,l⟩:=hl i x v e1 e2 e3;refine ⟨u,r,?_⟩;rcases l with l | ⟨k,c,e,z⟩
  ·exact .inl l
  ·exact .inr ⟨k,c,e,cellK x c e _ z⟩
 ·obtain ⟨v,z⟩:=I.cell x c e;exact ⟨v,cellK x c e v z⟩
 ·obtain ⟨m,⟨o,_,_,ho,_⟩,_⟩:=I.loc;exact free _ o (fun z=>(hch _ z).2.1 rfl) ho I.free
 ·obtain ⟨v,o,ho,hd⟩:=I.cell x c e;exact free c o (fun z=>(hch c z).2.2.1 x c e rfl) ho (I.freeC x c e)
 ·obtain ⟨e,n,ne,nf,d⟩:=I.pin p hp;have nch:p.1∉ch:=fun z=>(hch p.1 z).2.2.2 p hp rfl
  exact ⟨keep p.1 p.2 ne nf nch e n,free p.1 p.2 nch e n,ne,nf,d⟩
theorem Inv.un {t':Nat} (I:Inv X pins σ H s) (u:Un X.fs [] H H' s.heap h') (hok:zf X.prog X.w H' h'):Inv X pins σ H' { s with heap:=h',toks:=t' }:=by
 obtain ⟨m,⟨o,es,ep,ho,r⟩,_⟩:=id I.loc;obtain ⟨sl,hL⟩:=u.any ho I.free (by simp)
 exact I.step (g':=s.gens) (d':=s.drawn) (ch:=[]) (fun _ z=>nomatch z) (fun b o _ hb _ e n=>u.keep b o e n hb (by simp)) (fun b o _ hb _ e n=>u.slot b o e n hb (by simp)) (fun b o _ e n=>u.free b o e n (by simp)) (fun b o _ e=>u.there b o e (by simp)) u.tups u.frzs u.tbls (fun m' hm=>by
  obtain ⟨o',es',ep',ho',r'⟩:=hm;rw[ho] at ho';cases ho';exact ⟨_,es',ep',hL,r'⟩) hok I.bare
theorem Inv.call {g':Array GenState} {t':Nat} {d':Drawn} {ch:List Addr} (I:Inv X pins σ H s) (u:Un (Ij X.stack) ch H H' s.heap h') (hok:zf X.prog X.w H' h') (hg:AllBare g')
  (hch:∀b∈ch,(b∈X.ex\/X.s₀.heap.objs.size<=b)/\b≠X.env.locals/\(∀x c,X.env.cells.lookup x=some c->c≠b)/\∀p∈X.pn++pins,p.1≠b) :
  Inv X pins σ H' { s with heap:=h',gens:=g',drawn:=d',toks:=t' }:=by
 obtain ⟨m,⟨o,es,ep,ho,r⟩,_⟩:=id I.loc;obtain ⟨sl,hL⟩:=u.any ho I.free fun z=>(hch _ z).2.1 rfl
 exact I.step (ch:=ch) hch (fun b o hL hb hc e n=>u.keep b o e n (fun z=>(aG.mp (I.stkSub b z)).elim hL hb) hc) (fun b o _ _ hc e n=>u.any e n hc) (fun b o hc e n=>u.free b o e n hc) (fun b o hc e=>u.there b o e hc) u.tups u.frzs u.tbls (fun m' hm=>by
  obtain ⟨o',es',ep',ho',r'⟩:=hm;rw[ho] at ho';cases ho';exact ⟨_,es',ep',hL,r'⟩) hok hg
theorem Inv.turned {t':Nat} {it:Addr} (I:Inv X pins σ H s) (k:∀b o,b≠it->s.heap.get? b=some o->h'.get? b=some o) (hn:H it=none) (hL:it≠X.env.locals)
  (h1:it∈X.ex\/X.s₀.heap.objs.size<=it) (h2:∀x c,X.env.cells.lookup x=some c->c≠it) (h3:∀p∈X.pn++pins,p.1≠it):Inv X pins σ H { s with heap:=h',toks:=t' }:=by
 have nit:∀b u,H b=some u->b≠it:=fun b u e z=>by rw[z,hn] at e;cases e
 refine I.step (g':=s.gens) (d':=s.drawn) (ch:=[it]) (fun b hb=>?_) (fun b o _ _ hc e _=>k b o (fun z=>hc (by simp [z])) e) (fun b o _ _ hc e _=>⟨o.slots,k b o (fun z=>hc (by simp [z])) e⟩) (fun _ _ _ _ n=>n)
  (fun b o hc e=>⟨o,k b o (fun z=>hc (by simp [z])) e⟩) (fun _ _ e=>e) (fun _ _ _ e=>e) (fun b ps e=>⟨#[],by rw[e];simp⟩) (fun m hm=>?_) (fun b u e=>?_) I.bare
 ·have e:b=it:=by simpa using hb
  subst e;exact ⟨h1,hL,h2,h3⟩
 ·obtain ⟨o,es,ep,ho,r⟩:=hm;exact ⟨o,es,ep,k _ o (Ne.symm hL) ho,r⟩
 ·refine (I.hok b u e).stay (fun c v hc q=>k c v ?_ q) (fun _ q=>q) fun _ _ q=>q
  rcases hc with z | z
  ·rw[z];exact nit b u e
  ·exact nit c _ z
theorem Inv.tok (I:Inv X pins σ H s) (t:Nat):Inv X pins σ H { s with toks:=t }:=I.un (h':=s.heap) (t':=t) Un.refl I.hok
theorem Inv.kept {t':Nat} (I:Inv X pins σ H s) (k:∀b u,s.heap.get? b=some u->h'.get? b=some u):Inv X pins σ H { s with heap:=h',toks:=t' }:=I.un (Un.kept k) (I.hok.kept k)
theorem Inv.laid {a:Addr} {o:HO} {t':Nat} (I:Inv X pins σ H s) (k:∀b u,s.heap.get? b=some u->h'.get? b=some u) (hp:s.heap.objs.size<=a) (new:jK X.prog X.w (upd H a o) h' a o) :
  Inv X pins σ (upd H a o) { s with heap:=h',toks:=t' }:=I.un (Un.laid k hp (I.hok.fresh hp)) (I.hok.laid k hp new)
theorem Inv.write {x e:Addr} {o:HO} {t':Nat} (I:Inv X pins σ H s) (mu:P1 (H x)) (he:e=x\/H e=some (.own x)) (k:∀b u,b≠e->s.heap.get? b=some u->h'.get? b=some u) (heo:∃u,h'.get? e=some u)
  (new:jK X.prog X.w (upd H x o) h' x o):Inv X pins σ (upd H x o) { s with heap:=h',toks:=t' }:=I.un (Un.write mu he k heo) (I.hok.write mu he k heo new)
theorem Inv.pins_of {pins':List (Addr×Obj)} (I:Inv X pins σ H s) (h:∀p∈pins',s.heap.get? p.1=some p.2/\H p.1=none/\p.1≠X.env.locals/\p.1∉X.fs/\∀v,p.2.data≠.cell v):Inv X pins' σ H s :=
 ⟨I.ok,I.os,I.bare,I.base,I.loc,I.cell,I.free,I.freeC,fun p hp=>(ax.mp hp).elim (fun z=>I.pin p (sO _ z)) (h p),I.hok,I.len⟩
theorem DA {N:List Str} (hN:N.Nodup) {i j:Nat} {x:Str} (a:N[i]?=some x) (b:N[j]?=some x):i=j:=by
 obtain ⟨h1,e1⟩:=aH.mp a;obtain ⟨h2,e2⟩:=aH.mp b;exact (List.getElem_inj hN).mp (e1.trans e2.symm)
theorem A4 {M:Model} {A:Around} {E:Value->Shared->Prop} {i:Nat} {x:Str} {v:V} {u:Value} {Q:Unit->Shared->Prop} (I:Inv X pins σ H s) (hN:X.N.Nodup) (hi:X.N[i]?=some x) (hx:Loc X.env.scope x) (r:RelV v u)
  (h:∀s',Inv X pins (σ.set i (some v)) H s'->(∃a,Heap.SameBut a s.heap s'.heap/\(a=X.env.locals\/X.env.cells.lookup x=some a))->Q () s') (hf:X.fn x=true\/X.env.scope.names.lookup x=some .local:=by first | exact .inl rfl | exact .inr rfl | assumption):wpAny M A (storeName X.env x u) Q E s:=by
 obtain ⟨m,hn,hl⟩:=id I.loc;have hcls:(X.env.scope.kind == .class || (X.env.scope.kind == .module && X.env.locals != X.env.globals))=false:=by rw[I.ok.kind];rfl
 have hiσ:i < σ.length:=by rw[I.len];exact (aH.mp hi).1
 have cne:=I.cne
 have tracked:∀{a:Addr} {h':Heap},(∃o,s.heap.get? a=some o/\H a=none)->Heap.SameBut a s.heap h'->zf X.prog X.w H h':=fun {a h'} ha hs b ob e=>by
  obtain ⟨_,_,hfree⟩:=ha;refine (I.hok b ob e).stay (fun c w' hc q=>(hs.2 c ?_).trans q) (fun _ q=>q) fun _ _ q=>q
  rintro rfl;rcases hc with rfl | hc
  ·rw[hfree] at e;cases e
  ·rw[hfree] at hc;cases hc
 rcases hx with hk | hk
 ·refine wpAny_storeName_local hk hn (fun h' hn' hs=>?_) hcls;obtain ⟨oL,_,_,hoL,_⟩:=id hn;refine h _ ⟨I.ok,I.os,I.bare,⟨fun b o e n hb hx=>?_,fun b o e n hb hx=>?_,I.base.free,fun b o e hx=>?_,I.base.tups,I.base.frzs,I.base.tbls⟩,⟨_,hn',fun j y v' e1 e2 e3=>?_⟩,fun y c e=>?_,I.free,I.freeC,fun p hp=>?_,tracked ⟨oL,hoL,I.free⟩ hs,by simpa using I.len⟩ ⟨_,hs,.inl rfl⟩
  ·exact (hs.2 b (b7 (bG (Heap.lt_size e) I.ok.above))).trans (I.base.keep b o e n hb hx)
  ·obtain ⟨sl,e1⟩:=I.base.slot b o e n hb hx;exact ⟨sl,(hs.2 b (b7 (bG (Heap.lt_size e) I.ok.above))).trans e1⟩
  ·obtain ⟨o',e1⟩:=I.base.there b o e hx;exact ⟨o',(hs.2 b (b7 (bG (Heap.lt_size e) I.ok.above))).trans e1⟩
  ·by_cases hj:j=i
   ·subst hj;rw[hi] at e1;cases e1;rw[List.getElem?_set_self hiσ] at e2;cases e2;exact ⟨u,r,.inl ⟨hk,by simp⟩⟩
   ·rw[List.getElem?_set_ne (Ne.symm hj)] at e2;obtain ⟨u',r',q⟩:=hl j y v' e1 e2 e3;refine ⟨u',r',?_⟩;rcases q with ⟨k,e⟩ | ⟨k,c,e,z⟩
    ·refine .inl ⟨k,?_⟩;have:y≠x:=fun e=>hj (DA hN e1 (e ▸ hi))
     simp [this,e]
    ·exact .inr ⟨k,c,e,z.sameBut hs (cne y c e)⟩
  ·obtain ⟨w',z⟩:=I.cell y c e;exact ⟨w',z.sameBut hs (cne y c e)⟩
  ·obtain ⟨e,n,ne,nf,d⟩:=I.pin p hp;exact ⟨(hs.2 p.1 ne).trans e,n,ne,nf,d⟩
 ·have hfn:X.fn x=true:=by
   rcases hf with z | z
   ·exact z
   ·rw[z] at hk;cases hk
  obtain ⟨c,hc⟩:=I.ok.has x (.inl hk);obtain ⟨w',z⟩:=I.cell x c hc;refine wpAny_storeName_cell I.ok.kind hk hc z (fun h' hc' hs=>?_);obtain ⟨oc,hoc,hocd⟩:=id z;refine h { s with heap:=h' } ⟨I.ok,I.os,I.bare,⟨fun b o e n hb hx=>?_,fun b o e n hb hx=>?_,I.base.free,fun b o e hx=>?_,I.base.tups,I.base.frzs,I.base.tbls⟩,⟨m,hn.sameBut hs (Ne.symm (cne x c hc)),fun j y v' e1 e2 e3=>?_⟩,fun y c' e=>?_,I.free,I.freeC,fun p hp=>?_,tracked ⟨oc,hoc,I.freeC x c hc⟩ hs,by simpa using I.len⟩ ⟨c,hs,.inr hc⟩
  ·exact (hs.2 b (b7 (bG (Heap.lt_size e) (I.ok.cab x c hfn hc)))).trans (I.base.keep b o e n hb hx)
  ·obtain ⟨sl,e1⟩:=I.base.slot b o e n hb hx;exact ⟨sl,(hs.2 b (b7 (bG (Heap.lt_size e) (I.ok.cab x c hfn hc)))).trans e1⟩
  ·obtain ⟨o',e1⟩:=I.base.there b o e hx;exact ⟨o',(hs.2 b (b7 (bG (Heap.lt_size e) (I.ok.cab x c hfn hc)))).trans e1⟩
  ·by_cases hj:j=i
   ·subst hj;rw[hi] at e1;cases e1;rw[List.getElem?_set_self hiσ] at e2;cases e2;exact ⟨u,r,.inr ⟨.inl hk,c,hc,hc'⟩⟩
   ·rw[List.getElem?_set_ne (Ne.symm hj)] at e2;obtain ⟨u',r',q⟩:=hl j y v' e1 e2 e3;refine ⟨u',r',?_⟩;rcases q with q | ⟨k,c',e,z'⟩
    ·exact .inl q
    ·refine .inr ⟨k,c',e,z'.sameBut hs ?_⟩;rintro rfl;exact hj (DA hN e1 (I.ok.inj _ _ _ e hc ▸ hi))
  ·by_cases hcc:c'=c
   ·subst hcc;exact ⟨_,hc'⟩
   ·obtain ⟨w2,z2⟩:=I.cell y c' e;exact ⟨w2,z2.sameBut hs hcc⟩
  ·obtain ⟨e,n,ne,nf,d⟩:=I.pin p hp;refine ⟨(hs.2 p.1 ?_).trans e,n,ne,nf,d⟩;intro q;rw[q,hoc] at e;have q':oc=p.2:=cg e;exact d w' (by rw[<- q'];exact hocd)
theorem vY {M:Model} {A:Around} {E:Value->Shared->Prop} {i:Nat} {x:Str} {v:V} {u:Value} {Q:Unit->Shared->Prop} (I:Inv X pins σ H s) (hN:X.N.Nodup) (hi:X.N[i]?=some x) (hx:Loc X.env.scope x) (r:RelV v u)
  (h:∀s',Inv X pins (σ.set i (some v)) H s'->Q () s') (hf:X.fn x=true\/X.env.scope.names.lookup x=some .local:=by first | exact .inl rfl | exact .inr rfl | assumption):wpAny M A (storeName X.env x u) Q E s :=
 A4 I hN hi hx r (fun s' I' _=>h s' I') hf
theorem Inv.call' {s':Shared} {ch:List Addr} (I:Inv X pins σ H s) (ho:s'.os=s.os) (u:Un (Ij X.stack) ch H H' s.heap s'.heap) (hok:zf X.prog X.w H' s'.heap) (hg:AllBare s'.gens)
  (hch:∀b∈ch,(b∈X.ex\/X.s₀.heap.objs.size<=b)/\b≠X.env.locals/\(∀x c,X.env.cells.lookup x=some c->c≠b)/\∀p∈X.pn++pins,p.1≠b):Inv X pins σ H' s':=by
 obtain ⟨h',g',d',t',o'⟩:=s';have e:o'=s.os:=ho;subst e;exact I.call (g':=g') (t':=t') (d':=d') u hok hg hch
end
abbrev XK:=Value->Option Addr->Hp->Prop
abbrev St:=List (Option V)
abbrev VK:=V->Hp->Prop
abbrev TE:=St->Hp->VK->Prop
abbrev TT:=St->Hp->(Bool->Hp->Prop)->Prop
abbrev TA:=St->Hp->(List V->Hp->Prop)->Prop
structure Ends where
 nx:St->Hp->Prop
 rt:VK
 bk:St->Hp->Prop:=fun _ _=>False
 ct:St->Hp->Prop:=fun _ _=>False
abbrev TS:=Ends->St->Hp->Prop
def EP (X:Cx) (pins:List (Addr×Obj)) (σ:St) (Q:VK) (u:Value) (s':Shared):Prop:=∃v H',Inv X pins σ H' s'/\RelV v u/\Q v H'
def TP (X:Cx) (pins:List (Addr×Obj)) (σ:St) (Q:Bool->Hp->Prop) (b:Bool) (s':Shared):Prop:=∃H',Inv X pins σ H' s'/\Q b H'
def AP (X:Cx) (pins:List (Addr×Obj)) (σ:St) (Q:List V->Hp->Prop) (us:List Value) (s':Shared):Prop:=∃vs H',Inv X pins σ H' s'/\cL vs us/\Q vs H'
def SP (X:Cx) (pins:List (Addr×Obj)) (D:Ends) (f:Flow) (s':Shared):Prop :=
 match f with
 | .next=>∃σ' H',Inv X pins σ' H' s'/\D.nx σ' H'
 | .brk=>∃σ' H',Inv X pins σ' H' s'/\D.bk σ' H'
 | .cont=>∃σ' H',Inv X pins σ' H' s'/\D.ct σ' H'
 | .ret u=>∃v σ' H',Inv X pins σ' H' s'/\RelV v u/\D.rt v H'
def PE (X:Cx) (e:Expr) (t:TE):Prop :=
 ∀(pins:List (Addr×Obj)) (s:Shared) (σ:St) (H:Hp) (Q:VK),Inv X pins σ H s->t σ H Q->wpAny (model X.prog X.w) X.A (eval e X.env) (EP X pins σ Q) X.xe s
def PT (X:Cx) (e:Expr) (t:TT):Prop :=
 ∀(pins:List (Addr×Obj)) (s:Shared) (σ:St) (H:Hp) (Q:Bool->Hp->Prop),Inv X pins σ H s->t σ H Q->wpAny (model X.prog X.w) X.A (isTrue e X.env (eval e X.env)) (TP X pins σ Q) X.xe s
def PW (X:Cx) (e:Expr) (t:TT):Prop :=
 ∀(whole:Sem Value) (pins:List (Addr×Obj)) (s:Shared) (σ:St) (H:Hp) (Q:Bool->Hp->Prop),Inv X pins σ H s->t σ H Q->wpAny (model X.prog X.w) X.A (isTrue e X.env whole) (TP X pins σ Q) X.xe s
theorem PW.pt {X:Cx} {e:Expr} {t:TT} (h:PW X e t):PT X e t:=h _
def PA (X:Cx) (es:List Expr) (t:TA):Prop :=
 ∀(pos:Pos) (pins:List (Addr×Obj)) (s:Shared) (σ:St) (H:Hp) (Q:List V->Hp->Prop),Inv X pins σ H s->t σ H Q->wpAny (model X.prog X.w) X.A (spliced (backTo pos (starEach es X.env))) (AP X pins σ Q) X.xe s
def PS (X:Cx) (st:Stmt) (t:TS):Prop :=
 ∀(pins:List (Addr×Obj)) (s:Shared) (σ:St) (H:Hp) (D:Ends),Inv X pins σ H s->t D σ H->wpAny (model X.prog X.w) X.A (exec st X.env) (SP X pins D) X.xe s
def Fc (X:Cx) (st:List Stmt) (t:TS):Prop :=
 ∀(pins:List (Addr×Obj)) (s:Shared) (σ:St) (H:Hp) (D:Ends),Inv X pins σ H s->t D σ H->wpAny (model X.prog X.w) X.A (execs st X.env) (SP X pins D) X.xe s
theorem fP {α:Type} {t:Sem α} {Q Q':α->Shared->Prop} {M:Model} {A:Around} {E:Value->Shared->Prop} {s:Shared} (h:wpAny M A t Q E s) (hQ:∀a s,Q a s->Q' a s):wpAny M A t Q' E s:=wpAny_mono h hQ fun _ _ x=>x
section
variable {X:Cx}
def MZ (i:Nat):TE:=fun σ H Q=>∃v,σ[i]?=some (some v)/\Q v H
def tC (v:V):TE:=fun _ H Q=>Q v H
theorem NQ {i:Nat} {x:Str} {pos:Pos} (hN:X.N[i]?=some x) (hv:Qm X.env.scope x) (hd:(x == ("__debug__":Str))=false:=by decide) (hcd:(x == ("__classdict__":Str))=false:=by decide):PE X (.Name x pos) (MZ i):=by
 intro pins s σ H Q I h;obtain ⟨v,e,h⟩:=h;obtain ⟨m,hn,hl⟩:=I.loc;obtain ⟨u,r,l⟩:=hl i x v hN e hv;have fin:EP X pins σ Q u s:=⟨v,H,I,r,h⟩;rcases l with ⟨hk,hm⟩ | ⟨hk,c,hc,hcell⟩
 ·exact wpAny_Name (wpAny_loadName_local I.ok.kind hk hn hm fin) hd
 ·rcases hk with hk | hk
  ·exact wpAny_Name (wpAny_loadName_cell I.ok.kind hk hc hcell fin) hd
  ·exact wpAny_Name (wpAny_loadName_free I.ok.kind hk hc hcell fin hcd) hd
theorem ar {i j pos}:PE X (.Constant (.int i) j pos) (tC (.int i)):=fun _ _ _ H _ I h=>wpAny_Constant_int ⟨.int i,H,I.tok _,⟨_,rfl⟩,h⟩
theorem yn {b j pos}:PE X (.Constant (.bool b) j pos) (tC (.bl b)):=fun _ _ _ H _ I h=>Constant_bool ⟨.bl b,H,I,rfl,h⟩
theorem kM {j pos}:PE X (.Constant .none j pos) (tC .non):=fun _ _ _ H _ I h=>Constant_none ⟨.non,H,I,rfl,h⟩
theorem kL {x j pos}:PE X (.Constant (.str x) j pos) (tC (.str x)):=fun _ _ _ H _ I h=>Calls.Constant_str ⟨.str x,H,I.tok _,⟨_,rfl⟩,h⟩
def Gl (X:Cx) (x:Str):Prop:=X.env.kindOf x=some .globalImplicit
theorem Cp {E:Value->Shared->Prop} {pins:List (Addr×Obj)} {s:Shared} {σ:St} {H:Hp} {x:Str} {u:Value} {pos:Pos} {Q:Value->Shared->Prop} (I:Inv X pins σ H s) (hg:Gl X x) (hm:X.mg x=some u) (h:Q u s)
  (hd:(x == ("__debug__":Str))=false:=by decide):wpAny (model X.prog X.w) X.A (eval (.Name x pos) X.env) Q E s :=
 Calls.Name_function_global I.ok.kind hg (Calls.loadGlobal_global (by rw[I.ok.glob];exact I.mod.glob.keeps I.bk) hm h) hd
theorem kR {E:Value->Shared->Prop} {pins:List (Addr×Obj)} {s:Shared} {σ:St} {H:Hp} {x:Str} {u:Value} {pos:Pos} {Q:Value->Shared->Prop} (I:Inv X pins σ H s) (hg:Gl X x) (hm:X.mg x=none) (hv:bootBuiltins x=some u) (h:Q u s)
  (hn:x≠"__name__":=by decide) (hd:(x == ("__debug__":Str))=false:=by decide):wpAny (model X.prog X.w) X.A (eval (.Name x pos) X.env) Q E s:=by
 obtain ⟨mb,h1,h2⟩:=I.mod.blt;exact Calls.Name_function_global I.ok.kind hg (Calls.loadGlobal_builtin (by rw[I.ok.glob];exact I.mod.glob.keeps I.bk) hm (by rw[I.ok.blt];exact h1.keeps I.bk) ((h2 x hn).trans hv) h) hd
theorem wg {x:Str} {v:V} {u:Value} {pos:Pos} (hg:Gl X x) (hm:X.mg x=some u) (r:RelV v u) (hd:(x == ("__debug__":Str))=false:=by decide):PE X (.Name x pos) (tC v) :=
 fun _ _ _ H _ I h=>Cp I hg hm ⟨v,H,I,r,h⟩ hd
theorem FC {x:Str} {v:V} {u:Value} {pos:Pos} (hg:Gl X x) (hm:X.mg x=none) (hv:bootBuiltins x=some u) (r:RelV v u) (hn:x≠"__name__":=by decide) (hd:(x == ("__debug__":Str))=false:=by decide):PE X (.Name x pos) (tC v) :=
 fun _ _ _ H _ I h=>kR I hg hm hv ⟨v,H,I,r,h⟩ hn hd
variable {a b:Expr} {ta tb:TE} {pos:Pos}
def tB (t:TE):TT:=fun σ H Q=>t σ H fun x H1=>∃c,x=.bl c/\Q c H1
theorem jW {e : Expr} {t : TE} (h : PE X e t) (he : ∀ whole, isTrue e X.env whole = (do let v <- whole; standAt e.pos; holding [v] (truthy v)) := by intro _; rfl) : PT X e (tB t) := by
  intro pins s σ H Q I hw;refine isTrue_plain (fP (h pins s σ H _ I hw) fun v s1 ⟨x, H1, I1, r1, q1⟩ => ?_) (he _);obtain ⟨d, rfl, q⟩ := q1;cases r1;exact wpAny_truthy_bool ⟨H1, I1, q⟩

variable {tA tB':TT} {rest:List Expr}
def OU (t u:TT):TT:=fun σ H Q=>t σ H fun c H1=>if c=true then u σ H1 Q else Q false H1
def tOr (t u:TT):TT:=fun σ H Q=>t σ H fun c H1=>if c=true then Q true H1 else u σ H1 Q
def OQ (t:TT):TT:=fun σ H Q=>t σ H fun c H1=>Q (!c) H1
theorem lB (ha:PT X a tA):PW X (.BoolOp .And [a] pos) tA:=by
 intro wh pins s σ H Q I h;refine isTrue_and (fP (ha pins s σ H Q I h) fun c s1 e=>?_);cases c with
 | true=>exact isTrue_and_nil e
 | false=>exact e
theorem jm (ha:PT X a tA):PW X (.BoolOp .Or [a] pos) tA:=by
 intro wh pins s σ H Q I h;refine isTrue_or (fP (ha pins s σ H Q I h) fun c s1 e=>?_);cases c with
 | false=>exact isTrue_or_nil e
 | true=>exact e
theorem jV (ha:PT X a tA) (hb:PW X (.BoolOp .And (b :: rest) pos) tB'):PW X (.BoolOp .And (a :: b :: rest) pos) (OU tA tB'):=by
 intro wh pins s σ H Q I h;refine isTrue_and (fP (ha pins s σ H _ I h) fun c s1 ⟨H1,I1,q1⟩=>?_);cases c with
 | true=>exact hb wh pins s1 σ H1 Q I1 q1
 | false=>exact ⟨H1,I1,q1⟩
theorem mV (ha:PT X a tA) (hb:PW X (.BoolOp .Or (b :: rest) pos) tB'):PW X (.BoolOp .Or (a :: b :: rest) pos) (tOr tA tB'):=by
 intro wh pins s σ H Q I h;refine isTrue_or (fP (ha pins s σ H _ I h) fun c s1 ⟨H1,I1,q1⟩=>?_);cases c with
 | true=>exact ⟨H1,I1,q1⟩
 | false=>exact hb wh pins s1 σ H1 Q I1 q1
theorem kK (ha:PT X a tA):PT X (.UnaryOp .Not a pos) (OQ tA):=by
 intro pins s σ H Q I h;exact isTrue_not (ha pins s σ H (fun c H1=>Q (!c) H1) I h)
def Ms (ta tb:TE):TE:=fun σ H Q=>ta σ H fun x H1=>∃c,x=.bl c/\if c=true then tb σ H1 Q else Q (.bl false) H1
def Mn (ta:TE):TE:=fun σ H Q=>ta σ H fun x H1=>∃c,x=.bl c/\Q (.bl (!c)) H1
theorem EF {op} {t:TE} (h:PE X a t):PE X (.BoolOp op [a] pos) t:=fun pins s σ H Q I hw=>BoolOp_one (h pins s σ H Q I hw)
theorem EH (ha:PE X a ta) (hb:PE X (.BoolOp .And (b :: rest) pos) tb):PE X (.BoolOp .And (a :: b :: rest) pos) (Ms ta tb):=by
 intro pins s σ H Q I h;refine BoolOp_and (fP (ha pins s σ H _ I h) fun v s1 ⟨x,H1,I1,r1,q1⟩=>?_);obtain ⟨c,rfl,q1⟩:=q1;cases r1;refine wpAny_truthy_bool ?_;cases c with
 | true=>exact hb pins s1 σ H1 Q I1 q1
 | false=>exact ⟨.bl false,H1,I1,rfl,q1⟩
theorem NR (ha:PE X a ta):PE X (.UnaryOp .Not a pos) (Mn ta):=by
 intro pins s σ H Q I h;refine UnaryOp_ (fP (ha pins s σ H _ I h) fun v s1 ⟨x,H1,I1,r1,q1⟩=>?_);obtain ⟨c,rfl,q1⟩:=q1;cases r1;exact not_of (wpAny_truthy_bool ⟨.bl (!c),H1,I1,rfl,q1⟩)
def tIf (t:TT) (ta tb:TE):TE:=fun σ H Q=>t σ H fun c H1=>if c=true then ta σ H1 Q else tb σ H1 Q
theorem Ju {c:Expr} (hc:PT X c tA) (ha:PE X a ta) (hb:PE X b tb):PE X (.IfExp c a b pos) (tIf tA ta tb):=by
 intro pins s σ H Q I h;refine wpAny_IfExp (fP (hc pins s σ H _ I h) fun d s1 ⟨H1,I1,q1⟩=>?_);cases d with
 | true=>exact ha pins s1 σ H1 Q I1 q1
 | false=>exact hb pins s1 σ H1 Q I1 q1
end
def bV (K:PySem.W.Frag) (H:Hp) (a:Addr) (xs:List V):Prop :=
 Rd H a (.lst xs) \/
  ∃(o:Obj) (its:Array Value) (n:Nat),K.lookup a=some o/\o.cls=.type "list"/\o.dict=none/\o.data=.seq its n/\its.size<=sizeLine/\cL xs its.toList
def oI (K:PySem.W.Frag) (H:Hp) (a:Addr) (xs:List V):Prop :=
 Rd H a (.tup xs) \/
  ∃(o:Obj) (its:Array Value) (n:Nat),K.lookup a=some o/\o.cls=.type "tuple"/\o.data=.seq its n/\its.size<=sizeLine/\cL xs its.toList
def Ql:Value->Option V
 | .none=>some .non
 | .bool b=>some (.bl b)
 | .int i _=>some (.int i)
 | .str x _=>some (.str x)
 | .bytes b _=>some (.byt b)
 | .float b _=>some (.flt b)
 | .ref a=>some (.ref a)
 | .type n=>some (.ty n)
 | _=>none
theorem RelV.abs {x:V} {u:Value} (r:RelV x u):Ql u=some x:=by
 cases x with
 | non=>cases r;rfl
 | bl _=>cases r;rfl
 | int _=>obtain ⟨t,rfl⟩:=r;rfl
 | str _=>obtain ⟨t,rfl⟩:=r;rfl
 | byt _=>obtain ⟨t,rfl⟩:=r;rfl
 | flt _=>obtain ⟨t,rfl⟩:=r;rfl
 | ref _=>cases r;rfl
 | ty _=>cases r;rfl
theorem RelV.inj {x y:V} {u:Value} (r:RelV x u) (q:RelV y u):x=y:=cg (r.abs.symm.trans q.abs)
theorem cL.inj:∀{xs ys:List V} {us:List Value},cL xs us->cL ys us->xs=ys
 | _,_,_,.nil,.nil=>rfl
 | _,_,_,.cons r t,.cons r' t'=>by rw[r.inj r',cL.inj t t']
section
variable {X:Cx} {pins:List (Addr×Obj)} {σ:St} {H:Hp} {s:Shared} {a:Addr} {xs ys:List V}
theorem bV.of {K:PySem.W.Frag} (h:H a=some (.lst xs)):bV K H a xs:=.inl (.inl h)
theorem oI.of {K:PySem.W.Frag} (h:H a=some (.tup xs)):oI K H a xs:=.inl (.inl h)
theorem Inv.list (I:Inv X pins σ H s) (h:bV X.K H a xs):∃its:List Value,cL xs its/\PlainL s.heap a its.toArray/\xs.length<=sizeLine:=by
 rcases h with h | ⟨o,its,n,hk,hc,hd,hs,hz,r⟩
 ·obtain ⟨z,its,n,r,e⟩:=h.ok I.hok;exact ⟨its,r,⟨_,n,e,rfl,rfl,rfl⟩,z⟩
 ·refine ⟨its.toList,r,⟨o,n,I.kIn a o hk,hc,hd,by simpa using hs⟩,?_⟩;have e:=r.length;simp only[Array.length_toList] at e
  lia
theorem Inv.tuple (I:Inv X pins σ H s) (h:oI X.K H a xs):∃its:List Value,cL xs its/\IsTup s.heap a its.toArray/\xs.length<=sizeLine:=by
 rcases h with h | ⟨o,its,n,hk,hc,hs,hz,r⟩
 ·obtain ⟨z,its,r,p⟩:=h.ok I.hok;exact ⟨its,r,p,z⟩
 ·refine ⟨its.toList,r,⟨o,I.kIn a o hk,hc,n,by simpa using hs⟩,?_⟩;have e:=r.length;simp only[Array.length_toList] at e
  lia
theorem Inv.list_inj (I:Inv X pins σ H s) (h:bV X.K H a xs) (h':bV X.K H a ys):xs=ys:=by
 obtain ⟨its,r,⟨o,n,e,_,_,d⟩,_⟩:=I.list h;obtain ⟨its',r',⟨o',n',e',_,_,d'⟩,_⟩:=I.list h';rw[e] at e';cases e';rw[d] at d';injection d' with d1 _
 have:its=its':=by simpa using congrArg Array.toList d1
 subst this;exact r.inj r'
theorem Inv.tuple_inj (I:Inv X pins σ H s) (h:oI X.K H a xs) (h':oI X.K H a ys):xs=ys:=by
 obtain ⟨its,r,⟨o,e,_,n,d⟩,_⟩:=I.tuple h;obtain ⟨its',r',⟨o',e',_,n',d'⟩,_⟩:=I.tuple h';rw[e] at e';cases e';rw[d] at d';injection d' with d1 _
 have:its=its':=by simpa using congrArg Array.toList d1
 subst this;exact r.inj r'
end
abbrev Cx.wish (X:Cx) (E:Value->Shared->Prop):Cx:={ X with xe:=E }
abbrev Cx.nox (X:Cx):Cx:=X.wish fun _ _=>False
theorem Cx.Ok.wish {X:Cx} (ok:X.Ok) (E:Value->Shared->Prop):(X.wish E).Ok :=
 ⟨ok.mod,ok.kind,ok.glob,ok.blt,ok.above,ok.inj,ok.has,ok.cab,ok.hd,ok.frames,ok.stk,ok.exf,ok.bs,ok.bsz,ok.noex,ok.exfs,ok.funs,ok.frf⟩
theorem Cx.Ok.unwish {X:Cx} {E:Value->Shared->Prop} (ok:(X.wish E).Ok):X.Ok :=
 ⟨ok.mod,ok.kind,ok.glob,ok.blt,ok.above,ok.inj,ok.has,ok.cab,ok.hd,ok.frames,ok.stk,ok.exf,ok.bs,ok.bsz,ok.noex,ok.exfs,ok.funs,ok.frf⟩
section
variable {X:Cx} {pins:List (Addr×Obj)} {σ:St} {H:Hp} {s:Shared} {E:Value->Shared->Prop}
theorem Inv.wish (I:Inv X pins σ H s) (E:Value->Shared->Prop):Inv (X.wish E) pins σ H s:=⟨I.ok.wish E,I.os,I.bare,I.base,I.loc,I.cell,I.free,I.freeC,I.pin,I.hok,I.len⟩
theorem Inv.unwish (I:Inv (X.wish E) pins σ H s):Inv X pins σ H s:=⟨I.ok.unwish,I.os,I.bare,I.base,I.loc,I.cell,I.free,I.freeC,I.pin,I.hok,I.len⟩
theorem SP.unwish {D:Ends} {f:Flow} {s':Shared} (h:SP (X.wish E) pins D f s'):SP X pins D f s':=by
 cases f with
 | next=>obtain ⟨σ',H',I,q⟩:=h;exact ⟨σ',H',I.unwish,q⟩
 | brk=>obtain ⟨σ',H',I,q⟩:=h;exact ⟨σ',H',I.unwish,q⟩
 | cont=>obtain ⟨σ',H',I,q⟩:=h;exact ⟨σ',H',I.unwish,q⟩
 | ret u=>obtain ⟨v,σ',H',I,r,q⟩:=h;exact ⟨v,σ',H',I.unwish,r,q⟩
theorem Fc.nox {st:List Stmt} {t:TS} (h:Fc X.nox st t):Fc X st t:=fun pins s σ H D I hw =>
 wpAny_mono (h pins s σ H D (I.wish _) hw) (fun _ _ q=>q.unwish) fun _ _ z=>False.elim z
end
section
variable {X:Cx} {st:Stmt} {rest:List Stmt} {t u:TS} {e:Expr} {te:TE} {pos:Pos}
def Mo:TS:=fun D σ H=>D.nx σ H
def OM (t u:TS):TS:=fun D σ H=>t { D with nx:=u D } σ H
theorem bS:Fc X [] Mo:=fun _ _ σ H _ I h=>wpAny_execs_nil ⟨σ,H,I,h⟩
theorem au (h1:PS X st t) (h2:Fc X rest u):Fc X (st :: rest) (OM t u):=by
 intro pins s σ H D I h;refine wpAny_execs_cons (fP (h1 pins s σ H { D with nx:=u D } I h) fun f s1 q=>?_);cases f with
 | next =>
  obtain ⟨σ',H',I',q⟩:=q;exact h2 pins s1 σ' H' D I' q
 | ret v=>exact q
 | brk=>exact q
 | cont=>exact q
theorem aB (h1:PS X st t):Fc X [st] t:=by
 intro pins s σ H D I h;refine wpAny_execs_cons (fP (h1 pins s σ H D I h) fun f s1 q=>?_);cases f with
 | next=>exact wpAny_execs_nil q
 | ret v=>exact q
 | brk=>exact q
 | cont=>exact q
theorem Inv.quiet {pins:List (Addr×Obj)} {σ:St} {H:Hp} {s:Shared} (I:Inv X pins σ H s):interactive X.env=false:=by simp [interactive,I.ok.kind]
def Mq (te:TE):TS:=fun D σ H=>te σ H fun _ H1=>D.nx σ H1
theorem iC (he:PE X e te) (hs:swapsWith e none pos.line X.env=pure false:=by rfl):PS X (.Expr e pos) (Mq te):=by
 intro pins s σ H D I h;exact wpAny_Expr_any (fP (he pins s σ H _ I h) fun v s1 ⟨x,H1,I1,r1,q1⟩=>⟨σ,H1,I1,q1⟩) I.quiet hs
def ON (te:TE):TS:=fun D σ H=>te σ H D.rt
theorem aV (he:PE X e te):PS X (.Return (some e) pos) (ON te):=by
 intro pins s σ H D I h;exact wpAny_Return_some (fP (he pins s σ H _ I h) fun v s1 ⟨x,H1,I1,r1,q1⟩=>⟨x,σ,H1,I1,r1,q1⟩)
def OS (c:TT) (t u:TS):TS:=fun D σ H=>c σ H fun b H1=>if b=true then t D σ H1 else u D σ H1
theorem cT {c:Expr} {a b:List Stmt} {tc:TT} (hc:PT X c tc) (ha:Fc X a t) (hb:Fc X b u):PS X (.If c a b pos) (OS tc t u):=by
 intro pins s σ H D I h;refine wpAny_If (fP (hc pins s σ H _ I h) fun d s1 ⟨H1,I1,q1⟩=>?_);cases d with
 | true=>exact ha pins s1 σ H1 D I1 q1
 | false=>exact hb pins s1 σ H1 D I1 q1
end
abbrev TG:=V->St->Hp->(St->Hp->Prop)->Prop
abbrev KC:=List V->St->Hp->(St->Hp->Prop)->Prop
def PG (X:Cx) (target:Expr) (t:TG):Prop :=
 ∀(pins:List (Addr×Obj)) (s:Shared) (σ:St) (H:Hp) (v:V) (u:Value) (Q:St->Hp->Prop),Inv X pins σ H s->RelV v u->t v σ H Q →
  wpAny (model X.prog X.w) X.A (assign target X.env u) (fun _ s'=>∃σ' H',Inv X pins σ' H' s'/\Q σ' H') X.xe s
def PD (X:Cx) (ts:List Expr) (t:KC):Prop :=
 ∀(pins:List (Addr×Obj)) (s:Shared) (σ:St) (H:Hp) (vs:List V) (us:List Value) (Q:St->Hp->Prop),Inv X pins σ H s->cL vs us->t vs σ H Q →
  wpAny (model X.prog X.w) X.A (assignInOrder ((assignEach ts X.env).map (·.2)) us) (fun _ s'=>∃σ' H',Inv X pins σ' H' s'/\Q σ' H') X.xe s
abbrev E8:=V->V->V->Hp->(Hp->Prop)->Prop
def Om (X:Cx) (t:E8):Prop :=
 ∀(pins:List (Addr×Obj)) (s:Shared) (σ:St) (H:Hp) (o i v:V) (ov iv u:Value) (Q:Hp->Prop),Inv X pins σ H s->RelV o ov->RelV i iv->RelV v u->t o i v H Q →
  wpAny (model X.prog X.w) X.A (setItem ov iv u) (fun _ s'=>∃H',Inv X pins σ H' s'/\Q H') X.xe s
abbrev PC:=V->V->Hp->VK->Prop
def PIp (X:Cx) (op:Operator) (t:PC):Prop :=
 ∀(pins:List (Addr×Obj)) (s:Shared) (σ:St) (H:Hp) (x y:V) (v u:Value) (Q:VK),Inv X pins σ H s->RelV x v->RelV y u->t x y H Q →
  wpAny (model X.prog X.w) X.A (inplaceOp op v u) (EP X pins σ Q) X.xe s
section
variable {X:Cx} {pos:Pos}
def FP (i:Nat):TG:=fun v σ H Q=>Q (σ.set i (some v)) H
theorem aR {i:Nat} {x:Str} (hN:X.N.Nodup) (hi:X.N[i]?=some x:=by exact rfl) (hx:Loc X.env.scope x:=by exact Or.inl rfl) (hf:X.fn x=true\/X.env.scope.names.lookup x=some .local:=by first | exact .inl rfl | exact .inr rfl | assumption):PG X (.Name x pos) (FP i):=by
 intro pins s σ H v u Q I r h;exact wpAny_assign_Name (vY I hN hi hx r (fun s' I'=>⟨_,H,I',h⟩) hf)
def Pw:KC:=fun vs σ H Q=>vs=[]/\Q σ H
def MJ (t:TG) (u:KC):KC:=fun vs σ H Q=>∃v r,vs=v :: r/\t v σ H fun σ' H'=>u r σ' H' Q
theorem iD:PD X [] Pw:=by
 intro pins s σ H vs us Q I r h;obtain ⟨e,h⟩:=h;subst e;cases r;exact assignInOrder_nil ⟨σ,H,I,h⟩
theorem cA {e:Expr} {es:List Expr} {t:TG} {u:KC} (h1:PG X e t) (h2:PD X es u)
  (hs:(assignEach (e :: es) X.env).map (·.2)=assign e X.env :: (assignEach es X.env).map (·.2):=by rfl):PD X (e :: es) (MJ t u):=by
 intro pins s σ H vs us Q I r h;obtain ⟨v,vr,e1,h⟩:=h;subst e1;cases r with
 | cons r rr =>
  rw[hs];refine assignInOrder_cons (fP (h1 pins s σ H _ _ _ I r h) fun _ s1 ⟨σ1,H1,I1,q1⟩=>?_);exact h2 pins s1 σ1 H1 _ _ Q I1 rr q1
def Oc (K:PySem.W.Frag) (n:Nat) (t:KC):TG:=fun v σ H Q=>∃a xs,v=.ref a/\oI K H a xs/\xs.length=n/\t xs σ H Q
theorem tu {es:List Expr} {k:Nat} {t:KC} {n:Nat} (hc:X.calm=true) (h:PD X es t)
  (hn:(assignEach es X.env).length=n:=by rfl) (hst:(assignEach es X.env).findIdx? (·.1)=none:=by rfl):PG X (.Tuple es k pos) (Oc X.K n t):=by
 intro pins s σ H v u Q I r hw;obtain ⟨a,xs,e1,hq,hl,hw⟩:=hw;subst e1;cases r;obtain ⟨its,rv,ht,hz⟩:=I.tuple hq;refine assign_Tuple_tuple (I.ok.hd hc) ht (by simp [hn,<- hl,rv.length]) hst fun h' hx=>?_
 have I1:Inv X pins σ H { s with heap:=h' }:=I.kept (t':=s.toks) fun b o e=>hx b o (b7 (Heap.lt_size e)) e
 exact h pins _ σ H xs _ Q I1 (by simpa using rv) hw
def Pu (to ti:TE) (t:E8):TG:=fun v σ H Q=>to σ H fun o H1=>ti σ H1 fun i H2=>t o i v H2 fun H3=>Q σ H3
theorem h8 {o i : Expr} {to ti : TE} {t : E8} (ho : PE X o to) (hi : PE X i ti) (hs : Om X t)
    (ha : ∀ v, assign (.Subscript o i pos) X.env v = (do
      let ov <- holding [v] (eval o X.env)
      let iv <- holding [v, ov] (eval i X.env)
      standAt pos
      holding [v, ov, iv] (setItem ov iv v)
      release [v, ov, iv] []) := by intro _; rfl) : PG X (.Subscript o i pos) (Pu to ti t) := by
  intro pins s σ H v u Q I r h;rw [ha];refine wpAny_bind (wpAny_holding (fP (ho pins s σ H _ I h) fun ov s1 ⟨x, H1, I1, r1, q1⟩ => ?_));refine wpAny_bind (wpAny_holding (fP (hi pins s1 σ H1 _ I1 q1) fun iv s2 ⟨y, H2, I2, r2, q2⟩ => ?_));refine wpAny_bind (wpAny_standAt (wpAny_bind (wpAny_holding (fP (hs pins s2 σ H2 x y v ov iv u _ I2 r1 r2 r q2) fun _ s3 ⟨H3, I3, q3⟩ => ?_))));exact wpAny_release ⟨σ, H3, I3, q3⟩
def KP (te:TE) (g:TG):TS:=fun D σ H=>te σ H fun x H1=>g x σ H1 D.nx
theorem eV {tg e:Expr} {te:TE} {g:TG} (he:PE X e te) (hg:PG X tg g) (hs:swapsWithSole [tg] e pos.line X.env=pure false:=by rfl) (hw:swappedStores [tg] e X.env=pure none:=by rfl)
  (h1:(assignEach [tg] X.env).map (·.2)=[assign tg X.env]:=by rfl):PS X (.Assign [tg] e pos) (KP te g):=by
 intro pins s σ H D I h;refine wpAny_Assign_stores (fP (he pins s σ H _ I h) fun v s1 ⟨x,H1,I1,r1,q1⟩=>?_) hs hw;rw[h1];exact fP (hg pins s1 σ H1 x v _ I1 r1 q1) fun _ s2 q=>q
theorem bh {i:Nat} {x:Str} {e:Expr} {te:TE} {pos':Pos} (hN:X.N.Nodup) (hi:X.N[i]?=some x) (hx:Loc X.env.scope x) (he:PE X e te) (hs:swapsWith e (some (.Name x pos')) pos.line X.env=pure false:=by rfl) (hf:X.fn x=true\/X.env.scope.names.lookup x=some .local:=by first | exact .inl rfl | exact .inr rfl | assumption) :
  PS X (.Assign [.Name x pos'] e pos) (KP te (FP i)):=by
 intro pins s σ H D I h;refine wpAny_Assign_Name (fP (he pins s σ H _ I h) fun v s1 ⟨y,H1,I1,r1,q1⟩=>?_) hs;exact vY I1 hN hi hx r1 (fun s2 I2=>⟨_,H1,I2,q1⟩) hf
def OO (i j:Nat) (ta:TA):TS:=fun D σ H=>ta σ H fun vs H1=>∃v w,vs=[v,w]/\D.nx ((σ.set i (some v)).set j (some w)) H1
theorem Jp {i j : Nat} {x y : Str} {a b : Expr} {ta : TA} {px py pt : Pos} {kt k2 pt2} (hc : X.calm = true) (hN : X.N.Nodup) (hi : X.N[i]? = some x) (hj : X.N[j]? = some y) (hij : i ≠ j)
    (hx : X.env.scope.names.lookup x = some .local) (hy : X.env.scope.names.lookup y = some .local) (ha : PA X [a, b] ta)
    (hw : swappedStores [.Tuple [.Name x px, .Name y py] kt pt] (.Tuple [a, b] k2 pt2) X.env = pure (some [x, y]))
    (hs : swapsWithSole [.Tuple [.Name x px, .Name y py] kt pt] (.Tuple [a, b] k2 pt2) pos.line X.env = pure false := by rfl) :
    PS X (.Assign [.Tuple [.Name x px, .Name y py] kt pt] (.Tuple [a, b] k2 pt2) pos) (OO i j ta) := by
  intro pins s σ H D I h;rw [exec_Assign_arm];refine wpAny_bind (wpAny_standAt ?_);rw [hs];refine wpAny_bind (wpAny_pure ?_);rw [if_neg (by decide)];refine wpAny_bind (Tuple_ (fP (ha _ pins s σ H _ I h) fun us s1 ⟨vs, H1, I1, r1, q1⟩ => ?_));obtain ⟨v, w, e1, q1⟩ := q1;subst e1
  obtain ⟨u1, u2, rfl, rv, rw'⟩ : ∃ u1 u2, us = [u1, u2] /\ RelV v u1 /\ RelV w u2 := by
    cases r1 with
    | cons p q =>
      cases q with
      | cons p' q' =>
        cases q';exact ⟨_, _, rfl, p, p'⟩
  refine wpAny_newObj_type ?_ (by show 2 ≤ sizeLine; decide);have I2 : Inv X pins σ H1 { s1 with heap := s1.heap.push { cls := .type "tuple", data := .seq [u1, u2].toArray } } := I1.kept (t' := s1.toks) fun b o e => Heap.get?_push_of_some _ e
  rw [hw];refine wpAny_bind (wpAny_pure ?_);show wpAny (model X.prog X.w) X.A (do rule "assign.swapped-stores"; let items <- unpackItems (.ref s1.heap.objs.size) 2 none; assignInOrder [fun v => bindName X.env y v, fun v => bindName X.env x v] items.reverse; pure Flow.next) _ _ _
  refine wpAny_bind (wpAny_rule (wpAny_bind (unpackItems_tuple (items := #[u1, u2]) (I.ok.hd hc) (IsTup.new s1.heap _) fun h' hx' => ?_)));have I3 := I2.kept (h' := h') (t' := s1.toks) fun b o e => hx' b o (b7 (Heap.lt_size e)) e
  show wpAny _ _ (assignInOrder [fun v => bindName X.env y v, fun v => bindName X.env x v] [u2, u1] >>= fun _ => pure Flow.next) _ _ _
  refine wpAny_bind (assignInOrder_cons (wpAny_bindName (vY I3 hN hj (.inl hy) rw' (fun s2 I4 => ?_) (.inr hy))));refine assignInOrder_cons (wpAny_bindName (vY I4 hN hi (.inl hx) rv (fun s3 I5 => assignInOrder_nil (wpAny_pure ?_)) (.inr hx)));rw [List.set_comm _ _ (Ne.symm hij)] at I5;exact ⟨_, H1, I5, q1⟩
def Mr (to ti te:TE) (tget:V->V->Hp->VK->Prop) (tip:PC) (tset:E8):TS:=fun D σ H=>to σ H fun o H1=>ti σ H1 fun i H2=>tget o i H2 fun x H3=>te σ H3 fun y H4=>tip x y H4 fun z H5=>tset o i z H5 fun H6=>D.nx σ H6
def PH (X:Cx) (t:V->V->Hp->VK->Prop):Prop :=
 ∀(pins:List (Addr×Obj)) (s:Shared) (σ:St) (H:Hp) (o i:V) (ov iv:Value) (Q:VK),Inv X pins σ H s->RelV o ov->RelV i iv->t o i H Q →
  wpAny (model X.prog X.w) X.A (getItem ov iv) (EP X pins σ Q) X.xe s
theorem LG {o i e : Expr} {to ti te : TE} {tget : V → V → Hp → VK → Prop} {tip : PC} {tset : E8} {op : Operator} {tpos : Pos} (ho : PE X o to) (hi : PE X i ti) (hg : PH X tget) (he : PE X e te) (hp : PIp X op tip) (hs : Om X tset)
    (ha : ∀ ov iv new, augStore i ov iv new = (do holding [new, ov, iv] (setItem ov iv new); release [new, ov, iv] []; pure .next) := by intros; rfl) : PS X (.AugAssign (.Subscript o i tpos) op e pos) (Mr to ti te tget tip tset) := by
  intro pins s σ H D I h;refine wpAny_AugAssign_SubscriptAny (fP (ho pins s σ H _ I h) fun ov s1 ⟨x1, H1, I1, r1, q1⟩ => ?_) ha;refine fP (hi pins s1 σ H1 _ I1 q1) fun iv s2 ⟨x2, H2, I2, r2, q2⟩ => ?_
  refine fP (hg pins s2 σ H2 x1 x2 ov iv _ I2 r1 r2 q2) fun old s3 ⟨x3, H3, I3, r3, q3⟩ => ?_
  refine fP (he pins s3 σ H3 _ I3 q3) fun v s4 ⟨x4, H4, I4, r4, q4⟩ => ?_
  refine fP (hp pins s4 σ H4 x3 x4 old v _ I4 r3 r4 q4) fun new s5 ⟨x5, H5, I5, r5, q5⟩ => ?_
  exact fP (hs pins s5 σ H5 x1 x2 x5 ov iv new _ I5 r1 r2 r5 q5) fun _ s6 ⟨H6, I6, q6⟩ => ⟨σ, H6, I6, q6⟩
def ipI (f:Int->Int->Int):PC:=fun x y H Q=>∃i j,x=.int i/\y=.int j/\Q (.int (f i j)) H
theorem N6:PIp X .Add (ipI fun i j=>i+j):=by
 intro pins s σ H x y v u Q I r1 r2 h;obtain ⟨i,j,e1,e2,q⟩:=h;subst e1;subst e2;obtain ⟨t,rfl⟩:=r1;obtain ⟨t',rfl⟩:=r2;exact iadd_int ⟨.int _,H,I.tok _,⟨_,rfl⟩,q⟩
end
section
variable {X:Cx} {pos:Pos}
def Iz (c:TT) (tb:TS):TS:=fun D σ H=>∃W:Nat->St->Hp->Prop,(∃m,W m σ H)/\∀m σ H,W m σ H →
 c σ H fun b H1=>if b=true then ∃N:St->Hp->Prop,(∀σ' H',N σ' H'->∃m',m' < m/\W m' σ' H')/\tb { D with nx:=N,ct:=N,bk:=D.nx } σ H1 else D.nx σ H1
theorem zO {c:Expr} {body:List Stmt} {tc:TT} {tb:TS} (hp:PassesOwn (model X.prog X.w) X.A X.env X.xe) (hc:PT X c tc) (hb:Fc X body tb):PS X (.While c body [] pos) (Iz tc tb):=by
 intro pins s σ H D I h;obtain ⟨W,⟨m0,w0⟩,turn⟩:=h;refine wpAny_While (codeAny_whileLoop (fun n s'=>∃σ' H',Inv X pins σ' H' s'/\W n σ' H') ?_ m0 ⟨σ,H,I,w0⟩);rintro n s1 ⟨σ1,H1,I1,w1⟩;refine wpAny_passesOwn hp (fP (hc pins s1 σ1 H1 _ I1 (turn n σ1 H1 w1)) fun b s2 ⟨H2,I2,q2⟩=>?_);cases b with
 | true =>
  obtain ⟨N,hN,q2⟩:=q2;rw[if_pos rfl];refine wpAny_passesOwn hp (fP (hb pins s2 σ1 H2 _ I2 q2) fun f s3 q3=>?_);cases f with
  | next =>
   obtain ⟨σ3,H3,I3,n3⟩:=q3;obtain ⟨m',hm,w3⟩:=hN σ3 H3 n3;exact ⟨m',hm,σ3,H3,I3,w3⟩
  | cont =>
   obtain ⟨σ3,H3,I3,n3⟩:=q3;obtain ⟨m',hm,w3⟩:=hN σ3 H3 n3;exact ⟨m',hm,σ3,H3,I3,w3⟩
  | brk=>exact q3
  | ret v=>exact q3
 | false =>
  rw[if_neg aX];exact wpAny_execs_nil ⟨σ1,H2,I2,q2⟩
end
structure It where
 go:Nat->Hp->Prop
 yld:Nat->Hp->V->Hp->Prop
 stop:Nat->Hp->Prop
def kX (X:Cx) (pins:List (Addr×Obj)) (H:Hp) (b:Addr):Prop :=
 H b=none/\b≠X.env.locals/\b∉X.fs/\(b∈X.ex\/X.s₀.heap.objs.size<=b)/\(∀x c,X.env.cells.lookup x=some c->c≠b)/\∀p∈X.pn++pins,p.1≠b
theorem Inv.fpOk {X:Cx} {pins:List (Addr×Obj)} {σ:St} {H H':Hp} {s:Shared} {b:Addr} (I:Inv X pins σ H s) (hb:s.heap.objs.size<=b) (hn:H' b=none):kX X pins H' b:=by
 refine ⟨hn,Gn (bG I.lt hb),I.nofs hb,.inr (ah I.sz hb),fun x c e z=>?_,fun p hp z=>?_⟩
 ·obtain ⟨v,q⟩:=I.cell x c e;exact absurd (bG q.lt (by rw[z];exact hb)) (dZ _)
 ·exact absurd (bG (Heap.lt_size (I.pin p hp).1) (by rw[z];exact hb)) (dZ _)
structure Turn (P:Program) (w:World) (K:PySem.W.Frag) (tg:Expr) (J:It) (fp:List Addr) (it:Addr) (tn:Nat->Heap->Prop):Prop where
 mem:it∈fp
 obj:∀i h,tn i h->∀b∈fp,∃o,h.get? b=some o/\∀v,o.data≠.cell v
 keep:∀i h h',tn i h->(∀b∈fp,∀o,h.get? b=some o->h'.get? b=some o)->tn i h'
 item:∀(X:Cx),X.prog=P->X.w=w->X.K=K->X.calm=true->∀(i:Nat) (pins:List (Addr×Obj)) (s:Shared) (σ:St) (H:Hp) (E:Value->Shared->Prop),Inv X pins σ H s->(∀b∈fp,kX X pins H b)->tn i s.heap->J.go i H →
  wpAny (model P w) X.A (pyNext (.ref it)) (fun r s1=>∃u,r=some u /\
   wpAny (model P w) X.A (letOwnedTupleGo tg (.ref it) u) (fun _ s2=>∃x H',Inv X pins σ H' s2/\RelV x u/\J.yld i H x H'/\tn (i+1) s2.heap/\∀b∈fp,H' b=none) E s1) E s
 done:∀(X:Cx),X.prog=P->X.w=w->X.K=K->X.calm=true->∀(i:Nat) (pins:List (Addr×Obj)) (s:Shared) (σ:St) (H:Hp) (E:Value->Shared->Prop),Inv X pins σ H s->(∀b∈fp,kX X pins H b)->tn i s.heap->J.stop i H →
  wpAny (model P w) X.A (pyNext (.ref it)) (fun r s1=>r=none/\Inv X pins σ H s1) E s
 self:∀(A:Around) (i:Nat) (s:Shared) (Q:Value->Shared->Prop) (E:Value->Shared->Prop),tn i s.heap->Q (.ref it) s->wpAny (model P w) A (pyIter (.ref it)) Q E s
abbrev TI:=St->Hp->(It->Hp->Prop)->Prop
def PIE (X:Cx) (pins:List (Addr×Obj)) (σ:St) (tg:Expr) (R:It->Hp->Prop) (itv:Value) (s2:Shared):Prop :=
 ∃(it:Addr) (fp:List Addr) (tn:Nat->Heap->Prop) (J:It) (H':Hp),itv=.ref it/\Inv X pins σ H' s2/\Turn X.prog X.w X.K tg J fp it tn/\tn 0 s2.heap/\(∀b∈fp,kX X pins H' b)/\R J H'
def PI (X:Cx) (tg iter:Expr) (wi:TI):Prop :=
 ∀(pins:List (Addr×Obj)) (s:Shared) (σ:St) (H:Hp) (R:It->Hp->Prop),Inv X pins σ H s->wi σ H R →
  wpAny (model X.prog X.w) X.A (eval iter X.env) (fun v s1=>wpAny (model X.prog X.w) X.A (pyIter v) (PIE X pins σ tg R) X.xe s1) X.xe s
theorem JW {M : Model} {A : Around} {E : Value → Shared → Prop} {s : Shared} {tg : Expr} {it : Addr} {u : Value} {o : Obj} {n : String} {vs : Array Value} {Q : Unit → Shared → Prop} (ho : s.heap.get? it = some o) (hc : o.cls = .type n) (hd : o.data = .fields vs)
    (hn : ["enumerate", "zip", "dict_itemiterator", "dict_reverseitemiterator", "odict_iterator", "itertools.zip_longest", "itertools.pairwise"].contains n = false) (hQ : Q () s) : wpAny M A (letOwnedTupleGo tg (.ref it) u) Q E s := by
  unfold letOwnedTupleGo
  cases tg <;> first
    | exact wpAny_pure hQ
    | (cases u <;> first
        | exact wpAny_pure hQ
        | (refine wpAny_bind (wpAny_load ho ?_)
           rw [hc, hd];show wpAny M A (if (["enumerate", "zip", "dict_itemiterator", "dict_reverseitemiterator", "odict_iterator", "itertools.zip_longest", "itertools.pairwise"].contains n && vs[0]? == some (rawInt _)) = true then _ else _) Q E s
           rw [if_neg (by intro h; rw [hn, Bool.false_and] at h; cases h)];exact wpAny_pure hQ))

def Me (K:PySem.W.Frag) (a:Addr):It :=
 ⟨fun i H=>∃xs x,bV K H a xs/\xs[i]?=some x,fun i H x H'=>H'=H/\∀xs,bV K H a xs->xs[i]?=some x,fun i H=>∃xs,bV K H a xs/\xs.length<=i⟩
def OA (K:PySem.W.Frag) (a:Addr):It :=
 ⟨fun i H=>∃xs x,oI K H a xs/\xs[i]?=some x,fun i H x H'=>H'=H/\∀xs,oI K H a xs->xs[i]?=some x,fun i H=>∃xs,oI K H a xs/\xs.length<=i⟩
def D4 (lo:Int) (n:Nat):It:=⟨fun i _=>i < n,fun i H x H'=>H'=H/\x=.int (lo+i),fun i _=>n<=i⟩
theorem Gz {P:Program} {w:World} {K:PySem.W.Frag} {tg:Expr} (a it:Addr):Turn P w K tg (Me K a) [it] it (fun i h=>h.IsListIter it a i) where
 mem:=by simp
 obj:=fun i h st b hb=>by
  have e:b=it:=by simpa using hb
  subst e;obtain ⟨o,e,c,d⟩:=st;exact ⟨o,e,fun v z=>by rw[d] at z;cases z⟩
 keep:=fun i h h' st k=>st.at fun o e=>k it (by simp) o e
 item:=by
  intro X hP hw hK hc i pins s σ H E I hf st hg;subst hP hw hK;obtain ⟨xs,x,hq,hx⟩:=hg;obtain ⟨its,rv,p,hz⟩:=I.list hq;obtain ⟨u,hu,ru⟩:=rv.get hx;obtain ⟨f0,f1,f2,f3,f4,f5⟩:=hf it (by simp);refine wpAny_pyNext_list_item st p.isList (x:=u) (by simpa using hu) fun h' st' sb=>?_
  have I1:Inv X pins σ H { s with heap:=h' }:=I.turned (t':=s.toks) (fun b o hb e=>(sb.2 b hb).trans e) f0 f1 f3 f4 f5;obtain ⟨o,e,c,d⟩:=id st';exact ⟨u,rfl,JW (s:={ s with heap:=h' }) e c d (by decide) ⟨x,H,I1,ru,⟨rfl,fun ys hy=>by rw[I.list_inj hy hq];exact hx⟩,st',fun b hb=>(hf b hb).1⟩⟩
 done:=by
  intro X hP hw hK hc i pins s σ H E I hf st hg;subst hP hw hK;obtain ⟨xs,hq,hx⟩:=hg;obtain ⟨its,rv,p,hz⟩:=I.list hq;obtain ⟨f0,f1,f2,f3,f4,f5⟩:=hf it (by simp);have hl:=rv.length;exact wpAny_pyNext_list_end (I.ok.hd hc) st p.isList (by simp;lia) fun h' eb=>⟨rfl,I.turned (t':=s.toks) (fun b o hb e=>eb b o hb e) f0 f1 f3 f4 f5⟩
 self:=fun _ _ _ _ _ st h=>wpAny_pyIter_listiter st h
theorem Ed {P:Program} {w:World} {K:PySem.W.Frag} {tg:Expr} (a it:Addr):Turn P w K tg (OA K a) [it] it (fun i h=>h.IsTupleIter it a i) where
 mem:=by simp
 obj:=fun i h st b hb=>by
  have e:b=it:=by simpa using hb
  subst e;obtain ⟨o,e,c,d⟩:=st;exact ⟨o,e,fun v z=>by rw[d] at z;cases z⟩
 keep:=fun i h h' st k=>st.at fun o e=>k it (by simp) o e
 item:=by
  intro X hP hw hK hc i pins s σ H E I hf st hg;subst hP hw hK;obtain ⟨xs,x,hq,hx⟩:=hg;obtain ⟨its,rv,p,hz⟩:=I.tuple hq;obtain ⟨u,hu,ru⟩:=rv.get hx;obtain ⟨f0,f1,f2,f3,f4,f5⟩:=hf it (by simp);refine wpAny_pyNext_tuple_item st (show s.heap.IsTuple a its.toArray from p) (x:=u) (by simpa using hu) fun h' st' sb=>?_
  have I1:Inv X pins σ H { s with heap:=h' }:=I.turned (t':=s.toks) (fun b o hb e=>(sb.2 b hb).trans e) f0 f1 f3 f4 f5;obtain ⟨o,e,c,d⟩:=id st';exact ⟨u,rfl,JW (s:={ s with heap:=h' }) e c d (by decide) ⟨x,H,I1,ru,⟨rfl,fun ys hy=>by rw[I.tuple_inj hy hq];exact hx⟩,st',fun b hb=>(hf b hb).1⟩⟩
 done:=by
  intro X hP hw hK hc i pins s σ H E I hf st hg;subst hP hw hK;obtain ⟨xs,hq,hx⟩:=hg;obtain ⟨its,rv,p,hz⟩:=I.tuple hq;obtain ⟨f0,f1,f2,f3,f4,f5⟩:=hf it (by simp);have hl:=rv.length;exact wpAny_pyNext_tuple_end (I.ok.hd hc) st (show s.heap.IsTuple a its.toArray from p) (by simp;lia) fun h' eb=>⟨rfl,I.turned (t':=s.toks) (fun b o hb e=>eb b o hb e) f0 f1 f3 f4 f5⟩
 self:=fun _ _ _ _ _ st h=>wpAny_pyIter_tupleiter st h
theorem Ee {P:Program} {w:World} {K:PySem.W.Frag} {tg:Expr} (it:Addr) (lo:Int) (n:Nat):Turn P w K tg (D4 lo n) [it] it (fun i h=>IsRangeIter h it (lo+(i:Nat)*1) ((n:Int) - (i:Nat)) 1) where
 mem:=by simp
 obj:=fun i h st b hb=>by
  have e:b=it:=by simpa using hb
  subst e
  exact ⟨_,st,fun v z=>by
   have z':Data.fields _=Data.cell v:=z;cases z'⟩
 keep:=fun i h h' st k=>k it (by simp) _ st
 item:=by
  intro X hP hw hK hc i pins s σ H E I hf st hg;subst hP hw hK;obtain ⟨f0,f1,f2,f3,f4,f5⟩:=hf it (by simp);have W:=Walks.range (prog:=X.prog) (w:=X.w) (I.ok.hd hc) it lo 1 n;refine W.item i s _ _ hg st fun v h' tk hv st' kk=>?_
  obtain ⟨t,rfl⟩:=hv;have I1:Inv X pins σ H { s with heap:=h',toks:=tk }:=I.turned (fun b o hb e=>kk b o (by simpa using hb) e) f0 f1 f3 f4 f5;refine ⟨_,rfl,JW (s:={ s with heap:=h',toks:=tk }) (n:="range_iterator") st' rfl rfl (by decide) ⟨.int (lo+i),H,I1,⟨t,?_⟩,⟨rfl,rfl⟩,st',fun b hb=>(hf b hb).1⟩⟩;rw[Int.mul_one]
 done:=by
  intro X hP hw hK hc i pins s σ H E I hf st hg;subst hP hw hK;obtain ⟨f0,f1,f2,f3,f4,f5⟩:=hf it (by simp);exact wpAny_pyNext_range_end (I.ok.hd hc) st (by have:n<=i:=hg;lia) fun h' eb=>⟨rfl,I.turned (t':=s.toks) (fun b o hb e=>eb b o hb e) f0 f1 f3 f4 f5⟩
 self:=fun _ _ _ _ _ st h=>wpAny_pyIter_rangeiter st h
section
variable {X:Cx} {tg:Expr}
def JU (K:PySem.W.Frag) (tl:TE):TI:=fun σ H R=>tl σ H fun x H1=>∃a,x=.ref a/\(∃xs,bV K H1 a xs)/\R (Me K a) H1
def Pt (K:PySem.W.Frag) (tl:TE):TI:=fun σ H R=>tl σ H fun x H1=>∃a,x=.ref a/\(∃xs,oI K H1 a xs)/\R (OA K a) H1
theorem cZ {l:Expr} {tl:TE} (hl:PE X l tl):PI X tg l (JU X.K tl):=by
 intro pins s σ H R I h;refine fP (hl pins s σ H _ I h) fun v s1 ⟨x,H1,I1,r1,q1⟩=>?_
 obtain ⟨a,e,⟨xs,hq⟩,q⟩:=q1;subst e;cases r1;obtain ⟨its,rv,p,hz⟩:=I1.list hq;refine wpAny_pyIter_list p.isList ?_;refine ⟨s1.heap.objs.size,[s1.heap.objs.size],_,_,H1,rfl,I1.kept (t':=s1.toks) fun b o e=>Heap.get?_push_of_some _ e,Gz a _,⟨_,Heap.get?_push_size _ rfl,rfl,rfl⟩,fun b hb=>?_,q⟩;have e:b=s1.heap.objs.size:=by simpa using hb
 subst e;exact I1.fpOk (av _) (I1.hok.fresh (av _))
theorem NP {l:Expr} {tl:TE} (hl:PE X l tl):PI X tg l (Pt X.K tl):=by
 intro pins s σ H R I h;refine fP (hl pins s σ H _ I h) fun v s1 ⟨x,H1,I1,r1,q1⟩=>?_
 obtain ⟨a,e,⟨xs,hq⟩,q⟩:=q1;subst e;cases r1;obtain ⟨its,rv,p,hz⟩:=I1.tuple hq;refine wpAny_pyIter_tuple (show s1.heap.IsTuple a its.toArray from p) ?_;refine ⟨s1.heap.objs.size,[s1.heap.objs.size],_,_,H1,rfl,I1.kept (t':=s1.toks) fun b o e=>Heap.get?_push_of_some _ e,Ed a _,⟨_,Heap.get?_push_size _ rfl,rfl,rfl⟩,fun b hb=>?_,q⟩;have e:b=s1.heap.objs.size:=by simpa using hb
 subst e;exact I1.fpOk (av _) (I1.hok.fresh (av _))
theorem Ds {pins:List (Addr×Obj)} {σ:St} {H:Hp} {s:Shared} {R:It->Hp->Prop} {E:Value->Shared->Prop} {lo hi:Int} {t u v:Tok} {tk:Nat} (I:Inv X pins σ H s) (h1:-(2^62)<=lo) (h2:lo < 2^62) (h3:-(2^62)<=hi) (h4:hi < 2^62)
  (q:R (D4 lo (hi - lo).toNat) H):wpAny (model X.prog X.w) X.A (pyIter (.ref s.heap.objs.size)) (PIE X pins σ tg R) E { s with heap:=s.heap.push { cls:=.type "range",data:=.fields #[.int lo t,.int hi u,.int 1 v] },toks:=tk }:=by
 refine wpAny_pyIter_range (IsRange.new ..) (small_one h1 h2 h3 h4) ?_;have I1:Inv X pins σ H { s with heap:=s.heap.push { cls:=.type "range",data:=.fields #[.int lo t,.int hi u,.int 1 v] },toks:=tk }:=I.kept fun b o e=>Heap.get?_push_of_some _ e
 refine ⟨(s.heap.push { cls:=.type "range",data:=.fields #[.int lo t,.int hi u,.int 1 v] }).objs.size,[(s.heap.push { cls:=.type "range",data:=.fields #[.int lo t,.int hi u,.int 1 v] }).objs.size],_,_,H,rfl,
  I1.kept (t':=tk) fun b o e=>Heap.get?_push_of_some _ e,Ee _ lo (hi - lo).toNat,?_,fun b hb=>?_,q⟩
 ·have e1:lo+((0:Nat):Int)*1=lo:=by simp
  have e2:(((hi - lo).toNat:Nat):Int) - ((0:Nat):Int)=Builtin.Range.rangeSize lo hi 1:=by rw[rangeSize_one];split <;> lia
  show IsRangeIter _ _ (lo+((0:Nat):Int)*1) ((((hi - lo).toNat:Nat):Int) - ((0:Nat):Int)) 1
  rw[e1,e2];exact Heap.get?_push_size _ rfl
 ·have e:b=(s.heap.push { cls:=.type "range",data:=.fields #[.int lo t,.int hi u,.int 1 v] }).objs.size:=by simpa using hb
  subst e;exact I1.fpOk (av _) (I1.hok.fresh (av _))
def MG (ta:TA):TI:=fun σ H R=>ta σ H fun vs H1=>∃j:Int,vs=[.int j]/\-(2^62)<=j/\j < 2^62/\R (D4 0 j.toNat) H1
def MF (ta:TA):TI:=fun σ H R=>ta σ H fun vs H1=>∃i j:Int,vs=[.int i,.int j]/\(-(2^62)<=i/\i < 2^62/\-(2^62)<=j/\j < 2^62)/\R (D4 i (j - i).toNat) H1
theorem cK {a:Expr} {ta:TA} {p pos:Pos} (hg:Gl X "range") (hm:X.mg "range"=none) (ha:PA X [a] ta) (hs:starEach [a] X.env=[(false,eval a X.env)]:=by rfl):PI X tg (.Call (.Name "range" p) [a] [] pos) (MG ta):=by
 intro pins s σ H R I h;refine Call_ (kR I hg hm boot_range (PyProof.Rows.callWith_type1 (fP (ha pos pins s σ H _ I h) fun us s1 ⟨vs,H1,I1,r1,q1⟩=>?_) hs rfl));obtain ⟨j,e,q1,q2,q⟩:=q1;subst e;cases r1 with
 | cons r rr =>
  cases rr;obtain ⟨t,rfl⟩:=r;exact call_range_1 (Ds I1 (by lia) (by lia) q1 q2 (by simpa using q))
theorem HC {a b:Expr} {ta:TA} {p pos:Pos} (hg:Gl X "range") (hm:X.mg "range"=none) (ha:PA X [a,b] ta) (hs:starEach [a,b] X.env=[(false,eval a X.env),(false,eval b X.env)]:=by rfl) (hs2:starEach [b] X.env=[(false,eval b X.env)]:=by rfl) :
  PI X tg (.Call (.Name "range" p) [a,b] [] pos) (MF ta):=by
 intro pins s σ H R I h;refine Call_ (kR I hg hm boot_range (PyProof.Rows.callWith_type1 (fP (ha pos pins s σ H _ I h) fun us s1 ⟨vs,H1,I1,r1,q1⟩=>?_) (by rw[hs,hs2]) (by rw[hs2];rfl)));obtain ⟨i,j,e,⟨q1,q2,q3,q4⟩,q⟩:=q1;subst e;cases r1 with
 | cons r rr =>
  cases rr with
  | cons r' rr =>
   cases rr;obtain ⟨t,rfl⟩:=r;obtain ⟨t',rfl⟩:=r';exact call_range_2 (Ds I1 q1 q2 q3 q4 q)
def OT (wi:TI) (g:TG) (tb:TS):TS:=fun D σ H=>wi σ H fun J H1=>∃W:Nat->Nat->St->Hp->Prop,(∃m,W 0 m σ H1)/\∀i m σ H,W i m σ H →
 (J.stop i H/\D.nx σ H)\/(J.go i H/\∃N:St->Hp->Prop,(∀σ' H',N σ' H'->∃m',m' < m/\W (i+1) m' σ' H')/\∀x H',J.yld i H x H'->g x σ H' fun σ2 H2=>tb { D with nx:=N,ct:=N,bk:=D.nx } σ2 H2)
def zR (fp:List Addr) (h:Heap):List (Addr×Obj):=fp.filterMap fun b=>(h.get? b).map fun o=>(b,o)
theorem rk {fp:List Addr} {h:Heap} {b:Addr} {o:Obj} (hb:b∈fp) (e:h.get? b=some o):(b,o)∈zR fp h:=List.mem_filterMap.mpr ⟨b,hb,by rw[e];rfl⟩
theorem HH {fp:List Addr} {h:Heap} {p:Addr×Obj} (hp:p∈zR fp h):p.1∈fp/\h.get? p.1=some p.2:=by
 obtain ⟨b,hb,e⟩:=List.mem_filterMap.mp hp;cases q:h.get? b with
 | none=>rw[q] at e;cases e
 | some o =>
  rw[q] at e;have e':(b,o)=p:=cg e;subst e';exact ⟨hb,q⟩
theorem Inv.pinned {pins:List (Addr×Obj)} {σ:St} {H:Hp} {s:Shared} {fp:List Addr} (I:Inv X pins σ H s) (hf:∀b∈fp,kX X pins H b) (ho:∀b∈fp,∃o,s.heap.get? b=some o/\∀v,o.data≠.cell v):Inv X (pins++zR fp s.heap) σ H s :=
 I.pins_of fun p hp=>(ax.mp hp).elim (fun z=>I.pin p (bR _ z)) fun z=>by
  obtain ⟨hb,e⟩:=HH z;obtain ⟨f0,f1,f2,_⟩:=hf p.1 hb;obtain ⟨o,e',d⟩:=ho p.1 hb;rw[e] at e';cases e';exact ⟨e,f0,f1,f2,d⟩
theorem Inv.unpinned {pins pl:List (Addr×Obj)} {σ:St} {H:Hp} {s:Shared} (I:Inv X (pins++pl) σ H s):Inv X pins σ H s:=I.pins_of fun p hp=>I.pin p (bR _ (sO _ hp))
theorem eT {iter : Expr} {body : List Stmt} {wi : TI} {g : TG} {tb : TS} {pos : Pos} (hp : PassesOwn (model X.prog X.w) X.A X.env X.xe) (hc : X.calm = true) (hi : PI X tg iter wi) (hg : PG X tg g) (hb : Fc X body tb)
    (hs : ∀ x, foldedSetIterable iter X.env x = pure x := by intro _; rfl) : PS X (.For tg iter body [] pos) (OT wi g tb) := by
  intro pins s σ H D I h;refine wpAny_For (fP (hi pins s σ H _ I h) fun v s1 h1 => fP h1 fun itv s2 h2 => ?_) hs;obtain ⟨it, fp, tn, J, H2, e, I2, T, st2, f2, W, ⟨m0, w0⟩, turn⟩ := h2;subst e;have stat : ∀ {H' : Hp}, (∀ b ∈ fp, H' b = none) → ∀ b ∈ fp, kX X pins H' b := fun hn b hb => ⟨hn b hb, (f2 b hb).2⟩
  refine codeAny_forLoop_any (fun n s' => ∃ i σ' H', Inv X pins σ' H' s' /\ tn i s'.heap /\ (∀ b ∈ fp, H' b = none) /\ W i n σ' H') ?_ m0 ⟨0, σ, H2, I2, st2, fun b hb => (f2 b hb).1, w0⟩;rintro n s3 ⟨i, σ3, H3, I3, st3, fr3, w3⟩;rcases turn i n σ3 H3 w3 with ⟨stop, qn⟩ | ⟨go, N, hN, step⟩
  · refine wpAny_passesOwn hp (fP (T.done X rfl rfl rfl hc i pins s3 σ3 H3 X.xe I3 (stat fr3) st3 stop) fun r s4 ⟨hr, I4⟩ => ?_);subst hr;exact wpAny_execs_nil ⟨σ3, H3, I4, qn⟩
  · refine wpAny_passesOwn hp (fP (T.item X rfl rfl rfl hc i pins s3 σ3 H3 X.xe I3 (stat fr3) st3 go) fun r s4 ⟨u, hr, h4⟩ => ?_);subst hr;refine wpAny_passesOwn hp (fP h4 fun _ s5 ⟨x, H5, I5, r5, y5, st5, fr5⟩ => ?_);have I5' := I5.pinned (stat fr5) (T.obj _ _ st5);refine wpAny_passesOwn hp (fP (hg _ s5 σ3 H5 x u _ I5' r5 (step x H5 y5)) fun _ s6 ⟨σ6, H6, I6, q6⟩ => ?_);refine wpAny_passesOwn hp (fP (hb _ s6 σ6 H6 _ I6 q6) fun f s7 q7 => ?_)
    have again : ∀ {σ7 : St} {H7 : Hp}, Inv X (pins ++ zR fp s5.heap) σ7 H7 s7 → N σ7 H7 → ∃ m, m < n /\ ∃ i σ' H', Inv X pins σ' H' s7 /\ tn i s7.heap /\ (∀ b ∈ fp, H' b = none) /\ W i m σ' H' := fun {σ7 H7} I7 n7 => by
      obtain ⟨m', hm, w7⟩ := hN σ7 H7 n7;refine ⟨m', hm, i + 1, σ7, H7, I7.unpinned, T.keep _ _ _ st5 fun b hb o e => (I7.pin (b, o) (bR _ (bR _ (rk hb e)))).1, fun b hb => ?_, w7⟩;obtain ⟨o, e, d⟩ := T.obj _ _ st5 b hb;exact (I7.pin (b, o) (bR _ (bR _ (rk hb e)))).2.1
    cases f with
    | next => obtain ⟨σ7, H7, I7, n7⟩ := q7; exact again I7 n7
    | cont => obtain ⟨σ7, H7, I7, n7⟩ := q7; exact again I7 n7
    | brk => obtain ⟨σ7, H7, I7, q7⟩ := q7; exact ⟨σ7, H7, I7.unpinned, q7⟩
    | ret v => obtain ⟨x7, σ7, H7, I7, r7, q7⟩ := q7; exact ⟨x7, σ7, H7, I7.unpinned, r7, q7⟩
end
theorem i8 {K:PySem.W.Frag} {a:Addr} {xs:List V} {g:TG} {tb:TS} {D:Ends} {σ:St} {H:Hp} (Pv:Nat->St->Hp->Prop) (h0:Pv 0 σ H) (hl:∀i σ H,i<=xs.length->Pv i σ H->bV K H a xs)
  (hs:∀i x σ H,xs[i]?=some x->Pv i σ H->g x σ H fun σ2 H2=>tb { D with nx:=Pv (i+1),ct:=Pv (i+1),bk:=D.nx } σ2 H2) (hd:∀σ H,Pv xs.length σ H->D.nx σ H) :
  ∃W:Nat->Nat->St->Hp->Prop,(∃m,W 0 m σ H)/\∀i m σ H,W i m σ H →
   ((Me K a).stop i H/\D.nx σ H)\/((Me K a).go i H/\∃N:St->Hp->Prop,(∀σ' H',N σ' H'->∃m',m' < m/\W (i+1) m' σ' H')/\∀x H',(Me K a).yld i H x H'->g x σ H' fun σ2 H2=>tb { D with nx:=N,ct:=N,bk:=D.nx } σ2 H2):=by
 refine ⟨fun i m σ H=>m=xs.length - i/\i<=xs.length/\Pv i σ H,⟨xs.length,by simp,aY _,h0⟩,?_⟩;rintro i m σ H ⟨rfl,hi,p⟩;have q:=hl i σ H hi p;by_cases hlt:i < xs.length
 ·refine .inr ⟨⟨xs,xs[i],q,by simp [hlt]⟩,Pv (i+1),fun σ' H' p'=>⟨xs.length - (i+1),by lia,rfl,hlt,p'⟩,fun x H' y=>?_⟩;obtain ⟨e,y⟩:=y;subst e;exact hs i x σ _ (y xs q) p
 ·have e:i=xs.length:=by lia
  subst e;exact .inl ⟨⟨xs,q,av _⟩,hd σ H p⟩
theorem LV {K:PySem.W.Frag} {a:Addr} {xs:List V} {g:TG} {tb:TS} {D:Ends} {σ:St} {H:Hp} (Pv:Nat->St->Hp->Prop) (h0:Pv 0 σ H) (hl:∀i σ H,i<=xs.length->Pv i σ H->oI K H a xs)
  (hs:∀i x σ H,xs[i]?=some x->Pv i σ H->g x σ H fun σ2 H2=>tb { D with nx:=Pv (i+1),ct:=Pv (i+1),bk:=D.nx } σ2 H2) (hd:∀σ H,Pv xs.length σ H->D.nx σ H) :
  ∃W:Nat->Nat->St->Hp->Prop,(∃m,W 0 m σ H)/\∀i m σ H,W i m σ H →
   ((OA K a).stop i H/\D.nx σ H)\/((OA K a).go i H/\∃N:St->Hp->Prop,(∀σ' H',N σ' H'->∃m',m' < m/\W (i+1) m' σ' H')/\∀x H',(OA K a).yld i H x H'->g x σ H' fun σ2 H2=>tb { D with nx:=N,ct:=N,bk:=D.nx } σ2 H2):=by
 refine ⟨fun i m σ H=>m=xs.length - i/\i<=xs.length/\Pv i σ H,⟨xs.length,by simp,aY _,h0⟩,?_⟩;rintro i m σ H ⟨rfl,hi,p⟩;have q:=hl i σ H hi p;by_cases hlt:i < xs.length
 ·refine .inr ⟨⟨xs,xs[i],q,by simp [hlt]⟩,Pv (i+1),fun σ' H' p'=>⟨xs.length - (i+1),by lia,rfl,hlt,p'⟩,fun x H' y=>?_⟩;obtain ⟨e,y⟩:=y;subst e;exact hs i x σ _ (y xs q) p
 ·have e:i=xs.length:=by lia
  subst e;exact .inl ⟨⟨xs,q,av _⟩,hd σ H p⟩
theorem Bl {lo:Int} {n:Nat} {g:TG} {tb:TS} {D:Ends} {σ:St} {H:Hp} (Pv:Nat->St->Hp->Prop) (h0:Pv 0 σ H)
  (hs:∀i σ H,i < n->Pv i σ H->g (.int (lo+i)) σ H fun σ2 H2=>tb { D with nx:=Pv (i+1),ct:=Pv (i+1),bk:=D.nx } σ2 H2) (hd:∀σ H,Pv n σ H->D.nx σ H) :
  ∃W:Nat->Nat->St->Hp->Prop,(∃m,W 0 m σ H)/\∀i m σ H,W i m σ H →
   ((D4 lo n).stop i H/\D.nx σ H)\/((D4 lo n).go i H/\∃N:St->Hp->Prop,(∀σ' H',N σ' H'->∃m',m' < m/\W (i+1) m' σ' H')/\∀x H',(D4 lo n).yld i H x H'->g x σ H' fun σ2 H2=>tb { D with nx:=N,ct:=N,bk:=D.nx } σ2 H2):=by
 refine ⟨fun i m σ H=>m=n - i/\i<=n/\Pv i σ H,⟨n,by simp,aY _,h0⟩,?_⟩;rintro i m σ H ⟨rfl,hi,p⟩;by_cases hlt:i < n
 ·refine .inr ⟨hlt,Pv (i+1),fun σ' H' p'=>⟨n - (i+1),by lia,rfl,hlt,p'⟩,fun x H' y=>?_⟩;obtain ⟨e,y⟩:=y;subst e y;exact hs i σ _ hlt p
 ·have e:i=n:=by lia
  subst e;exact .inl ⟨av _,hd σ H p⟩
abbrev R2:=V->V->Hp->VK->Prop
def yR (X:Cx) (f:Value->Value->Sem Value) (r:R2):Prop :=
 ∀(pins:List (Addr×Obj)) (s:Shared) (σ:St) (H:Hp) (x y:V) (v u:Value) (Q:VK),Inv X pins σ H s->RelV x v->RelV y u->r x y H Q →
  wpAny (model X.prog X.w) X.A (f v u) (EP X pins σ Q) X.xe s
def Qn (X:Cx) (f:Value->Sem Value) (r:V->Hp->VK->Prop):Prop :=
 ∀(pins:List (Addr×Obj)) (s:Shared) (σ:St) (H:Hp) (x:V) (v:Value) (Q:VK),Inv X pins σ H s->RelV x v->r x H Q →
  wpAny (model X.prog X.w) X.A (f v) (EP X pins σ Q) X.xe s
def vC (X:Cx) (f:Value) (r:List V->Hp->VK->Prop):Prop :=
 ∀(pins:List (Addr×Obj)) (s:Shared) (σ:St) (H:Hp) (xs:List V) (us:List Value) (Q:VK),Inv X pins σ H s->cL xs us->r xs H Q →
  wpAny (model X.prog X.w) X.A (call f us) (EP X pins σ Q) X.xe s
def OP (r:R2) (ta tb:TE):TE:=fun σ H Q=>ta σ H fun x H1=>tb σ H1 fun y H2=>r x y H2 Q
def PX (r:V->Hp->VK->Prop) (ta:TE):TE:=fun σ H Q=>ta σ H fun x H1=>r x H1 Q
def rI (C:Int->Int->Prop) (g:Int->Int->V):R2:=fun x y H Q=>∃i j,x=.int i/\y=.int j/\C i j/\Q (g i j) H
def LC (g:Int->Int->V):R2:=fun x y H Q=>∃i j,x=.int i/\y=.int j/\Q (g i j) H
def rU (g:Int->V):V->Hp->VK->Prop:=fun x H Q=>∃i,x=.int i/\Q (g i) H
section
variable {X:Cx} {a b c:Expr} {ta tb tc:TE} {pos:Pos}
theorem Oi (ha:PE X a ta) (hb:PE X b tb) {pins:List (Addr×Obj)} {s:Shared} {σ:St} {H:Hp} {R:V->V->Hp->Prop} (I:Inv X pins σ H s)
  (h:ta σ H fun x H1=>tb σ H1 fun y H2=>R x y H2) {Q:Value->Shared->Prop} {f:Value->Value->Sem Value}
  (hf:∀v u s2 x y H2,Inv X pins σ H2 s2->RelV x v->RelV y u->R x y H2->wpAny (model X.prog X.w) X.A (f v u) Q X.xe s2) :
  wpAny (model X.prog X.w) X.A (eval a X.env) (fun v s₁=>wpAny (model X.prog X.w) X.A (eval b X.env) (fun u s₂=>wpAny (model X.prog X.w) X.A (f v u) Q X.xe s₂) X.xe s₁) X.xe s:=by
 refine fP (ha pins s σ H _ I h) fun v s1 ⟨x,H1,I1,r1,q1⟩=>?_
 refine fP (hb pins s1 σ H1 _ I1 q1) fun u s2 ⟨y,H2,I2,r2,q2⟩=>?_
 exact hf v u s2 x y H2 I2 r1 r2 q2
theorem bT {op:Operator} {r:R2} (ho:yR X (binaryOp op) r) (ha:PE X a ta) (hb:PE X b tb):PE X (.BinOp a op b pos) (OP r ta tb):=by
 intro pins s σ H Q I h;exact wpAny_BinOp (Oi ha hb I h fun v u s2 x y H2 I2 rx ry q=>ho pins s2 σ H2 x y v u Q I2 rx ry q)
theorem ym {op:UnaryOp} {r:V->Hp->VK->Prop} (ho:Qn X (unaryOp op) r) (ha:PE X a ta):PE X (.UnaryOp op a pos) (PX r ta):=by
 intro pins s σ H Q I h;exact UnaryOp_ (fP (ha pins s σ H _ I h) fun v s1 ⟨x,H1,I1,r1,q1⟩=>ho pins s1 σ H1 x v Q I1 r1 q1)
theorem PY {f:Value->Value->Sem Value} {C:Int->Int->Prop} {g:Int->Int->Int}
  (rule:∀(i j:Int) (t u:Tok) (s:Shared) (Q:Value->Shared->Prop) (E:Value->Shared->Prop),C i j->Q (.int (g i j) s.toks) { s with toks:=s.toks+1 }->wpAny (model X.prog X.w) X.A (f (.int i t) (.int j u)) Q E s) :
  yR X f (rI C fun i j=>.int (g i j)):=by
 intro pins s σ H x y v u Q I rx ry h;obtain ⟨i,j,rfl,rfl,hc,q⟩:=h;obtain ⟨t,rfl⟩:=rx;obtain ⟨t',rfl⟩:=ry;exact rule i j t t' s _ _ hc ⟨.int (g i j),H,I.tok _,⟨_,rfl⟩,q⟩
theorem Pg {f:Value->Value->Sem Value} {g:Int->Int->Int}
  (rule:∀(i j:Int) (t u:Tok) (s:Shared) (Q:Value->Shared->Prop) (E:Value->Shared->Prop),Q (.int (g i j) s.toks) { s with toks:=s.toks+1 }->wpAny (model X.prog X.w) X.A (f (.int i t) (.int j u)) Q E s) :
  yR X f (LC fun i j=>.int (g i j)):=by
 intro pins s σ H x y v u Q I rx ry h;obtain ⟨i,j,rfl,rfl,q⟩:=h;obtain ⟨t,rfl⟩:=rx;obtain ⟨t',rfl⟩:=ry;exact rule i j t t' s _ _ ⟨.int (g i j),H,I.tok _,⟨_,rfl⟩,q⟩
theorem LN {f:Value->Value->Sem Value} {g:Int->Int->Bool}
  (rule:∀(i j:Int) (t u:Tok) (s:Shared) (Q:Value->Shared->Prop) (E:Value->Shared->Prop),Q (.bool (g i j)) s->wpAny (model X.prog X.w) X.A (f (.int i t) (.int j u)) Q E s) :
  yR X f (LC fun i j=>.bl (g i j)):=by
 intro pins s σ H x y v u Q I rx ry h;obtain ⟨i,j,rfl,rfl,q⟩:=h;obtain ⟨t,rfl⟩:=rx;obtain ⟨t',rfl⟩:=ry;exact rule i j t t' s _ _ ⟨.bl (g i j),H,I,rfl,q⟩
def Ov (i j:Int):Prop:=(-(2^64) < i/\i < 2^64)\/(-(2^64) < j/\j < 2^64)
theorem Ov.ok {i j:Int} (h:Ov i j):IntMulOk i j:=by
 rcases h with ⟨h1,h2⟩ | ⟨h1,h2⟩
 ·exact .of_left (intBits_le_64 h1 h2)
 ·exact .of_right (intBits_le_64 h1 h2)
theorem fL:yR X (binaryOp .Add) (LC fun i j=>.int (i+j)):=Pg fun _ _ _ _ _ _ _ q=>add_int q
theorem pX:yR X (binaryOp .Sub) (LC fun i j=>.int (i - j)):=Pg fun _ _ _ _ _ _ _ q=>sub_int q
theorem pY:yR X (binaryOp .Mod) (rI (fun _ j=>0 < j) fun i j=>.int (i % j)):=PY fun i j _ _ _ _ _ hc q=>by
 have h1:(0:Int) < j:=hc;exact mod_int' (by lia) (by rw[Int.fmod_eq_emod_of_nonneg i (by lia)];exact q)
theorem LL:yR X (binaryOp .Mod) (rI (fun _ j=>j≠0) fun i j=>.int (i.fmod j)):=PY fun _ _ _ _ _ _ _ hc q=>mod_int' hc q
theorem unI {f:Value->Sem Value} {g:Int->Int}
  (rule:∀(i:Int) (t:Tok) (s:Shared) (Q:Value->Shared->Prop) (E:Value->Shared->Prop),Q (.int (g i) s.toks) { s with toks:=s.toks+1 }->wpAny (model X.prog X.w) X.A (f (.int i t)) Q E s) :
  Qn X f (rU fun i=>.int (g i)):=by
 intro pins s σ H x v Q I rx h;obtain ⟨i,rfl,q⟩:=h;obtain ⟨t,rfl⟩:=rx;exact rule i t s _ _ ⟨.int (g i),H,I.tok _,⟨_,rfl⟩,q⟩
theorem sS:Qn X (unaryOp .USub) (rU fun i=>.int (-i)):=unI fun _ _ _ _ _ q=>neg_int q
end
def OZ:V->V->Bool
 | .non,.non=>true | .non,.int _=>true | .int _,.non=>true | .non,.bl _=>true | .bl _,.non=>true | .non,.str _=>true | .str _,.non=>true
 | .int _,.int _=>true | .bl _,.bl _=>true | .str _,.str _=>true | .byt _,.byt _=>true
 | .int _,.str _=>true | .str _,.int _=>true | .bl _,.str _=>true | .str _,.bl _=>true
 | _,_=>false
def Qf:R2:=fun x y H Q=>OZ x y=true/\Q (.bl (decide (x=y))) H
def rNe:R2:=fun x y H Q=>OZ x y=true/\Q (.bl (!decide (x=y))) H
theorem FW {i j:Int}:decide (V.int i=V.int j)=(i == j):=by
 rw[nW];simp
theorem Ki {i j:Bool}:decide (V.bl i=V.bl j)=(i == j):=by
 rw[nW];simp
theorem FV {i j:Str}:decide (V.str i=V.str j)=(i == j):=by
 rw[nW];simp
theorem FX {i j:Array UInt8}:decide (V.byt i=V.byt j)=(i.toList == j.toList):=by
 rw[nW];cases i;cases j;simp
section
variable {X:Cx} {a b c:Expr} {ta tb tc:TE} {pos:Pos}
theorem dA {pins:List (Addr×Obj)} {σ:St} {H:Hp} {s:Shared} {Q:VK} {k k':Bool} (I:Inv X pins σ H s) (q:Q (.bl k) H) (e:k=k'):EP X pins σ Q (.bool k') s:=by
 subst e;exact ⟨.bl k,H,I,rfl,q⟩
theorem eB:yR X (compareOp .Eq) Qf:=by
 intro pins s σ H x y v u Q I rx ry h;obtain ⟨hs,q⟩:=h;cases x with
 | non =>
  cases rx;cases y with
  | non=>cases ry;exact PySem.EqNone.eq_none_none (dA I q (by simp))
  | bl j=>cases ry;exact PySem.EqNone.eq_none_bool (dA I q (by simp))
  | int j=>obtain ⟨t',rfl⟩:=ry;exact PySem.EqNone.eq_none_int (dA I q (by simp))
  | str j=>obtain ⟨t',rfl⟩:=ry;exact PySem.EqNone.eq_none_str (dA I q (by simp))
  | _=>exact absurd (show false=true from hs) aX
 | bl i =>
  cases rx;cases y with
  | non=>cases ry;exact PySem.EqNone.eq_bool_none (dA I q (by simp))
  | bl j=>cases ry;exact eq_bool (dA I q Ki)
  | str j=>obtain ⟨t',rfl⟩:=ry;exact PySem.EqMixed.eq_bool_str (dA I q (by simp))
  | _=>exact absurd (show false=true from hs) aX
 | int i =>
  obtain ⟨t,rfl⟩:=rx;cases y with
  | non=>cases ry;exact PySem.EqNone.eq_int_none (dA I q (by simp))
  | int j=>obtain ⟨t',rfl⟩:=ry;exact eq_int (dA I q FW)
  | str j=>obtain ⟨t',rfl⟩:=ry;exact PySem.EqMixed.eq_int_str (dA I q (by simp))
  | _=>exact absurd (show false=true from hs) aX
 | str i =>
  obtain ⟨t,rfl⟩:=rx;cases y with
  | non=>cases ry;exact PySem.EqNone.eq_str_none (dA I q (by simp))
  | bl j=>cases ry;exact PySem.EqMixed.eq_str_bool (dA I q (by simp))
  | int j=>obtain ⟨t',rfl⟩:=ry;exact PySem.EqMixed.eq_str_int (dA I q (by simp))
  | str j=>obtain ⟨t',rfl⟩:=ry;exact eq_str (dA I q FV)
  | _=>exact absurd (show false=true from hs) aX
 | byt i =>
  obtain ⟨t,rfl⟩:=rx;cases y with
  | byt j=>obtain ⟨t',rfl⟩:=ry;exact PySem.W.eq_bytes (dA I q FX)
  | _=>exact absurd (show false=true from hs) aX
 | _=>cases y <;> exact absurd (show false=true from hs) aX
theorem wA:yR X (compareOp .NotEq) rNe:=by
 intro pins s σ H x y v u Q I rx ry h;obtain ⟨hs,q⟩:=h;cases x with
 | non =>
  cases rx;cases y with
  | non=>cases ry;exact PySem.EqNone.ne_none_none (dA I q (by simp))
  | bl j=>cases ry;exact PySem.EqNone.ne_none_bool (dA I q (by simp))
  | int j=>obtain ⟨t',rfl⟩:=ry;exact PySem.EqNone.ne_none_int (dA I q (by simp))
  | str j=>obtain ⟨t',rfl⟩:=ry;exact PySem.EqNone.ne_none_str (dA I q (by simp))
  | _=>exact absurd (show false=true from hs) aX
 | bl i =>
  cases rx;cases y with
  | non=>cases ry;exact PySem.EqNone.ne_bool_none (dA I q (by simp))
  | bl j=>cases ry;exact ne_bool (dA I q (congrArg not Ki))
  | str j=>obtain ⟨t',rfl⟩:=ry;exact PySem.EqMixed.ne_bool_str (dA I q (by simp))
  | _=>exact absurd (show false=true from hs) aX
 | int i =>
  obtain ⟨t,rfl⟩:=rx;cases y with
  | non=>cases ry;exact PySem.EqNone.ne_int_none (dA I q (by simp))
  | int j=>obtain ⟨t',rfl⟩:=ry;exact ne_int (dA I q (congrArg not FW))
  | str j=>obtain ⟨t',rfl⟩:=ry;exact PySem.EqMixed.ne_int_str (dA I q (by simp))
  | _=>exact absurd (show false=true from hs) aX
 | str i =>
  obtain ⟨t,rfl⟩:=rx;cases y with
  | non=>cases ry;exact PySem.EqNone.ne_str_none (dA I q (by simp))
  | bl j=>cases ry;exact PySem.EqMixed.ne_str_bool (dA I q (by simp))
  | int j=>obtain ⟨t',rfl⟩:=ry;exact PySem.EqMixed.ne_str_int (dA I q (by simp))
  | str j=>obtain ⟨t',rfl⟩:=ry;exact ne_str (dA I q (congrArg not FV))
  | _=>exact absurd (show false=true from hs) aX
 | byt i =>
  obtain ⟨t,rfl⟩:=rx;cases y with
  | byt j=>obtain ⟨t',rfl⟩:=ry;exact PySem.W.ne_bytes (dA I q (congrArg not FX))
  | _=>exact absurd (show false=true from hs) aX
 | _=>cases y <;> exact absurd (show false=true from hs) aX
theorem vd:yR X (compareOp .Lt) (LC fun i j=>.bl (decide (i < j))):=LN fun _ _ _ _ _ _ _ q=>lt_int q
theorem Pf:yR X (compareOp .LtE) (LC fun i j=>.bl (decide (i<=j))):=LN fun _ _ _ _ _ _ _ q=>le_int q
theorem tE:yR X (compareOp .Gt) (LC fun i j=>.bl (decide (j < i))):=LN fun _ _ _ _ _ _ _ q=>gt_int q
theorem A8:yR X (compareOp .GtE) (LC fun i j=>.bl (decide (j<=i))):=LN fun _ _ _ _ _ _ _ q=>ge_int q
theorem Ce:yR X (compareOp .IsNot) (fun x y H Q=>y=.non/\Q (.bl (!decide (x=.non))) H):=by
 intro pins s σ H x y v u Q I rx ry h;obtain ⟨rfl,q⟩:=h;cases ry;refine isnot_none_gen (dA I q ?_)
 cases x <;> first
  | (cases rx;rfl)
  | (obtain ⟨t,rfl⟩:=rx;rfl)
theorem bB (b:Expr) {op:CmpOp} (h:op≠.In:=by decide) (h2:op≠.NotIn:=by decide):behindInMarks op b=false:=by
 have e1:(op == CmpOp.In)=false:=by cases op <;> first | rfl | exact absurd rfl h
 have e2:(op == CmpOp.NotIn)=false:=by cases op <;> first | rfl | exact absurd rfl h2
 cases b <;> simp [behindInMarks,e1,e2]
theorem lC {op:CmpOp} {r:R2} (ho:yR X (compareOp op) r) (ha:PE X a ta) (hb:PE X b tb) (hm:behindInMarks op b=false):PE X (.Compare a [op] [b] pos) (OP r ta tb):=by
 intro pins s σ H Q I h;exact wpAny_Compare1 (Oi ha hb I h fun v u s2 x y H2 I2 rx ry q=>ho pins s2 σ H2 x y v u Q I2 rx ry q) hm
def Ml (t:TE):TT:=fun σ H Q=>t σ H fun x H'=>∃k,x=.bl k/\Q k H'
theorem bc {op:CmpOp} {r:R2} (ho:yR X (compareOp op) r) (ha:PE X a ta) (hb:PE X b tb) (hm:behindInMarks op b=false):PT X (.Compare a [op] [b] pos) (Ml (OP r ta tb)):=by
 intro pins s σ H Q I h
 refine wpAny_isTrue_Compare1 (fP (ha pins s σ H _ I h) fun v s1 ⟨x,H1,I1,r1,q1⟩=>fP (hb pins s1 σ H1 _ I1 q1) fun u s2 ⟨y,H2,I2,r2,q2⟩ =>
  fP (ho pins s2 σ H2 x y v u _ I2 r1 r2 q2) fun c s3 ⟨z,H3,I3,r3,k,e,q3⟩=>?_) hm
 subst e;cases r3;exact wpAny_truthy_bool ⟨H3,I3,q3⟩
theorem Aj:(sizeLine:Nat) < 2^63:=by rw[sizeLine_eq];decide
theorem vals1 {x:V} {us:List Value} (r:cL [x] us):∃u,us=[u]/\RelV x u:=by
 cases r with
 | cons r1 r2=>cases r2;exact ⟨_,rfl,r1⟩
theorem vals2 {x y:V} {us:List Value} (r:cL [x,y] us):∃u w',us=[u,w']/\RelV x u/\RelV y w':=by
 cases r with
 | cons r1 r2 =>
  cases r2 with
  | cons r3 r4=>cases r4;exact ⟨_,_,rfl,r1,r3⟩
theorem Av:vC X (.builtin "abs") (fun xs H Q=>∃i,xs=[.int i]/\Q (.int (if i < 0 then -i else i)) H):=by
 intro pins s σ H xs us Q I r h;obtain ⟨i,rfl,q⟩:=h;obtain ⟨u,rfl,t,rfl⟩:=vals1 r;exact call_abs_int fun u tk=>⟨.int (if i < 0 then -i else i),H,I.tok _,⟨_,rfl⟩,q⟩
theorem qK (hc:X.calm=true):vC X (.builtin "min") (fun xs H Q=>∃i j,xs=[.int i,.int j]/\Q (.int (if j < i then j else i)) H):=by
 intro pins s σ H xs us Q I r h;obtain ⟨i,j,rfl,q⟩:=h;obtain ⟨u,w',rfl,⟨t,rfl⟩,⟨t',rfl⟩⟩:=vals2 r;refine min_two_ints (I.ok.hd hc) fun h' tk k=>⟨_,H,I.kept k,?_,q⟩
 by_cases hj:j < i
 ·rw[if_pos hj,if_pos hj];exact ⟨_,rfl⟩
 ·rw[if_neg hj,if_neg hj];exact ⟨_,rfl⟩
end
structure Fd (h:Heap) (x dx C:Addr) (mA:Str->Option Value):Prop where
 obj:h.get? x=some (PySem.W.instObj C dx)
 ns:h.Ns1 dx mA
 ne:dx≠x
theorem HN {h:Heap} {dx:Addr} {mA:Str->Option Value} (n:h.Ns1 dx mA):∃od,h.get? dx=some od/\∀name,PySem.W.lookIn name od=some (mA name):=by
 obtain ⟨o,es,ep,ho,hd,hk,_,hm⟩:=n;refine ⟨o,ho,fun name=>?_⟩;have e:=hm name;unfold nsFind findBy at e;rw[<- Array.find?_toList] at e;unfold PySem.W.lookIn;rw[hd]
 dsimp only
 split
 ·rename_i y q
  rw[q] at e;exact congrArg some e
 ·rename_i q
  rw[q] at e
  have a:es.toList.any (·.refKey)=false:=by
   rw[List.any_eq_false];intro y hy;obtain ⟨z,t,hkey⟩:=hk y (Array.mem_toList_iff.mp hy);simp [DictEntry.refKey,hkey]
  have a':¬es.toList.any (·.refKey)=true:=by rw[a];exact aX
  rw[if_neg a'];exact congrArg some e
theorem Fd.look {h:Heap} {x dx C:Addr} {mA:Str->Option Value} (I:Fd h x dx C mA):∃od,PySem.W.InstAt h x (PySem.W.instObj C dx) C (some od)/\∀name,PySem.W.lookIn name od=some (mA name) :=
 let ⟨od,ho,hl⟩:=HN I.ns
 ⟨od,⟨I.obj,rfl,rfl,ho⟩,hl⟩
section
variable {prog:Program} {w:World} {A:Around} {E:Value->Shared->Prop} {s:Shared} {K:PySem.W.Frag} {x dx C f:Addr} {mA:Str->Option Value} {name:Str} {v:Value}
theorem get_map {expr:Bool} {Q:Value->Shared->Prop} (X:K.In s.heap) (I:Fd s.heap x dx C mA) (hg:PySem.W.plainGet K C name=true) (hh:PySem.W.hasDictIn K C=true)
  (ha:PySem.W.findIn K (.ref C) name=some none) (hv:mA name=some v) (hv':PySem.W.handedIn v=true) (h:Q v { s with toks:=s.toks+1 }) :
  wpAny (model prog w) A (getAttr (.ref x) name expr) Q E s:=by
 obtain ⟨od,J,hl⟩:=I.look;exact PySem.W.get_value X J (C3 hg).1 (PySem.W.findObj_own hh ha rfl (by rw[hl,hv])) hv' h
theorem JX {pl:Sem Bool} {Q:Value×List Value->Shared->Prop} (X:K.In s.heap) (I:Fd s.heap x dx C mA) (hg:PySem.W.plainGet K C name=true)
  (hf:PySem.W.findIn K (.ref C) name=some (some (.ref f))) (ht:PySem.W.isFn K (.ref f)=true) (hv:mA name=none) (h:Q (.ref f,[.ref x]) s) :
  wpAny (model prog w) A (getMethod (.ref x) name pl) Q E s:=by
 obtain ⟨od,J,hl⟩:=I.look;exact PySem.W.method_fn X J (C3 hg).1 (C3 hg).2 hf (beq_iff_eq.mp ht) (by show (PySem.W.lookIn name od).map (·.isSome)=some false;rw[hl,hv];rfl) h
theorem K8 {ns:List Str} {Q:Unit->Shared->Prop} (X:K.In s.heap) (I:Fd s.heap x dx C mA)
  (hs:PySem.W.findIn K (.ref C) "__setattr__"=some (some (.builtin "object.__setattr__"))) (hp:PySem.W.plainOver K C=true) (ht:PySem.W.takerIn K C name=some none) (hh:PySem.W.hasDictIn K C=true)
  (hw:PySem.Within mA ns) (hsz:ns.length<=sizeLine)
  (h:∀h',Fd h' x dx C (fun y=>if y=name then some v else mA y)->Heap.SameBut dx s.heap h'->Q () { s with heap:=h',toks:=s.toks+2 }) :
  wpAny (model prog w) A (setAttr (.ref x) name v) Q E s:=by
 obtain ⟨od,J,hl⟩:=I.look;refine PySem.W.set_plain X J hs (PySem.W.osa_open (s:={ s with toks:=s.toks+1 }) (r:=none) X J hp ht fun b=>?_);obtain ⟨cd,hc,hd'⟩:=PySem.W.any_some hh;have hx:s.heap.get? x=some ⟨.ref C,some dx,.plain,#[]⟩:=I.obj;refine wpAny_bind (wpAny_pure (wpAny_bind (wpAny_bind (wpAny_loadPart hx (wpAny_bind (PySem.W.Looks.here (s:={ s with toks:=s.toks+1 }) (PySem.W.looks_clsIn X hc) ?_))))));rw[hd'];refine wpAny_pure (a:=some dx) (wpAny_bind (wpAny_pure (wpAny_bind ?_)));refine wpAny_nsSet1 (s:={ s with toks:=s.toks+1 }) I.ns fun h' hn2 hs2=>?_
 obtain ⟨oD,esD,epD,hoD,hdD,hcD⟩:=hn2.count (PySem.Within.cons name v hw);refine wpAny_bind (wpAny_lookBehind hoD (by rw[hdD];exact pastItsLine_dict (ah hcD (by rw[ba];lia))) ?_);exact wpAny_pure (h _ ⟨(hs2.2 _ (Ne.symm I.ne)).trans I.obj,hn2,I.ne⟩ hs2)
theorem JG {R:Result->Shared->Prop} {vs:List Value} {kw:List (Str×Value)} (X:K.In s.heap) (hm:PySem.W.makesIn K C=true)
  (hi:PySem.W.findIn K (.ref C) "__init__"=some (some (.ref f))) (hf:PySem.W.typeIn K (.ref f)=some (.type "function"))
  (h:codeAny (model prog w) (A.under (.builtin "type.__call__" ⟨.ref C :: vs,kw⟩)) (.call (.ref f) ⟨.ref (s.heap.objs.size+1) :: vs,kw⟩) (PySem.W.InitBack (s.heap.objs.size+1) R)
   { s with heap:=(s.heap.push PySem.W.emptyDict).push (PySem.W.instObj C s.heap.objs.size) }) :
  codeAny (model prog w) A (.call (.ref C) ⟨vs,kw⟩) R s:=by
 obtain ⟨hh,g,d,t,os⟩:=s;exact PySem.W.make_core (PySem.W.makes_of X hm) (PySem.W.looks_findIn X hi) (fun self=>PySem.W.bind_fn X self hf) (.inl rfl) h
end
def cm (f:Str) (v:V):List (Str×V)->List (Str×V)
 | []=>[(f,v)]
 | (g,x) :: r=>if g=f then (g,v) :: r else (g,x) :: cm f v r
theorem bw (f g:Str) (v:V):∀fs:List (Str×V),(cm f v fs).lookup g=if g=f then some v else fs.lookup g
 | []=>by
  show List.lookup g [(f,v)]=_
  by_cases h:g=f
  ·have hb:(g == f)=true:=beq_iff_eq.mpr h;simp only[List.lookup,hb,if_pos h]
  ·have hb:(g == f)=false:=beq_eq_false_iff_ne.mpr h;simp only[List.lookup,hb,if_neg h]
 | (k,x) :: r=>by
  have ih:=bw f g v r;rw[show cm f v ((k,x) :: r)=(if k=f then (k,v) :: r else (k,x) :: cm f v r) from rfl];by_cases hk:k=f
  ·rw[if_pos hk];by_cases h:g=k
   ·have hb:(g == k)=true:=beq_iff_eq.mpr h;simp only[List.lookup,hb,if_pos (h.trans hk)]
   ·have hb:(g == k)=false:=beq_eq_false_iff_ne.mpr h;simp only[List.lookup,hb,if_neg (fun e:g=f=>h (e.trans hk.symm))]
  ·rw[if_neg hk];by_cases h:g=k
   ·have hb:(g == k)=true:=beq_iff_eq.mpr h;simp only[List.lookup,hb,if_neg (fun e:g=f=>hk (h.symm.trans e))]
   ·have hb:(g == k)=false:=beq_eq_false_iff_ne.mpr h;simp only[List.lookup,hb];exact ih
theorem xW (f:Str) (v:V):∀fs:List (Str×V),f∈(cm f v fs).map (·.1)/\∀g,g∈fs.map (·.1)->g∈(cm f v fs).map (·.1)
 | []=>⟨by simp [cm],fun g h=>by simp at h⟩
 | (k,x) :: r=>by
  obtain ⟨i1,i2⟩:=xW f v r;rw[show cm f v ((k,x) :: r)=(if k=f then (k,v) :: r else (k,x) :: cm f v r) from rfl];by_cases hk:k=f
  ·rw[if_pos hk];subst hk;exact ⟨by simp,fun g h=>by simpa using h⟩
  ·rw[if_neg hk];refine ⟨?_,fun g h=>?_⟩
   ·rw[hJ];exact bP _ i1
   ·rw[hJ] at h ⊢;rcases aG.mp h with e | e
    ·exact aG.mpr (.inl e)
    ·exact bP _ (i2 g e)
theorem yr (f:Str) (v:V):∀fs:List (Str×V),(cm f v fs).length<=fs.length+1
 | []=>by simp [cm]
 | (k,x) :: r=>by
  have ih:=yr f v r;rw[show cm f v ((k,x) :: r)=(if k=f then (k,v) :: r else (k,x) :: cm f v r) from rfl];by_cases hk:k=f
  ·rw[if_pos hk,ba,ba];lia
  ·rw[if_neg hk,ba,ba];lia
theorem AY.some_of {v:V} {o:Option Value} (r:AY (some v) o):∃u,o=some u/\RelV v u:=by
 cases o with
 | none=>exact (show False from r).elim
 | some u=>exact ⟨u,rfl,r⟩
theorem AY.none_of {o:Option Value} (r:AY none o):o=none:=by
 cases o with
 | none=>rfl
 | some u=>exact (show False from r).elim
theorem HV {v:V} {u:Value} (r:RelV v u):PySem.W.handedIn u=true:=by
 cases v with
 | non=>cases (show u=Value.none from r);rfl
 | bl b=>cases (show u=Value.bool b from r);rfl
 | int i=>obtain ⟨t,e⟩:=(show ∃t,u=Value.int i t from r);cases e;rfl
 | str x=>obtain ⟨t,e⟩:=(show ∃t,u=Value.str x t from r);cases e;rfl
 | byt b=>obtain ⟨t,e⟩:=(show ∃t,u=Value.bytes b t from r);cases e;rfl
 | flt b=>obtain ⟨t,e⟩:=(show ∃t,u=Value.float b t from r);cases e;rfl
 | ref a=>cases (show u=Value.ref a from r);rfl
 | ty n=>cases (show u=Value.type n from r);rfl
section
variable {P:Program} {w:World} {H H':Hp} {h h':Heap} {a C dx:Addr} {fs fs':List (Str×V)}
theorem yY (hok:zf P w H h) (e:H a=some (.ins C dx fs)):∃mA,Fd h a dx C mA/\(∀f,AY (fs.lookup f) (mA f))/\PySem.Within mA (fs.map (·.1))/\fs.length<=1000/\H dx=some (.own a):=by
 obtain ⟨d,z,ne,ob,mA,n,r,q⟩:=(show jK P w H h a (.ins C dx fs) from hok a _ e);exact ⟨mA,⟨ob,n,ne⟩,r,q,z,d⟩
end
structure Ig (K:PySem.W.Frag) (C:Addr):Prop where
 pg:PySem.W.plainGet K C Str.empty=true
 hd:PySem.W.hasDictIn K C=true
 po:PySem.W.plainOver K C=true
 sa:PySem.W.findIn K (.ref C) "__setattr__"=some (some (.builtin "object.__setattr__"))
theorem Ig.get {K:PySem.W.Frag} {C:Addr} (c:Ig K C) (f:Str):PySem.W.plainGet K C f=true:=c.pg
def kr (K:PySem.W.Frag) (C:Addr) (f:Str):Prop:=PySem.W.findIn K (.ref C) f=some none
theorem kr.taker {K:PySem.W.Frag} {C:Addr} {f:Str} (n:kr K C f):PySem.W.takerIn K C f=some none:=by
 unfold PySem.W.takerIn;rw[show PySem.W.findIn K (.ref C) f=some none from n];rfl
structure Kw (K:PySem.W.Frag) (C:Addr) (m:Str) (f:Addr):Prop where
 at_:PySem.W.findIn K (.ref C) m=some (some (.ref f))
 fn:PySem.W.isFn K (.ref f)=true
 kp:PySem.W.keepIn K (.ref f)=true
section
variable {X:Cx} {pins:List (Addr×Obj)} {σ:St} {H:Hp} {s:Shared} {a C dx:Addr} {fs:List (Str×V)} {f:Str} {v:V} {A:Around} {E:Value->Shared->Prop}
theorem EX {b:Bool} {Q:Value->Shared->Prop} (I:Inv X pins σ H s) (e:H a=some (.ins C dx fs)) (c:Ig X.K C) (n:kr X.K C f) (l:fs.lookup f=some v)
  (h:∀u s',Inv X pins σ H s'->RelV v u->Q u s'):wpAny (model X.prog X.w) A (getAttr (.ref a) f b) Q E s:=by
 obtain ⟨mA,O,r,_,_,_⟩:=yY I.hok e;obtain ⟨u,hu,ru⟩:=AY.some_of (v:=v) (o:=mA f) (by rw[<- l];exact r f);exact get_map I.kIn O (c.get f) c.hd n hu (HV ru) (h u _ (I.tok _) ru)
theorem An {m:Str} {g:Addr} {pl:Sem Bool} {Q:Value×List Value->Shared->Prop} (I:Inv X pins σ H s) (e:H a=some (.ins C dx fs)) (c:Ig X.K C) (k:Kw X.K C m g) (l:fs.lookup m=none)
  (h:Q (.ref g,[.ref a]) s):wpAny (model X.prog X.w) A (getMethod (.ref a) m pl) Q E s:=by
 obtain ⟨mA,O,r,_,_,_⟩:=yY I.hok e;have hn:mA m=none:=AY.none_of (by rw[<- l];exact r m);exact JX I.kIn O (c.get m) k.at_ k.fn hn h
theorem Ew {y:V} {u:Value} {Q:Unit->Shared->Prop} (I:Inv X pins σ H s) (e:H a=some (.ins C dx fs)) (c:Ig X.K C) (n:kr X.K C f) (hl:fs.length < 1000) (ry:RelV y u)
  (h:∀s',Inv X pins σ (upd H a (.ins C dx (cm f y fs))) s'->Q () s'):wpAny (model X.prog X.w) A (setAttr (.ref a) f u) Q E s:=by
 obtain ⟨mA,O,r,wi,_,ho⟩:=yY I.hok e;have hz:(fs.map (·.1)).length<=sizeLine:=by rw[ao,sizeLine_eq];lia
 refine K8 I.kIn O c.sa c.po n.taker c.hd wi hz fun h' O' sb=>h _ ?_
 have hd:∃o,h'.get? dx=some o:=let ⟨o,_,_,e',_⟩:=O'.ns;⟨o,e'⟩
 refine I.write (x:=a) (e:=dx) (by rw[e];exact True.intro) (.inr ho) (fun b q hb z=>(sb.2 b hb).trans z) hd ?_;refine ⟨by rw[bu O.ne];exact ho,?_,O.ne,O'.obj,_,O'.ns,fun g=>?_,fun g hg=>?_⟩
 ·have:=yr f y fs;lia
 ·show AY ((cm f y fs).lookup g) (if g=f then some u else mA g)
  rw[bw];by_cases q:g=f
  ·rw[if_pos q,if_pos q];exact ry
  ·rw[if_neg q,if_neg q];exact r g
 ·by_cases q:g=f
  ·rw[q];exact (xW f y fs).1
  ·refine (xW f y fs).2 g (wi g fun z=>hg ?_);show (if g=f then some u else mA g)=none
   rw[if_neg q];exact z
theorem Inv.made (I:Inv X pins σ H s):Inv X pins σ (upd (upd H s.heap.objs.size (.own (s.heap.objs.size+1))) (s.heap.objs.size+1) (.ins C s.heap.objs.size []))
  { s with heap:=(s.heap.push PySem.W.emptyDict).push (PySem.W.instObj C s.heap.objs.size) }:=by
 have e1:(s.heap.push PySem.W.emptyDict).get? s.heap.objs.size=some PySem.W.emptyDict:=Heap.get?_push_size s.heap rfl
 have e2:((s.heap.push PySem.W.emptyDict).push (PySem.W.instObj C s.heap.objs.size)).get? (s.heap.objs.size+1)=some (PySem.W.instObj C s.heap.objs.size):=by
  have:=Heap.get?_push_size (s.heap.push PySem.W.emptyDict) (o:=PySem.W.instObj C s.heap.objs.size) rfl;rwa [Heap.size_push] at this
 have e3:(s.heap.push PySem.W.emptyDict).Ns s.heap.objs.size (fun _=>none):=⟨PySem.W.emptyDict,#[],_,e1,rfl,(fun e he=>absurd he (by simp)),fun _=>rfl⟩;have I1:=I.laid (a:=s.heap.objs.size) (o:=.own (s.heap.objs.size+1)) (h':=s.heap.push PySem.W.emptyDict) (t':=s.toks) (fun b u q=>Heap.get?_push_of_some _ q) (av _) ⟨_,e1⟩;refine I1.laid (a:=s.heap.objs.size+1) (o:=.ins C s.heap.objs.size []) (t':=s.toks) (fun b u q=>Heap.get?_push_of_some _ q) (Nat.le_of_eq (Heap.size_push _ _)) ?_;have ne:s.heap.objs.size≠s.heap.objs.size+1:=b7 (iV _);refine ⟨by rw[bu ne,aK],aY _,ne,e2,fun _=>none,(Heap.Ns1.of_empty e3).at fun o q=>Heap.get?_push_of_some _ q,fun _=>True.intro,fun y hy=>absurd rfl hy⟩
theorem Mb {prog:Program} {w:World} {env:Env} {e:Expr} {f:Str} {pos:Pos} {s:Shared} {Q:Value->Shared->Prop} (hb:attributeBase e f env (eval e env)=eval e env)
  (h:wpAny (model prog w) A (eval e env) (fun o s₁=>wpAny (model prog w) A (getAttr o f true) Q E s₁) E s):wpAny (model prog w) A (eval (.Attribute e f pos) env) Q E s :=
 Attribute_any_ h (by rw[arm_eval_Attribute,hb])
end
def M4 (K:PySem.W.Frag) (ta:TE) (f:Str):TE:=fun σ H Q=>ta σ H fun x H1=>∃a C dx fs v,x=.ref a/\H1 a=some (.ins C dx fs)/\Ig K C/\kr K C f/\fs.lookup f=some v/\Q v H1
def O0 (K:PySem.W.Frag) (ta tv:TE) (f:Str):TS:=fun D σ H=>tv σ H fun y H1=>ta σ H1 fun x H2=>∃a C dx fs,x=.ref a/\H2 a=some (.ins C dx fs)/\Ig K C/\kr K C f/\fs.length < 1000 /\
 D.nx σ (upd H2 a (.ins C dx (cm f y fs)))
section
variable {X:Cx} {o e value:Expr} {f:Str} {pos pos' tpos:Pos} {ta tv:TE}
theorem fD (he:PE X e ta) (hb:attributeBase e f X.env (eval e X.env)=eval e X.env):PE X (.Attribute e f pos) (M4 X.K ta f):=by
 intro pins s σ H Q I h;refine Mb hb (fP (he pins s σ H _ I h) fun u s1 ⟨x,H1,I1,rx,a,C,dx,fs,v,ex,ea,c,n,l,q⟩=>?_);subst ex;obtain rfl:u=Value.ref a:=rx;exact EX I1 ea c n l fun u' s2 I2 ru=>⟨v,H1,I2,ru,q⟩
theorem xM (ha:PE X o ta) (hv:PE X value tv) (hs:swapsWith value (some (.Attribute o f pos')) pos.line X.env=pure false):PS X (.Assign [.Attribute o f pos'] value pos) (O0 X.K ta tv f):=by
 intro pins s σ H D I h;refine plainObj_wpAny_Assign_Attribute (fP (hv pins s σ H _ I h) fun u s1 ⟨y,H1,I1,ry,q⟩=>fP (ha pins s1 σ H1 _ I1 q) fun ov s2 ⟨x,H2,I2,rx,a,C,dx,fs,ex,ea,c,n,l,q2⟩=>?_) hs;subst ex;obtain rfl:ov=Value.ref a:=rx;exact Ew I2 ea c n l ry fun s3 I3=>⟨σ,_,I3,q2⟩
end
section
variable {X:Cx} {pins:List (Addr×Obj)} {σ:St} {H:Hp} {s:Shared} {A:Around} {E:Value->Shared->Prop} {Q:Value->Shared->Prop} {c:Value} {b:Bool}
inductive ye (K:PySem.W.Frag) (H:Hp):V->Value->Prop where
 | non:ye K H .non (.type "NoneType")
 | bl (x:Bool):ye K H (.bl x) (.type "bool")
 | int (i:Int):ye K H (.int i) (.type "int")
 | str (x:Str):ye K H (.str x) (.type "str")
 | flt (x:UInt64):ye K H (.flt x) (.type "float")
 | lst {a:Addr} {xs:List V} (e:H a=some (.lst xs)):ye K H (.ref a) (.type "list")
 | frz {a:Addr} {o:Obj} {xs:List V} (e:H a=some (.frz o (.lst xs))):ye K H (.ref a) (.type "list")
 | tup {a:Addr} {xs:List V} (e:H a=some (.tup xs)):ye K H (.ref a) (.type "tuple")
 | dK {a:Addr} {kvs:List (Key×V)} (e:H a=some (.dK kvs)):ye K H (.ref a) (.type "dict")
 | dT {a:Addr} {kvs:List (List Key×V)} (e:H a=some (.dT kvs)):ye K H (.ref a) (.type "dict")
 | ins {a C dx:Addr} {fs:List (Str×V)} (e:H a=some (.ins C dx fs)) (cl:Ig K C) (ha:PySem.W.findIn K (.ref C) "__class__"=some (some (.builtin "object.__class__")))
   (hn:PySem.W.specialIn K (.builtin "object.__class__") "__get__"=some (some (.builtin "getset_descriptor.__get__"))) (htk:PySem.W.takesIn K (.builtin "object.__class__")=some true)
   (hm:PySem.W.mroIn K C (.type "object")=some true):ye K H (.ref a) (.ref C)
theorem Bj {x:V} {u t:Value} (I:Inv X pins σ H s) (rx:RelV x u) (ty:ye X.K H x t) (e:PySem.W.kitOne X.K t c=some b) (h:∀tk,Q (.bool b) { s with toks:=tk }) :
  wpAny (model X.prog X.w) A (call (.builtin "isinstance") [u,c]) Q E s:=by
 cases ty with
 | non=>cases (show u=Value.none from rx);exact dB PySem.W.kitx_none I.kIn True.intro e (fun z=>nomatch z) h
 | bl y=>cases (show u=Value.bool y from rx);exact dB PySem.W.kitx_bool I.kIn True.intro e (fun z=>nomatch z) h
 | int i=>obtain ⟨t,q⟩:=(show ∃t,u=Value.int i t from rx);cases q;exact dB PySem.W.kitx_int I.kIn True.intro e (fun z=>nomatch z) h
 | str y=>obtain ⟨t,q⟩:=(show ∃t,u=Value.str y t from rx);cases q;exact dB PySem.W.kitx_str I.kIn True.intro e (fun z=>nomatch z) h
 | flt y=>obtain ⟨t,q⟩:=(show ∃t,u=Value.float y t from rx);cases q;exact dB PySem.W.kitx_float I.kIn True.intro e (fun z=>nomatch z) h
 | @lst a xs ea =>
  cases (show u=Value.ref a from rx);obtain ⟨_,_,n,_,h1⟩:=(show jK X.prog X.w H s.heap a (.lst xs) from I.hok a _ ea);exact dB PySem.W.kitx_list I.kIn ⟨_,h1,rfl⟩ e (fun z=>nomatch z) h
 | @frz a ob xs ea =>
  cases (show u=Value.ref a from rx);obtain ⟨_,_,_,n,_,h1⟩:=(show jK X.prog X.w H s.heap a (.frz ob (.lst xs)) from I.hok a _ ea);exact dB PySem.W.kitx_list I.kIn ⟨_,h1,rfl⟩ e (fun z=>nomatch z) h
 | @tup a xs ea =>
  cases (show u=Value.ref a from rx);obtain ⟨_,_,_,p⟩:=(show jK X.prog X.w H s.heap a (.tup xs) from I.hok a _ ea);obtain ⟨o,h1,h2,_⟩:=p;exact dB PySem.W.kitx_tuple I.kIn ⟨o,h1,h2⟩ e (fun z=>nomatch z) h
 | @dK a kvs ea =>
  cases (show u=Value.ref a from rx);obtain ⟨_,_,vs,_,p⟩:=(show jK X.prog X.w H s.heap a (.dK kvs) from I.hok a _ ea);obtain ⟨o,es,ep,h1,h2,_⟩:=p;exact dB PySem.W.kitx_dict I.kIn ⟨o,h1,h2.1⟩ e (fun z=>nomatch z) h
 | @dT a kvs ea =>
  cases (show u=Value.ref a from rx);obtain ⟨_,_,xs,_,o,es,ep,h1,h2,_⟩:=(show jK X.prog X.w H s.heap a (.dT kvs) from I.hok a _ ea);exact dB PySem.W.kitx_dict I.kIn ⟨o,h1,h2.1⟩ e (fun z=>nomatch z) h
 | @ins a C dx fs ea cl ha hn htk hm =>
  cases (show u=Value.ref a from rx);obtain ⟨mA,O,_⟩:=yY I.hok ea;obtain ⟨od,J,_⟩:=O.look;exact dB (PySem.W.kitx_own (cl.get _) cl.hd ha hn htk hm) I.kIn J e (fun z=>nomatch z) h
end
structure mP (k:Nat) (A:Around):Prop where
 hd:A.handled=none
 dp:A.depth+3*k+5 < recursionLimit
 un:A.units+16*k+200 < cLine
theorem mP.mono {j k:Nat} {A:Around} (r:mP k A) (h:j<=k):mP j A:=⟨r.hd,by have:=r.dp;lia,by have:=r.un;lia⟩
theorem mP.deeper {k:Nat} {A:Around} (r:mP (k+1) A) (env:Env):mP k (A.deeper env) :=
 ⟨r.hd,by have:=r.dp;show A.depth+1+3*k+5 < _;lia,by have:=r.un;show A.units+3+16*k+200 < _;lia⟩
theorem ES {A:Around} {C:Addr} {us:List Value} {kw:List (Str×Value)}:(A.under (.builtin "type.__call__" ⟨.ref C :: us,kw⟩)).depth=A.depth+1:=by
 first | rfl | simp [Around.under,Code.weight,Code.isCreation,Code.isGuard,Code.isCaller,Code.frames,Code.isFrame,guardIds]
theorem ER {A:Around} {C:Addr} {us:List Value} {kw:List (Str×Value)}:(A.under (.builtin "type.__call__" ⟨.ref C :: us,kw⟩)).units=A.units+1:=by
 first | rfl | simp [Around.under,Code.cUnits,Code.frames,Code.isFrame]
theorem mP.make {k:Nat} {A:Around} (r:mP (k+1) A) (C:Addr) (us:List Value) (kw:List (Str×Value)):mP k (A.under (.builtin "type.__call__" ⟨.ref C :: us,kw⟩)) :=
 ⟨r.hd,by have:=r.dp;rw[ES];lia,by have:=r.un;rw[ER];lia⟩
theorem mP.depth {k:Nat} {A:Around} (r:mP k A):A.depth < recursionLimit:=by have:=r.dp;lia
theorem mP.units {k:Nat} {A:Around} (r:mP k A):A.units+64 < cLine:=by have:=r.un;lia
def Ef:TA:=fun _ H Q=>Q [] H
def sV (ta:TE) (tr:TA):TA:=fun σ H Q=>ta σ H fun x H1=>tr σ H1 fun xs H2=>Q (x :: xs) H2
section
variable {X:Cx} {e:Expr} {es:List Expr} {te:TE} {t:TA} {pos:Pos}
theorem ai:PA X [] Ef:=fun _ _ _ _ H Q I h=>Calls.spliced_nil ⟨[],H,I,.nil,h⟩
theorem ae (ha:PE X e te) (hr:PA X es t) (hs:starEach (e :: es) X.env=(false,eval e X.env) :: starEach es X.env:=by rfl):PA X (e :: es) (sV te t):=by
 intro pos pins s σ H Q I h;rw[hs];show wpAny _ _ (spliced ((false,eval e X.env) :: backTo pos (starEach es X.env))) _ _ s
 refine Calls.spliced_cons (fP (ha pins s σ H _ I h) fun u s1 ⟨x,H1,I1,r1,q1⟩=>?_);exact fP (hr pos pins s1 σ H1 _ I1 q1) fun us s2 ⟨xs,H2,I2,r2,q2⟩=>⟨x :: xs,H2,I2,.cons r1 r2,q2⟩
def OK (t:TA):TE:=fun σ H Q=>t σ H fun xs H1=>xs.length<=sizeLine/\∀p,H1 p=none->Q (.ref p) (upd H1 p (.tup xs))
def OR (t:TA):TE:=fun σ H Q=>t σ H fun xs H1=>xs.length<=sizeLine/\∀p,H1 p=none->Q (.ref p) (upd H1 p (.lst xs))
theorem df {x1} (h:PA X es t):PE X (.Tuple es x1 pos) (OK t):=by
 intro pins s σ H Q I hq;refine wpAny_Tuple_spliced (fP (h pos pins s σ H _ I hq) fun us s1 ⟨xs,H1,I1,r,z,q⟩=>⟨by rw[<- r.length];exact z,?_⟩);have hf:H1 s1.heap.objs.size=none:=I1.hok.fresh (av _);refine ⟨.ref s1.heap.objs.size,upd H1 s1.heap.objs.size (.tup xs),I1.laid (t':=s1.toks) (fun b u e=>Heap.get?_push_of_some _ e) (av _) ?_,rfl,q _ hf⟩;exact ⟨z,us,r,⟨_,Heap.get?_push_size _ rfl,rfl,_,rfl⟩⟩
theorem dX (h:PA X es t):PE X (.List es pos) (OR t):=by
 intro pins s σ H Q I hq;refine wpAny_List_spliced (fP (h pos pins s σ H _ I hq) fun us s1 ⟨xs,H1,I1,r,z,q⟩=>⟨by rw[<- r.length];exact z,?_⟩);have hf:H1 s1.heap.objs.size=none:=I1.hok.fresh (av _);refine ⟨.ref s1.heap.objs.size,upd H1 s1.heap.objs.size (.lst xs),I1.laid (t':=s1.toks) (fun b u e=>Heap.get?_push_of_some _ e) (av _) ?_,rfl,q _ hf⟩;exact ⟨z,us,0,r,Heap.get?_push_size _ rfl⟩
end
abbrev Sp:=List V->Hp->VK->XK->Prop
abbrev KD:=List Env->Hp->Shared->XK->Value->Shared->Prop
structure Fg (P:Program) (w:World) (K:PySem.W.Frag) (mg:Str->Option Value) (base:Heap) (A:Around) (outer:List Env) (s:Shared) (H:Hp):Prop where
 frames:A.frames=some outer
 mod:Mod K mg base
 bs:∀b o,base.get? b=some o->s.heap.get? b=some o/\H b=none
 bsz:base.objs.size<=s.heap.objs.size
 funs:s.heap.FunFrames base outer
 frf:∀b∈Ij outer,H b=none
 hok:zf P w H s.heap
 bare:AllBare s.gens
def CE (outer:List Env) (P:Program) (w:World) (H:Hp) (s:Shared) (Q:VK) (u:Value) (s':Shared):Prop :=
 ∃v H',s'.os=s.os/\AllBare s'.gens/\Un (Ij outer) [] H H' s.heap s'.heap/\zf P w H' s'.heap/\RelV v u/\Q v H'
def CR (CX:KD) (outer:List Env) (P:Program) (w:World) (H:Hp) (s:Shared) (Q:VK) (E:XK) (r:Result) (s':Shared):Prop :=
 match r with
 | .ok (.ret u)=>CE outer P w H s Q u s'
 | .ok _=>False
 | .error e=>CX outer H s E e s'
structure cS (P:Program) (w:World) (K:PySem.W.Frag) (mg:Str->Option Value) (base:Heap) (CX:KD) (k:Nat) (f:Addr) (fd:FuncData) (ps:List Str) (sp:Sp):Prop where
 len:∀vs H Q E,sp vs H Q E->vs.length=ps.length
 run:∀(A:Around) (outer:List Env) (s:Shared) (H:Hp) (args:Args) (us:List Value) (vs:List V) (Q:VK) (E:XK),mP k A->Fg P w K mg base A outer s H->BindsTo s fd args (ps.zip us)->cL vs us->sp vs H Q E →
  codeAny (model P w) A (.call (.ref f) args) (CR CX outer P w H s Q E) s
theorem Fg.make {P:Program} {w:World} {K:PySem.W.Frag} {mg:Str->Option Value} {base:Heap} {A:Around} {outer:List Env} {s:Shared} {H:Hp} (e:Fg P w K mg base A outer s H) (C:Addr) (us:List Value) (kw:List (Str×Value)) :
  Fg P w K mg base (A.under (.builtin "type.__call__" ⟨.ref C :: us,kw⟩)) outer s H:=⟨by first | exact e.frames | (simpa [Around.under,Code.envs,Code.isFrame,pushEnvs] using e.frames),e.mod,e.bs,e.bsz,e.funs,e.frf,e.hok,e.bare⟩
section
variable {X:Cx} {pins:List (Addr×Obj)} {σ:St} {H:Hp} {s s':Shared}
theorem Inv.env0 (I:Inv X pins σ H s):Fg X.prog X.w X.K X.mg X.base X.A X.stack s H :=
 ⟨I.ok.frames,I.ok.mod,I.bs,ah I.ok.bsz I.sz,I.stack,I.stkFree,I.hok,I.bare⟩
theorem Inv.after {Q:VK} {u:Value} (I:Inv X pins σ H s) (h:CE X.stack X.prog X.w H s Q u s'):EP X pins σ Q u s':=by
 obtain ⟨v,H',os,bare,un,hok,r,q⟩:=h;obtain ⟨hh,g,d,t,os'⟩:=s';obtain rfl:os'=s.os:=os;exact ⟨v,H',I.call (h':=hh) (g':=g) (d':=d) (t':=t) (ch:=[]) un hok bare (fun b z=>absurd z (by simp)),r,q⟩
end
def IB (sp:Sp) (dvs:List V) (E:XK) (t:TA):TE:=fun σ H Q=>t σ H fun vs H1=>sp (vs++dvs) H1 Q E
def IA (C:Addr) (m:Str) (sp:Sp) (dvs:List V) (E:XK) (ta:TE) (t:TA):TE:=fun σ H Q=>ta σ H fun x H1=>∃a dx fs,x=.ref a/\H1 a=some (.ins C dx fs)/\fs.lookup m=none /\
 t σ H1 fun vs H2=>sp (x :: (vs++dvs)) H2 Q E
def Mp (C:Addr) (sp:Sp) (dvs:List V) (E:XK) (t:TA):TE:=fun σ H Q=>t σ H fun vs H1=>∀x dx,H1 x=none->H1 dx=none->dx≠x →
 sp (.ref x :: (vs++dvs)) (upd (upd H1 dx (.own x)) x (.ins C dx [])) (fun v H2=>v=.non/\Q (.ref x) H2) E
def Binds (K:PySem.W.Frag) (fd:FuncData) (ps:List Str) (ds:List Value):Prop :=
 ∀(s:Shared) (us:List Value),K.In s.heap->(us++ds).length=ps.length->BindsTo s fd ⟨us,[]⟩ (ps.zip (us++ds))
theorem Binds.all {K:PySem.W.Frag} {fd:FuncData} {ps:List Str} (h:∀us:List Value,us.length=ps.length->bindArgs fd ⟨us,[]⟩=pure (ps.zip us)):Binds K fd ps []:=fun s us _ hl=>by
 rw[sR] at hl ⊢;exact .of_eq (h us hl)
def vU (CX:KD) (X:Cx) (E:XK):Prop:=∀(pins:List (Addr×Obj)) (σ:St) (H:Hp) (s:Shared) (e:Value) (s':Shared),Inv X pins σ H s->CX X.stack H s E e s'->X.xe e s'
section
variable {X:Cx} {CX:KD} {k:Nat} {f C:Addr} {fd:FuncData} {ps:List Str} {sp:Sp} {dvs:List V} {ds:List Value} {E:XK} {x m:Str} {p pos apos:Pos} {e o:Expr} {es:List Expr} {ta:TE} {t:TA}
theorem EA {pins:List (Addr×Obj)} {σ:St} {H:Hp} {s:Shared} {Q:VK} {us:List Value} {vs:List V} (F:cS X.prog X.w X.K X.mg X.base CX k f fd ps sp) (hr:mP k X.A) (hb:Binds X.K fd ps ds) (hd:cL dvs ds) (hx:vU CX X E)
  (I:Inv X pins σ H s) (r:cL vs us) (h:sp (vs++dvs) H Q E):wpAny (model X.prog X.w) X.A (call (.ref f) us) (EP X pins σ Q) X.xe s:=by
 have r2:cL (vs++dvs) (us++ds):=r.append hd;have hl:(us++ds).length=ps.length:=by rw[<- r2.length];exact F.len _ _ _ _ h
 refine wpAny_call (codeAny_mono (F.run X.A X.stack s H ⟨us,[]⟩ (us++ds) (vs++dvs) Q E hr I.env0 (hb s us I.kIn hl) r2 h) fun r s' hq=>?_);cases r with
 | error e=>exact hx pins σ H s e s' I hq
 | ok fl =>
  cases fl with
  | ret u=>exact I.after hq
  | next=>exact False.elim hq
  | brk=>exact False.elim hq
  | cont=>exact False.elim hq
theorem LK (F:cS X.prog X.w X.K X.mg X.base CX k f fd ps sp) (hr:mP k X.A) (hg:Gl X x) (hm:X.mg x=some (.ref f)) (hk:PySem.W.keepIn X.K (.ref f)=true) (hb:Binds X.K fd ps ds) (hd:cL dvs ds) (hx:vU CX X E)
  (ha:PA X (e :: es) t) (hdb:(x == ("__debug__":Str))=false:=by decide) (he:starEach (e :: es) X.env=(false,eval e X.env) :: starEach es X.env:=by rfl) (hpl:(backTo pos (starEach es X.env)).any (·.1)=false:=by rfl) :
  PE X (.Call (.Name x p) (e :: es) [] pos) (IB sp dvs E t):=by
 intro pins s σ H Q I h;refine wpAny_Call_Name_kw (Cp I hg hm ?_ hdb);refine Ea (h₀:=X.base) I.ok.mod.kin hk (fP (ha pos pins s σ H _ I h) fun us s1 ⟨vs,H1,I1,r,q⟩=>⟨I1.kIn,?_⟩) he hpl;exact EA F hr hb hd hx I1 r q
theorem LJ {pl : Sem Bool} (he : PE X o ta) (c : Ig X.K C) (hm : Kw X.K C m f) (F : cS X.prog X.w X.K X.mg X.base CX k f fd ps sp) (hr : mP k X.A) (hb : Binds X.K fd ps ds) (hd : cL dvs ds) (hx : vU CX X E) (ha : PA X (e :: es) t)
    (hst : starEach (e :: es) X.env = (false, eval e X.env) :: starEach es X.env := by rfl) (hpl : (backTo pos (starEach es X.env)).any (·.1) = false := by rfl)
    (ht : eval (.Call (.Attribute o m apos) (e :: es) [] pos) X.env = (do
      let ov <- eval o X.env
      standAt apos.atName
      let (f, first) <- holding [ov] (getMethod ov m pl)
      callWith pos f first (backTo pos (starEach (e :: es) X.env)) (backToKw pos (keywordEach [] X.env))) := by rfl) :
    PE X (.Call (.Attribute o m apos) (e :: es) [] pos) (IA C m sp dvs E ta t) := by
  intro pins s σ H Q I h;refine PySem.W.methodCall_KW (pl := pl) (fP (he pins s σ H _ I h) fun u s1 ⟨x, H1, I1, rx, a, dx, fs, ex, ea, l, q⟩ => ?_) ht;subst ex;obtain rfl : u = Value.ref a := rx;refine An I1 ea c hm l ?_;refine Ea (first := [.ref a]) (h₀ := X.base) I.ok.mod.kin hm.kp (fP (ha pos pins s1 σ H1 _ I1 q) fun us s2 ⟨vs, H2, I2, r, q2⟩ => ⟨I2.kIn, ?_⟩) hst hpl;exact EA (us := .ref a :: us) (vs := .ref a :: vs) F hr hb hd hx I2 (.cons rfl r) q2
theorem Jt {pl : Sem Bool} (he : PE X o ta) (c : Ig X.K C) (hm : Kw X.K C m f) (F : cS X.prog X.w X.K X.mg X.base CX k f fd ps sp) (hr : mP k X.A) (hb : Binds X.K fd ps ds) (hd : cL dvs ds) (hx : vU CX X E)
    (ht : eval (.Call (.Attribute o m apos) [] [] pos) X.env = (do
      let ov <- eval o X.env
      standAt apos.atName
      let (f, first) <- holding [ov] (getMethod ov m pl)
      callWith pos f first (backTo pos (starEach [] X.env)) (backToKw pos (keywordEach [] X.env))) := by rfl) :
    PE X (.Call (.Attribute o m apos) [] [] pos) (IA C m sp dvs E ta Ef) := by
  intro pins s σ H Q I h;refine PySem.W.methodCall_KW (pl := pl) (fP (he pins s σ H _ I h) fun u s1 ⟨x, H1, I1, rx, a, dx, fs, ex, ea, l, q⟩ => ?_) ht;subst ex;obtain rfl : u = Value.ref a := rx;refine An I1 ea c hm l ?_;exact PySem.W.callWith_K0 (first := [.ref a]) I1.kIn hm.kp (EA (us := [.ref a]) (vs := [.ref a]) F hr hb hd hx I1 (.cons rfl .nil) q)

structure Mk (K:PySem.W.Frag) (C f:Addr):Prop where
 makes:PySem.W.makesIn K C=true
 init:PySem.W.findIn K (.ref C) "__init__"=some (some (.ref f))
 fn:PySem.W.isFn K (.ref f)=true
 kp:PySem.W.keepIn K (.ref C)=true
theorem Je {pins:List (Addr×Obj)} {σ:St} {H:Hp} {s:Shared} {Q:VK} {us:List Value} {vs:List V} (M:Mk X.K C f) (F:cS X.prog X.w X.K X.mg X.base CX k f fd ps sp) (hr:mP (k+1) X.A) (hb:Binds X.K fd ps ds) (hd:cL dvs ds)
  (hx:vU CX X E) (I:Inv X pins σ H s) (r:cL vs us)
  (h:∀x dx,H x=none->H dx=none->dx≠x->sp (.ref x :: (vs++dvs)) (upd (upd H dx (.own x)) x (.ins C dx [])) (fun v H2=>v=.non/\Q (.ref x) H2) E) :
  wpAny (model X.prog X.w) X.A (call (.ref C) us) (EP X pins σ Q) X.xe s:=by
 have hq:=h (s.heap.objs.size+1) s.heap.objs.size (I.hok.fresh (sN _)) (I.hok.fresh (av _)) (b7 (iV _));have I2:=Inv.made (C:=C) I;have r2:cL (V.ref (s.heap.objs.size+1) :: (vs++dvs)) (Value.ref (s.heap.objs.size+1) :: (us++ds)):=.cons rfl (r.append hd)
 have hl:(Value.ref (s.heap.objs.size+1) :: us++ds).length=ps.length:=by
  have e:=r2.length;rw[F.len _ _ _ _ hq] at e;exact e.symm
 refine wpAny_call (JG (f:=f) I.kIn M.makes M.init (beq_iff_eq.mp M.fn) (codeAny_mono (F.run _ X.stack _ _ ⟨Value.ref (s.heap.objs.size+1) :: us,[]⟩ (Value.ref (s.heap.objs.size+1) :: (us++ds)) _ _ E (hr.make C us [])
  (I2.env0.make C us []) (hb _ (Value.ref (s.heap.objs.size+1) :: us) I2.kIn hl) r2 hq) fun r s' hq'=>?_))
 cases r with
 | error e=>exact hx pins σ _ _ e s' I2 hq'
 | ok fl =>
  cases fl with
  | ret u =>
   obtain ⟨v,H',I3,rv,ev,q3⟩:=I2.after hq';subst ev;exact ⟨rv,⟨V.ref (s.heap.objs.size+1),H',I3,rfl,q3⟩⟩
  | next=>exact False.elim hq'
  | brk=>exact False.elim hq'
  | cont=>exact False.elim hq'
theorem Fz (M:Mk X.K C f) (F:cS X.prog X.w X.K X.mg X.base CX k f fd ps sp) (hr:mP (k+1) X.A) (hg:Gl X x) (hm:X.mg x=some (.ref C)) (hb:Binds X.K fd ps ds) (hd:cL dvs ds) (hx:vU CX X E)
  (ha:PA X (e :: es) t) (hdb:(x == ("__debug__":Str))=false:=by decide) (he:starEach (e :: es) X.env=(false,eval e X.env) :: starEach es X.env:=by rfl) (hpl:(backTo pos (starEach es X.env)).any (·.1)=false:=by rfl) :
  PE X (.Call (.Name x p) (e :: es) [] pos) (Mp C sp dvs E t):=by
 intro pins s σ H Q I h;refine wpAny_Call_Name_kw (Cp I hg hm ?_ hdb);refine Ea (h₀:=X.base) I.ok.mod.kin M.kp (fP (ha pos pins s σ H _ I h) fun us s1 ⟨vs,H1,I1,r,q⟩=>⟨I1.kIn,?_⟩) he hpl;exact Je M F hr hb hd hx I1 r q
end
structure bo (N P:List Str) (sc:Scope):Prop where
 kind:sc.kind=.function
 co:sc.isCoroutine=false
 gen:sc.isGenerator=false
 nd:N.Nodup
 pre:N.take P.length=P
 par:∀x∈P,sc.names.lookup x=some .local\/sc.names.lookup x=some .cell
 nofree:∀y∈sc.names,y.2≠.free
theorem Bt {kindOf:Str->Option NameKind} {x:Str}:∀{binds:List (Str×Value)} {m:Str->Option Value},(∀v,(x,v)∉binds)->bindL kindOf binds m x=m x
 | [],_,_=>rfl
 | (n,v) :: r,m,h=>by
  unfold bindL;rw[Bt fun w hw=>h w (bP _ hw)]
  split
  ·have:x≠n:=by rintro rfl;exact h v dk
   simp [this]
  ·rfl
theorem Bv {kindOf:Str->Option NameKind} {x:Str}:∀{binds:List (Str×Value)} {m:Str->Option Value},(∀v,(x,v)∉binds)->bindC kindOf binds m x=m x
 | [],_,_=>rfl
 | (n,v) :: r,m,h=>by
  unfold bindC;rw[Bv fun w hw=>h w (bP _ hw)]
  split
  ·rfl
  ·have:x≠n:=by rintro rfl;exact h v dk
   simp [this]
theorem Bu {kindOf:Str->Option NameKind} {x:Str} {v:Value}:∀{P:List Str} {vs:List Value} {i:Nat} {m:Str->Option Value},P.Nodup->P[i]?=some x->vs[i]?=some v->kindOf x=some .local →
  bindL kindOf (P.zip vs) m x=some v
 | [],_,_,_,_,h,_,_=>by simp at h
 | _ :: _,[],_,_,_,_,h,_=>by simp at h
 | p :: P,w :: vs,0,m,nd,h1,h2,hk=>by
  simp at h1 h2;subst h1;subst h2;show bindL kindOf ((p,w) :: P.zip vs) m p=_
  unfold bindL;rw[Bt fun v hv=>(eE.mp nd).1 (KE hv).1,if_pos hk];simp
 | p :: P,w :: vs,i+1,m,nd,h1,h2,hk=>by
  show bindL kindOf ((p,w) :: P.zip vs) m x=_
  unfold bindL;exact Bu (i:=i) (eE.mp nd).2 (by simpa using h1) (by simpa using h2) hk
theorem Bw {kindOf:Str->Option NameKind} {x:Str} {v:Value}:∀{P:List Str} {vs:List Value} {i:Nat} {m:Str->Option Value},P.Nodup->P[i]?=some x->vs[i]?=some v->kindOf x≠some .local →
  bindC kindOf (P.zip vs) m x=some v
 | [],_,_,_,_,h,_,_=>by simp at h
 | _ :: _,[],_,_,_,_,h,_=>by simp at h
 | p :: P,w :: vs,0,m,nd,h1,h2,hk=>by
  simp at h1 h2;subst h1;subst h2;show bindC kindOf ((p,w) :: P.zip vs) m p=_
  unfold bindC;rw[Bv fun v hv=>(eE.mp nd).1 (KE hv).1,if_neg hk];simp
 | p :: P,w :: vs,i+1,m,nd,h1,h2,hk=>by
  show bindC kindOf ((p,w) :: P.zip vs) m x=_
  unfold bindC;exact Bw (i:=i) (eE.mp nd).2 (by simpa using h1) (by simpa using h2) hk
def start (N:List Str) (vs:List V):St:=vs.map some++List.replicate (N.length - vs.length) none
def HZ (CX:KD) (P:Program) (w:World) (K:PySem.W.Frag) (mg:Str->Option Value) (base:Heap) (N:List Str) (qual:Str) (scope:Scope) (f:Addr) (cd:Value) (A:Around) (outer:List Env) (s:Shared) (H:Hp) (E:XK):Cx where
 prog:=P
 w:=w
 K:=K
 mg:=mg
 base:=base
 A:=A.deeper (envOfC qual scope s.heap.objs.size f cd)
 N:=N
 s₀:=s
 H₀:=H
 env:=envOfC qual scope s.heap.objs.size f cd
 outer:=outer
 stack:=envOfC qual scope s.heap.objs.size f cd :: outer
 ex:=[]
 calm:=true
 fn:=fun _=>true
 pn:=[]
 xe:=fun e s'=>wpAny (model P w) (A.deeper (envOfC qual scope s.heap.objs.size f cd)) (leaving (envOfC qual scope s.heap.objs.size f cd) e) (fun _ s''=>CX outer H s E e s'') (fun e' s''=>CX outer H s E e' s'') s'
theorem DP {sc:Scope} {n:Nat} {x:Str} (h:sc.names.lookup x=some .cell):∃c,(cellsFrom n sc.names []).lookup x=some c:=by
 have q:=zi sc.names n [] (.inl h);exact OE.mp q
theorem HR {CX:KD} {P:Program} {w:World} {K:PySem.W.Frag} {mg:Str->Option Value} {base:Heap} {N ps:List Str} {qual:Str} {scope:Scope} {f:Addr} {cd:Value} {A:Around} {outer:List Env} {s s1:Shared} {H:Hp} {E:XK} {us:List Value} {vs:List V}
  (S:bo N ps scope) (hd:A.handled=none) (e0:Fg P w K mg base A outer s H) (hl:vs.length=ps.length) (r:cL vs us)
  (x:InCallC s s.heap.objs.size (bindL (envOfC qual scope s.heap.objs.size f cd).kindOf (ps.zip us) fun _=>none) (cellsFrom (s.heap.objs.size+1) scope.names []) (bindC (envOfC qual scope s.heap.objs.size f cd).kindOf (ps.zip us) fun _=>none) s1) :
  Inv (HZ CX P w K mg base N qual scope f cd A outer s H E) [] (start N vs) H s1:=by
 have hpl:ps.length<=N.length:=by have:=congrArg List.length S.pre;rw[dn] at this;lia
 obtain ⟨h1,tk,rfl,hk⟩:=x.done;have noA:∀b:Addr,b∉(HZ CX P w K mg base N qual scope f cd A outer s H E).ex:=fun b z=>absurd (show b∈([]:List Addr) from z) (by simp)
 refine ⟨⟨e0.mod,S.kind,rfl,rfl,av _,fun y z c h1 h2=>?_,fun y hy=>?_,fun y c _ h=>?_,fun _=>hd,Around.frames_deeper e0.frames,.inr ⟨rfl,rfl⟩,fun b z=>absurd z (noA b),e0.bs,e0.bsz,fun b _ _=>noA b,fun b z=>absurd z (noA b),e0.funs,e0.frf⟩,
  rfl,e0.bare,Un.kept hk,⟨_,x.toInCall.ns,fun i y v h1 h2 h3=>?_⟩,fun y c h=>⟨_,x.cell y c h⟩,e0.hok.fresh (av _),fun y c h=>?_,fun p hp=>absurd (show p∈([]:List (Addr×Obj)) from hp) (by simp),e0.hok.kept hk,?_⟩
 ·exact name_of_addr x.apart (mT h1) (mT h2)
 ·have hy:scope.names.lookup y=some .cell\/scope.names.lookup y=some .free:=hy;rcases hy with hy | hy
  ·exact DP hy
  ·exact absurd rfl (S.nofree _ (mT hy))
 ·exact bp (x.above y c (mT h))
 ·have hi:i < vs.length:=by
   unfold start at h2;by_cases hi:i < vs.length
   ·exact hi
   ·rw[aW (by simpa using hi)] at h2;rw[cX] at h2
    split at h2 <;> cases h2
  have ha:vs[i]?=some v:=by
   unfold start at h2;rw[bF (by simpa using hi),aN] at h2;cases e:vs[i]? with
   | none=>rw[e] at h2;cases h2
   | some a=>rw[e] at h2;cases h2;rfl
  obtain ⟨u,hu,rv⟩:=r.get ha
  have hp:ps[i]?=some y:=by
   rw[<- S.pre,xA (by lia)];exact h1
  have ndP:ps.Nodup:=by rw[<- S.pre];exact S.nd.sublist (List.take_sublist _ _)
  refine ⟨u,rv,?_⟩;rcases S.par y (ay hp) with k | k
  ·exact .inl ⟨k,Bu ndP hp hu k⟩
  ·obtain ⟨c,e⟩:=DP (n:=s.heap.objs.size+1) k;refine .inr ⟨.inl k,c,e,?_⟩;have q:=x.cell y c e;rw[Bw ndP hp hu (by show scope.names.lookup y≠_;rw[k];decide)] at q;exact q
 ·exact e0.hok.fresh (bp (x.above y c (mT h)))
 ·unfold start;show _=N.length
  rw[aw,ao,aF]
  lia
theorem Py {CX:KD} {P:Program} {w:World} {K:PySem.W.Frag} {mg:Str->Option Value} {base:Heap} {k:Nat} {f:Addr} {name qual:Str} {params:Arguments} {body:List Stmt} {scope:Scope} {dV kV doc pm cdv ct oc:Value} {an od:Option Addr}
  {osl:Array (Option Value)} {N ps:List Str} {sp:Sp} (lk:K.lookup f=some ⟨oc,od,.func (PySem.W.fnOf name qual params body scope dV kV doc pm an cdv ct),osl⟩) (hcd:PySem.W.codeIn K cdv qual=true) (S:bo N ps scope)
  (len:∀vs H Q E,sp vs H Q E->vs.length=ps.length)
  (hbody:∀(A:Around) (outer:List Env) (s:Shared) (H:Hp) (vs:List V) (Q:VK) (E:XK),mP k (A.deeper (envOfC qual scope s.heap.objs.size f cdv))->sp vs H Q E →
   ∃t,Fc (HZ CX P w K mg base N qual scope f cdv A outer s H E) body t/\t { nx:=fun _ H'=>Q .non H',rt:=Q } (start N vs) H) :
  cS P w K mg base CX (k+1) f (PySem.W.fnOf name qual params body scope dV kV doc pm an cdv ct) ps sp:=by
 refine ⟨len,fun A outer s H args us vs Q E hr e0 hb r hsp=>?_⟩;have hl:=len _ _ _ _ hsp;have KX:K.In s.heap:=e0.mod.kin.keeps fun b o e=>(e0.bs b o e).1
 have lim:s.heap.NoLimit:=e0.mod.nolimit.keeps fun b o e=>(e0.bs b o e).1
 have hkind:∀y∈ps.zip us,scope.names.lookup y.1=some .local\/(scope.names.lookup y.1=some .cell/\((cellsFrom (s.heap.objs.size+1) scope.names []).lookup y.1).isSome=true):=fun ⟨n,v⟩ hy=>by
  rcases S.par n (KE hy).1 with q | q
  ·exact .inl q
  ·exact .inr ⟨q,zi _ _ _ (.inl q)⟩
 refine codeAny_call_function hr.depth (KX _ _ lk) rfl S.co S.gen rfl (PySem.W.codeRec_of KX hcd) (hb _ _ _ _ ?_);refine wpAny_newFunctionEnv_cells S.kind hkind fun env he s1 x=>?_
 subst he;refine ⟨lim.keeps x.toInCall.keep,codeAny_func ?_⟩;obtain ⟨t,ht,hq⟩:=hbody A outer s H vs Q E (hr.deeper _) hsp;have I:Inv (HZ CX P w K mg base N qual scope f cdv A outer s H E) [] (start N vs) H s1:=HR S hr.hd e0 hl r x;refine wpAny_mono (ht [] s1 (start N vs) H _ I hq) (fun fl s' hs=>?_) fun e s' hs=>hs
 have fin:∀{σ':St} {H':Hp} {v:V} {u:Value},Inv (HZ CX P w K mg base N qual scope f cdv A outer s H E) [] σ' H' s'->RelV v u->Q v H'->CE outer P w H s Q u s' :=
  fun {σ' H' v u} J rv q=>⟨v,H',J.os,J.bare,J.base,J.hok,rv,q⟩
 cases fl with
 | ret u =>
  obtain ⟨v,σ',H',J,rv,q⟩:=hs;exact fin J rv q
 | next =>
  obtain ⟨σ',H',J,q⟩:=hs;exact fin (v:=V.non) (u:=Value.none) J rfl q
 | brk =>
  obtain ⟨_,_,_,q⟩:=hs;exact False.elim q
 | cont =>
  obtain ⟨_,_,_,q⟩:=hs;exact False.elim q
section
variable {X:Cx} {x:Str} {p pos:Pos} {e:Expr} {es:List Expr} {t:TA} {id T:String} {r:List V->Hp->VK->Prop}
def P9 (r:List V->Hp->VK->Prop) (t:TA):TE:=fun σ H Q=>t σ H fun vs H1=>r vs H1 Q
theorem bX (hc:vC X (.builtin id) r) (hg:Gl X x) (hm:X.mg x=none) (hv:bootBuiltins x=some (.builtin id)) (ha:PA X (e :: es) t) (hn:x≠"__name__":=by decide) (hdb:(x == ("__debug__":Str))=false:=by decide)
  (he:starEach (e :: es) X.env=(false,eval e X.env) :: starEach es X.env:=by rfl) (hpl:(backTo pos (starEach es X.env)).any (·.1)=false:=by rfl):PE X (.Call (.Name x p) (e :: es) [] pos) (P9 r t):=by
 intro pins s σ H Q I h;refine wpAny_Call_Name_kw (kR I hg hm hv ?_ hn hdb);exact PyProof.Rows.callWith_builtin1 (fP (ha pos pins s σ H _ I h) fun us s1 ⟨vs,H1,I1,r1,q1⟩=>hc pins s1 σ H1 vs us Q I1 r1 q1) he hpl
theorem e8 (hc:vC X (.type T) r) (hg:Gl X x) (hm:X.mg x=none) (hv:bootBuiltins x=some (.type T)) (ha:PA X (e :: es) t) (hn:x≠"__name__":=by decide) (hdb:(x == ("__debug__":Str))=false:=by decide)
  (he:starEach (e :: es) X.env=(false,eval e X.env) :: starEach es X.env:=by rfl) (hpl:(backTo pos (starEach es X.env)).any (·.1)=false:=by rfl):PE X (.Call (.Name x p) (e :: es) [] pos) (P9 r t):=by
 intro pins s σ H Q I h;refine wpAny_Call_Name_kw (kR I hg hm hv ?_ hn hdb);exact PyProof.Rows.callWith_type1 (fP (ha pos pins s σ H _ I h) fun us s1 ⟨vs,H1,I1,r1,q1⟩=>hc pins s1 σ H1 vs us Q I1 r1 q1) he hpl
end
end L2
namespace HT
open PySem PyProof.Rows
section
open PySem.SeqAt
open PySem.AutoSeq1 (wpAny_loadPart')
open PySem.MeetsSeq PySem.MeetsSeq2 PySem.MeetsSeq3
end
section
variable {prog:Program} {w:World} {A:Around} {E:Value->Shared->Prop} {s:Shared}
def Dn (n d:Nat):Option Int->Nat
 | none=>d
 | some v=>if v < 0 then (v+(n:Int)).toNat else min v.toNat n
theorem Dm (n d:Nat):Dn n d none=d:=rfl
theorem yU (n d k:Nat):Dn n d (some (k:Int))=min k n:=by
 show (if (k:Int) < 0 then ((k:Int)+(n:Int)).toNat else min (k:Int).toNat n)=min k n
 rw[if_neg (by lia),Int.toNat_natCast]
end
end HT
namespace L2
open PySem PySem.Spec PyProof.Rows
abbrev TO:=St->Hp->(Option Int->Hp->Prop)->Prop
def PO (X:Cx) (e:Option Expr) (t:TO):Prop :=
 ∀(pins:List (Addr×Obj)) (s:Shared) (σ:St) (H:Hp) (Q:Option Int->Hp->Prop),Inv X pins σ H s->t σ H Q →
  wpAny (model X.prog X.w) X.A (evalPart e X.env) (fun u s'=>∃o H',Inv X pins σ H' s'/\IsPart u o/\Q o H') X.xe s
def Fl:TO:=fun _ H Q=>Q none H
def Mm (t:TE):TO:=fun σ H Q=>t σ H fun x H1=>∃i,x=.int i/\Q (some i) H1
theorem intsAre_of {ns:List Int}:∀{us:List Value},cL (ns.map V.int) us->IntsAre us ns:=by
 induction ns with
 | nil=>intro us r;rw[List.map_nil] at r;cases r;exact .nil
 | cons n ns ih =>
  intro us r;rw[hJ] at r;cases r with
  | cons r1 r2 =>
   obtain ⟨t,e⟩:=r1;subst e;exact .cons n t (ih r2)
section
variable {X:Cx} {e:Expr} {te:TE} {lo hi:Option Expr} {tl th:TO} {pos p2:Pos}
theorem Fy:PO X none Fl:=by
 intro pins s σ H Q I h;rw[evalPart_none];exact wpAny_pure ⟨none,H,I,.none,h⟩
theorem yV (h:PE X e te):PO X (some e) (Mm te):=by
 intro pins s σ H Q I hw;rw[evalPart_some];refine fP (h pins s σ H _ I hw) fun u s1 ⟨x,H1,I1,r1,q1⟩=>?_
 obtain ⟨i,rfl,q⟩:=q1;obtain ⟨t,rfl⟩:=r1;exact ⟨some i,H1,I1,.int i t,q⟩
def Qq (X:Cx) (r:V->Option Int->Option Int->Hp->VK->Prop):Prop :=
 ∀(pins:List (Addr×Obj)) (s:Shared) (σ:St) (H:Hp) (x:V) (v vl vu:Value) (lo hi:Option Int) (sl:Addr) (Q:VK),Inv X pins σ H s->RelV x v->s.heap.IsSliceOf sl vl vu .none->IsPart vl lo->IsPart vu hi->r x lo hi H Q →
  ∃T id,typeLookup (.type T) "__getitem__"=pure (some (.builtin id))/\s.TypeIs v T/\wpAny (model X.prog X.w) X.A (getItem v (.ref sl)) (EP X pins σ Q) X.xe s
def tSl (r:V->Option Int->Option Int->Hp->VK->Prop) (te:TE) (tl th:TO):TE:=fun σ H Q=>te σ H fun x H1=>tl σ H1 fun l H2=>th σ H2 fun u H3=>r x l u H3 Q
theorem zS {r:V->Option Int->Option Int->Hp->VK->Prop} (hr:Qq X r) (he:PE X e te) (hl:PO X lo tl) (hu:PO X hi th):PE X (.Subscript e (.Slice lo hi none p2) pos) (tSl r te tl th):=by
 intro pins s σ H Q I h;refine Subscript_ (fP (he pins s σ H _ I h) fun v s1 ⟨x,H1,I1,r1,q1⟩=>?_);refine wpAny_Slice (fP (hl pins s1 σ H1 _ I1 q1) fun vl s2 ⟨l,H2,I2,pl,q2⟩=>fP (hu pins s2 σ H2 _ I2 q2) fun vu s3 ⟨u,H3,I3,pu,q3⟩=>?_);rw[evalPart_none];refine wpAny_pure ?_;have I4:Inv X pins σ H3 { s3 with heap:=s3.heap.push { cls:=.type "slice",data:=.fields #[vl,vu,.none] } }:=I3.kept (t':=s3.toks) fun b ob q=>Heap.get?_push_of_some _ q
 obtain ⟨T,id,hT,ht,hg⟩:=hr pins { s3 with heap:=s3.heap.push { cls:=.type "slice",data:=.fields #[vl,vu,.none] } } σ H3 x v vl vu l u s3.heap.objs.size Q I4 r1 (Heap.IsSliceOf.new ..) pl pu q3;show wpAny (model X.prog X.w) X.A (subscriptTail e (.Slice lo hi none p2) v (.ref s3.heap.objs.size)) (EP X pins σ Q) X.xe { s3 with heap:=s3.heap.push { cls:=.type "slice",data:=.fields #[vl,vu,.none] } }
 exact tail_any (ops:=[.ref s3.heap.objs.size,v]) ht hT hg (by with_unfolding_all rfl)
def uY (xs:List V) (lo hi:Option Int):List V:=(xs.drop (HT.Dn xs.length 0 lo)).take (HT.Dn xs.length xs.length hi - HT.Dn xs.length 0 lo)
theorem yv (xs:List V) (lo hi:Option Int):(uY xs lo hi).length<=xs.length:=by
 unfold uY;rw[dn,Io]
 lia
end
def Ii (n:Nat) (i:Int):Option Nat:=if 0<=i then (if i < n then some i.toNat else none) else if -(n:Int)<=i then some (i+n).toNat else none
def E6 {α:Type} (xs:List α) (i:Int):Option α:=(Ii xs.length i).bind fun j=>xs[j]?
theorem FN {n:Nat} {i:Int} {j:Nat} (h:Ii n i=some j):seqIndex? i n=some j/\j < n/\-(n:Int)<=i/\i < n:=by
 unfold Ii at h;by_cases h0:0<=i
 ·rw[if_pos h0] at h;by_cases h1:i < n
  ·rw[if_pos h1] at h;have e:i.toNat=j:=cg h;exact ⟨by rw[seqIndex_of h0 h1,e],by lia,by lia,h1⟩
  ·rw[if_neg h1] at h;cases h
 ·rw[if_neg h0] at h;by_cases h1:-(n:Int)<=i
  ·rw[if_pos h1] at h;have e:(i+n).toNat=j:=cg h;exact ⟨by rw[seqIndex_neg (by lia) h1,e],by lia,h1,by lia⟩
  ·rw[if_neg h1] at h;cases h
theorem CM {α:Type} {xs:List α} {i:Int} {v:α} (h:E6 xs i=some v):∃j,seqIndex? i xs.length=some j/\xs[j]?=some v/\j < xs.length/\-(xs.length:Int)<=i/\i < xs.length:=by
 unfold E6 at h;cases e:Ii xs.length i with
 | none=>rw[e] at h;cases h
 | some j =>
  rw[e] at h;obtain ⟨h1,h2,h3,h4⟩:=FN e;exact ⟨j,h1,h,h2,h3,h4⟩
theorem gN {α:Type} {xs:List α} {j:Nat} {v:α} (h:xs[j]?=some v):E6 xs (j:Int)=some v:=by
 have hj:j < xs.length:=(aH.mp h).1
 have e:Ii xs.length (j:Int)=some j:=by
  unfold Ii;rw[if_pos (by lia),if_pos (by lia)];simp
 unfold E6;rw[e];exact h
theorem xi {α:Type} (xs:List α) (v:α):E6 (xs++[v]) (-1)=some v:=by
 have hl:(xs++[v]).length=xs.length+1:=by simp
 have e:Ii (xs++[v]).length (-1)=some xs.length:=by
  unfold Ii;rw[hl,if_neg (by decide),if_pos (by lia)];congr 1
  lia
 unfold E6;rw[e];show (xs++[v])[xs.length]?=some v
 simp
def Mc (b:Expr):Prop:=∀o i,subscripted b false o i=operate [o,i] (getItem o i)
def PL (X:Cx) (r:R2):Prop :=
 ∀(value slice:Expr) (pins:List (Addr×Obj)) (s:Shared) (σ:St) (H:Hp) (x y:V) (v u:Value) (Q:VK),Inv X pins σ H s->RelV x v->RelV y u->r x y H Q →
  subscripted slice false v u=operate [v,u] (getItem v u)->wpAny (model X.prog X.w) X.A (subscriptTail value slice v u) (EP X pins σ Q) X.xe s
def MtR (X:Cx) (id:String) (r:V->List V->Hp->VK->Prop):Prop :=
 ∀(pins:List (Addr×Obj)) (s:Shared) (σ:St) (H:Hp) (x:V) (xs:List V) (v:Value) (us:List Value) (Q:VK),Inv X pins σ H s->RelV x v->cL xs us->r x xs H Q →
  wpAny (model X.prog X.w) X.A (call (.builtin id) (v :: us)) (EP X pins σ Q) X.xe s
section
variable {X:Cx} {a b:Expr} {ta tb:TE} {pos:Pos}
theorem bJ {r:R2} (hr:PL X r) (ha:PE X a ta) (hb:PE X b tb) (hs:Mc b:=by intro _ _;rfl):PE X (.Subscript a b pos) (OP r ta tb):=by
 intro pins s σ H Q I h;exact Subscript_ (Oi ha hb I h fun v u s2 x y H2 I2 rx ry q=>hr a b pins s2 σ H2 x y v u Q I2 rx ry q (hs _ _))
def NM (K:PySem.W.Frag):R2:=fun x y H Q=>∃p xs i v,x=.ref p/\y=.int i/\bV K H p xs/\E6 xs i=some v/\Q v H
def NL (K:PySem.W.Frag):R2:=fun x y H Q=>∃p xs i v,x=.ref p/\y=.int i/\oI K H p xs/\E6 xs i=some v/\Q v H
theorem bZ:PL X (NM X.K):=by
 intro value slice pins s σ H x y v u Q I rx ry h hs;obtain ⟨p,xs,i,z,rfl,rfl,hq,he,q⟩:=h;cases rx;obtain ⟨t,rfl⟩:=ry;obtain ⟨its,r,pl,hz⟩:=I.list hq;obtain ⟨j,h1,h2,h3,h4,h5⟩:=CM he;obtain ⟨w,ew,rw'⟩:=r.get h2;have hl:=r.length;have hn:=Aj;have fin:EP X pins σ Q w s:=⟨z,H,I,rw',q⟩;by_cases h0:0<=i
 ·have hj:i.toNat=j:=by
   rw[seqIndex_of h0 h5] at h1;exact cg h1
  exact item_listR pl.isList h0 (by lia) (by rw[hj];simpa using ew) fin hs
 ·have hj:(i+(its.toArray.size:Int)).toNat=j:=by
   rw[seqIndex_neg (by lia) h4] at h1;rw[aJ,<- hl];exact cg h1
  exact subscriptTail_builtinR (x:=w) pl.isList.typeIs slot_list_getitem.lookup
   (wpAny_getItem_list_neg (Q:=fun r s'=>r=w/\EP X pins σ Q r s') pl.isList (by lia) (by rw[aJ] <;> lia) (by lia) (by rw[hj];simpa using ew) ⟨rfl,fin⟩) hs
theorem cO:PL X (NL X.K):=by
 intro value slice pins s σ H x y v u Q I rx ry h hs;obtain ⟨p,xs,i,z,rfl,rfl,hq,he,q⟩:=h;cases rx;obtain ⟨t,rfl⟩:=ry;obtain ⟨its,r,pl,hz⟩:=I.tuple hq;obtain ⟨j,h1,h2,h3,h4,h5⟩:=CM he;obtain ⟨w,ew,rw'⟩:=r.get h2;have hl:=r.length;have hn:=Aj;have fin:EP X pins σ Q w s:=⟨z,H,I,rw',q⟩
 exact subscriptTail_builtinR (x:=w) pl.typeIs slot_tuple_getitem.lookup
  (getItem_tuple (j:=j) (Q:=fun r s'=>r=w/\EP X pins σ Q r s') pl (by lia) (by lia) (by rw[aJ,<- hl];exact h1) (by simpa using ew) ⟨rfl,fin⟩) hs
theorem EO (its:List Value) (n j:Nat) (u:Value):Obj.mapSeq (·.setIfInBounds j u) { cls:=.type "list",data:=.seq its.toArray n }={ cls:=.type "list",data:=.seq (its.set j u).toArray n }:=by
 simp [Obj.mapSeq]
theorem Inv.lst {pins:List (Addr×Obj)} {σ:St} {H:Hp} {s:Shared} {p:Addr} {xs:List V} (I:Inv X pins σ H s) (h:H p=some (.lst xs)) :
  ∃(its:List Value) (n:Nat),cL xs its/\s.heap.get? p=some { cls:=.type "list",data:=.seq its.toArray n }/\xs.length<=sizeLine:=by
 obtain ⟨z,its,n,r,e⟩:=I.hok p _ h;exact ⟨its,n,r,e,z⟩
theorem Inv.lstUpd {pins:List (Addr×Obj)} {σ:St} {H:Hp} {s:Shared} {p:Addr} {xs ys:List V} {its its':List Value} {n n':Nat} {f:Obj->Obj} (I:Inv X pins σ H s) (h:H p=some (.lst xs))
  (ho:s.heap.get? p=some { cls:=.type "list",data:=.seq its.toArray n }) (hf:f { cls:=.type "list",data:=.seq its.toArray n }={ cls:=.type "list",data:=.seq its'.toArray n' }) (r:cL ys its') (hz:ys.length<=sizeLine) (t:Nat) :
  Inv X pins σ (upd H p (.lst ys)) { s with heap:=s.heap.update p f,toks:=t }:=by
 have e:(s.heap.update p f).get? p=some { cls:=.type "list",data:=.seq its'.toArray n' }:=by
  rw[Heap.get?_update_self f ho (by rw[hf] <;> rfl),hf]
 refine I.write (x:=p) (e:=p) (by rw[h];trivial) (.inl rfl) (fun b u hb q=>(Heap.get?_update_other _ _ (Ne.symm hb)).trans q) ⟨_,e⟩ ?_;exact ⟨hz,its',n',r,e⟩
def Mw:V->V->V->Hp->(Hp->Prop)->Prop:=fun o i v H Q=>∃p xs k j,o=.ref p/\i=.int k/\H p=some (.lst xs)/\Ii xs.length k=some j/\Q (upd H p (.lst (xs.set j v)))
theorem set_list:Om X Mw:=by
 intro pins s σ H o i v ov iv u Q I ro ri rv h;obtain ⟨p,xs,k,j,rfl,rfl,hp,hj,q⟩:=h;cases ro;obtain ⟨t,rfl⟩:=ri;obtain ⟨its,n,r,ho,hz⟩:=I.lst hp;obtain ⟨h1,h2,h3,h4⟩:=FN hj;have hl:=r.length;have hn:=Aj
 have I':Inv X pins σ (upd H p (.lst (xs.set j v))) { s with heap:=s.heap.update p (Obj.mapSeq (·.setIfInBounds j u)) } :=
  I.lstUpd hp ho (EO its n j u) (r.set rv j) (by rw[eF];exact hz) s.toks
 by_cases h0:0<=k
 ·have hk:k.toNat=j:=by
   rw[seqIndex_of h0 h4] at h1;exact cg h1
  exact PySem.W.ki_setAt ho h0 (by lia) (by rw[aJ,<- hl];exact h4) (by rw[hk];exact ⟨_,I',q⟩)
 ·have hk:(k+(its.toArray.size:Int)).toNat=j:=by
   rw[seqIndex_neg (by lia) h3] at h1;rw[aJ,<- hl];exact cg h1
  exact PySem.W.ki_setBack ho (by lia) (by rw[aJ,<- hl];exact h3) (by lia) (by rw[hk];exact ⟨_,I',q⟩)
theorem BU (lo hi:Option Int) (n:Nat):(sliceBounds lo hi none n).1=((HT.Dn n 0 lo:Nat):Int)/\(sliceBounds lo hi none n).2.1=((HT.Dn n n hi:Nat):Int)/\(sliceBounds lo hi none n).2.2=1:=by
 refine ⟨?_,?_,rfl⟩
 ·cases lo with
  | none=>simp [sliceBounds,HT.Dn]
  | some i =>
   simp only[sliceBounds,HT.Dn,Option.getD_none,show (1:Int) > 0 by decide,if_true];by_cases h:i < 0
   ·simp only[h,if_true] <;> lia
   ·simp only[h,if_false] <;> lia
 ·cases hi with
  | none=>simp [sliceBounds,HT.Dn]
  | some i =>
   simp only[sliceBounds,HT.Dn,Option.getD_none,show (1:Int) > 0 by decide,if_true];by_cases h:i < 0
   ·simp only[h,if_true] <;> lia
   ·simp only[h,if_false] <;> lia
theorem AK (its:List Value) (lo hi:Option Int):slicePick its.toArray lo hi none=((its.drop (HT.Dn its.length 0 lo)).take (HT.Dn its.length its.length hi - HT.Dn its.length 0 lo)).toArray:=by
 obtain ⟨h1,h2,h3⟩:=BU lo hi its.toArray.size;unfold slicePick;rw[h1,h2,h3];simp only[sliceRange_one,pick_run,aJ] <;> rfl
def NK (K:PySem.W.Frag):V->Option Int->Option Int->Hp->VK->Prop:=fun x lo hi H Q=>∃a xs,x=.ref a/\bV K H a xs/\∀p,H p=none->Q (.ref p) (upd H p (.lst (uY xs lo hi)))
theorem BV:Qq X (NK X.K):=by
 intro pins s σ H x v vl vu lo hi sl Q I rx hs pl pu h;obtain ⟨a,xs,rfl,hx,q⟩:=h;cases rx;obtain ⟨its,r,ht,hz⟩:=I.list hx;have hlen:=r.length;refine ⟨"list",_,slot_list_getitem.lookup,ht.isList.typeIs,?_⟩;refine wpAny_getItem_list_slice ht.isList hs pl pu .none (by simp) ?_ (by rw[aJ] <;> lia);rw[AK,<- hlen];refine ⟨.ref s.heap.objs.size,_,I.laid (t':=s.toks) (o:=.lst (uY xs lo hi)) (fun b ob q=>Heap.get?_push_of_some _ q) (av _) ?_,rfl,q _ (I.hok.fresh (av _))⟩;exact ⟨ah (yv xs lo hi) hz,_,0,(r.drop (HT.Dn xs.length 0 lo)).take (HT.Dn xs.length xs.length hi - HT.Dn xs.length 0 lo),Heap.get?_push_size _ rfl⟩
def wQ:V->Bool
 | .non=>true
 | .bl _=>true
 | .int _=>true
 | .str _=>true
 | _=>false
def ML:V->V->Bool
 | .non,.non=>true
 | .bl a,.bl b=>a == b
 | .bl a,.int b=>(if a then 1 else 0) == b
 | .int a,.bl b=>a == (if b then 1 else 0)
 | .int a,.int b=>a == b
 | .str a,.str b=>a == b
 | _,_=>false
theorem Od {A:Around} {s:Shared} {y x:V} {u v:Value} (ry:RelV y u) (rx:RelV x v) (fy:wQ y=true) (fx:wQ x=true):SeqAt.EqAt A s u v (ML y x):=by
 cases y with
 | non =>
  cases ry;cases x with
  | non=>cases rx;exact SeqAt.EqAt.same _
  | bl b=>cases rx;exact SeqAt.EqAt.none_bool b
  | int b=>obtain ⟨t,rfl⟩:=rx;exact SeqAt.EqAt.none_int b t
  | str b=>obtain ⟨t,rfl⟩:=rx;exact SeqAt.EqAt.none_str b t
  | _=>exact absurd (show false=true from fx) aX
 | bl a =>
  cases ry;cases x with
  | non=>cases rx;exact SeqAt.EqAt.bool_none a
  | bl b=>cases rx;exact SeqAt.EqAt.bool_bool a b
  | int b=>obtain ⟨t,rfl⟩:=rx;exact SeqAt.EqAt.bool_int a b t
  | str b=>obtain ⟨t,rfl⟩:=rx;exact SeqAt.EqAt.bool_str a b t
  | _=>exact absurd (show false=true from fx) aX
 | int a =>
  obtain ⟨t',rfl⟩:=ry;cases x with
  | non=>cases rx;exact SeqAt.EqAt.int_none a t'
  | bl b=>cases rx;exact SeqAt.EqAt.int_bool a t' b
  | int b=>obtain ⟨t,rfl⟩:=rx;exact SeqAt.EqAt.int_int a t' b t
  | str b=>obtain ⟨t,rfl⟩:=rx;exact SeqAt.EqAt.int_str a t' b t
  | _=>exact absurd (show false=true from fx) aX
 | str a =>
  obtain ⟨t',rfl⟩:=ry;cases x with
  | non=>cases rx;exact SeqAt.EqAt.str_none a t'
  | bl b=>cases rx;exact SeqAt.EqAt.str_bool a t' b
  | int b=>obtain ⟨t,rfl⟩:=rx;exact SeqAt.EqAt.str_int a t' b t
  | str b=>obtain ⟨t,rfl⟩:=rx;exact SeqAt.EqAt.str_str a t' b t
  | _=>exact absurd (show false=true from fx) aX
 | _=>exact absurd (show false=true from fy) aX
def LX (x:V) (u:Value):Bool:=match u with
 | .none=>ML .non x
 | .bool b=>ML (.bl b) x
 | .int i _=>ML (.int i) x
 | .str z _=>ML (.str z) x
 | _=>false
theorem Kc {x y:V} {u:Value} (r:RelV y u) (f:wQ y=true):LX x u=ML y x:=by
 cases y with
 | non=>cases r;rfl
 | bl b=>cases r;rfl
 | int i=>obtain ⟨t,rfl⟩:=r;rfl
 | str z=>obtain ⟨t,rfl⟩:=r;rfl
 | _=>exact absurd (show false=true from f) aX
theorem CQ {x:V}:∀{xs:List V} {us:List Value},cL xs us->xs.all wQ=true->us.any (LX x)=xs.any fun y=>ML y x
 | _,_,.nil,_=>rfl
 | y :: xs,u :: us,.cons r t,f=>by
  rw[OG,dQ] at f;rw[List.any_cons,List.any_cons,Kc r f.1,CQ t f.2]
theorem Af {A:Around} {s:Shared} {x:V} {v:Value} (rx:RelV x v) (fx:wQ x=true):∀{xs:List V} {us:List Value},cL xs us->xs.all wQ=true->∀u∈us,SeqAt.EqAt A s u v (LX x u)
 | _,_,.nil,_=>fun u hu=>by cases hu
 | y :: xs,u :: us,.cons r t,f=>fun u' hu=>by
  rw[OG,dQ] at f;rcases aG.mp hu with rfl | hu
  ·rw[Kc r f.1];exact Od r rx f.1 fx
  ·exact Af rx fx t f.2 u' hu
def PZ (x:V) (xs:List V):Bool:=xs.any fun y=>ML y x
def rIn (K:PySem.W.Frag) (neg:Bool):R2:=fun x y H Q=>∃p xs,y=.ref p/\(bV K H p xs\/oI K H p xs)/\wQ x=true/\xs.all wQ=true/\Q (.bl (if neg then !PZ x xs else PZ x xs)) H
theorem HE:yR X (compareOp .In) (rIn X.K false):=by
 intro pins s σ H x y v u Q I rx ry h;obtain ⟨p,xs,rfl,hq,fx,fs,q⟩:=h;cases ry;rcases hq with hq | hq
 ·obtain ⟨its,r,pl,hz⟩:=I.list hq;refine SeqAt.in_listAt (LX x) pl.isList (fun w hw=>Af rx fx r fs w (by simpa using hw)) ⟨.bl _,H,I,rfl,?_⟩;rw[show its.toArray.any (LX x)=its.any (LX x) by simp,CQ r fs];exact q
 ·obtain ⟨its,r,pl,hz⟩:=I.tuple hq;refine SeqAt.in_tupleAt (LX x) pl (fun w hw=>Af rx fx r fs w (by simpa using hw)) ⟨.bl _,H,I,rfl,?_⟩;rw[show its.toArray.any (LX x)=its.any (LX x) by simp,CQ r fs];exact q
theorem bL:vC X (.builtin "len") (fun xs H Q=>∃p ys,xs=[.ref p]/\(bV X.K H p ys\/oI X.K H p ys)/\Q (.int ys.length) H):=by
 intro pins s σ H xs us Q I r h;obtain ⟨p,ys,rfl,hq,q⟩:=h;obtain ⟨u,rfl,rx⟩:=vals1 r;cases rx;have hn:=Aj;rcases hq with hq | hq
 ·obtain ⟨its,r',pl,hz⟩:=I.list hq;have hlen:=r'.length;exact Calls.call_len_list pl.isList (by simp only[aJ] <;> lia) ⟨.int ys.length,H,I.tok _,⟨s.toks+1,by rw[aJ,hlen]⟩,q⟩
 ·obtain ⟨its,r',pl,hz⟩:=I.tuple hq;have hlen:=r'.length;exact len_tuple pl (by simp only[aJ] <;> lia) ⟨.int ys.length,H,I.tok _,⟨s.toks+1,by rw[aJ,hlen]⟩,q⟩
theorem ke:vC X (.type "list") (fun xs H Q=>∃p ys,xs=[.ref p]/\(bV X.K H p ys\/oI X.K H p ys)/\∀l,H l=none->Q (.ref l) (upd H l (.lst ys))):=by
 intro pins s σ H xs us Q I r h;obtain ⟨p,ys,rfl,hq,q⟩:=h;obtain ⟨u,rfl,rx⟩:=vals1 r;cases rx
 have fin:∀(its:List Value),cL ys its->ys.length<=sizeLine->∀(h':Heap) (c':Nat),(∀b o',s.heap.get? b=some o'->h'.get? b=some o') →
   h'.get? s.heap.objs.size=some { cls:=.type "list",dict:=none,data:=.seq its.toArray c',slots:=#[] }->EP X pins σ Q (.ref s.heap.objs.size) { s with heap:=h' }:=fun its r' hz h' c' kp e =>
  ⟨.ref s.heap.objs.size,_,I.laid (t':=s.toks) kp (av _) (show jK X.prog X.w _ h' _ (.lst ys) from ⟨hz,its,c',r',e⟩),rfl,q _ (I.hok.fresh (av _))⟩
 rcases hq with hq | hq
 ·obtain ⟨its,r',pl,hz⟩:=I.list hq;have hlen:=r'.length;obtain ⟨o,ho,hc,n,hd⟩:=pl.isList;exact call_list_seq p (.inl rfl) ho hc hd (fun h' c' kp e=>fin its r' hz h' c' kp e) (by simp only[aJ] <;> lia)
 ·obtain ⟨its,r',pl,hz⟩:=I.tuple hq;have hlen:=r'.length;obtain ⟨o,ho,hc,n,hd⟩:=pl;exact call_list_seq p (.inr rfl) ho hc hd (fun h' c' kp e=>fin its r' hz h' c' kp e) (by simp only[aJ] <;> lia)
def P8 (K:PySem.W.Frag) (T:String) (x:V) (H:Hp):Prop:=match x with
 | .str _=>T="str"
 | .int _=>T="int"
 | .ref p=>(T="list"/\∃xs,bV K H p xs)\/(T="tuple"/\∃o,K.lookup p=some o/\o.cls=.type "tuple"/\o.dict=none) \/
   (T="dict"/\((∃kvs,H p=some (.dK kvs))\/∃kvs,H p=some (.dT kvs)))\/(T="set"/\∃S n,H p=some (.set S n))
 | _=>False
theorem MV {pins:List (Addr×Obj)} {σ:St} {H:Hp} {s:Shared} {T:String} {x:V} {v:Value} (I:Inv X pins σ H s) (r:RelV x v) (ty:P8 X.K T x H) :
  s.TypeIs v T/\∀a,v=.ref a->∃ob,s.heap.get? a=some ob/\ob.dict=none:=by
 cases x with
 | str z =>
  obtain ⟨t,rfl⟩:=r;cases (show T="str" from ty);exact ⟨typeIs_str s z t,fun _ e=>nomatch e⟩
 | int i =>
  obtain ⟨t,rfl⟩:=r;cases (show T="int" from ty);exact ⟨typeIs_int s i t,fun _ e=>nomatch e⟩
 | ref p =>
  cases r;rcases ty with ⟨rfl,xs,hq⟩ | ⟨rfl,o,hk,hc,hd⟩ | ⟨rfl,hk⟩ | ⟨rfl,S,n,hk⟩
  ·obtain ⟨its,_,pl,_⟩:=I.list hq;refine ⟨pl.isList.typeIs,fun a e=>?_⟩;cases e;obtain ⟨o,n,e,c,hd,_⟩:=pl;exact ⟨o,e,hd⟩
  ·refine ⟨⟨o,I.kIn p o hk,hc⟩,fun a e=>?_⟩;cases e;exact ⟨o,I.kIn _ o hk,hd⟩
  ·have z:∃o,s.heap.get? p=some o/\o.ExactDict:=by
    rcases hk with ⟨kvs,hk⟩ | ⟨kvs,hk⟩
    ·obtain ⟨_,_,_,_,o,_,_,e,ex,_⟩:=I.hok p _ hk;exact ⟨o,e,ex⟩
    ·obtain ⟨_,_,_,_,o,_,_,e,ex,_⟩:=I.hok p _ hk;exact ⟨o,e,ex⟩
   obtain ⟨o,e,ex⟩:=z;refine ⟨⟨o,e,ex.1⟩,fun a e2=>?_⟩;cases e2;exact ⟨o,e,ex.2.1⟩
  ·obtain ⟨o,_,_,_,e,ex,_⟩:=I.hok p _ hk;refine ⟨⟨o,e,ex.1⟩,fun a e2=>?_⟩;cases e2;exact ⟨o,e,ex.2.1⟩
 | _=>exact False.elim ty
def tBM (K:PySem.W.Frag) (T:String) (r:V->List V->Hp->VK->Prop) (to:TE) (t:TA):TE:=fun σ H Q=>to σ H fun x H1=>P8 K T x H1/\t σ H1 fun xs H2=>r x xs H2 Q
variable {o e:Expr} {es:List Expr} {to:TE} {t:TA} {name:Str} {apos cpos:Pos} {T id:String} {r:V->List V->Hp->VK->Prop}
theorem va (pa:PlainAttrs T) (slot:Slot T name id) (hty:typeOf (.builtin id)=pure (.type "method_descriptor")) (hm:MtR X id r) (ho:PE X o to) (ha:PA X (e :: es) t)
  (hbase:attributeBase o name X.env (eval o X.env)=eval o X.env:=by rfl)
  (hfew:((backTo cpos (starEach (e :: es) X.env)).all (fun x=>!x.1) && (backToKw cpos (keywordEach [] X.env)).all (fun x=>x.1.isSome)
   && decide ((e :: es).length+([]:List Keyword).length+(if ([]:List Keyword).isEmpty then 0 else 1) < 30))=true:=by rfl)
  (hline:(apos.endLine == cpos.line)=true:=by rfl) (hs:starEach (e :: es) X.env=(false,eval e X.env) :: starEach es X.env:=by rfl) (hplain:(backTo cpos (starEach es X.env)).any (·.1)=false:=by rfl) :
  PE X (.Call (.Attribute o name apos) (e :: es) [] cpos) (tBM X.K T r to t):=by
 intro pins s σ H Q I h;refine wpAny_Call_method_late hbase hfew hline rfl (fP (ho pins s σ H _ I h) fun v s1 ⟨x,H1,I1,r1,ty,q1⟩=>?_);obtain ⟨h1,h2⟩:=MV I1 r1 ty;refine ⟨T,id,pa,slot,hty,h1,h2,?_⟩;have hA:=ha cpos pins s1 σ H1 _ I1 q1;rw[hs] at hA ⊢;refine Calls.callWith_builtin (by show (false || (backTo cpos (starEach es X.env)).any (·.1))=false;rw[hplain] <;> rfl) (Calls.evalArgs_plain ?_);exact fP hA fun us s2 ⟨vs,H2,I2,r2,q2⟩=>hm pins s2 σ H2 x vs v us Q I2 r1 r2 q2
end
def MtM (X:Cx) (id:String) (r:V->List V->Hp->VK->Prop):Prop :=
 ∀(pins:List (Addr×Obj)) (s:Shared) (σ:St) (H:Hp) (x:V) (xs:List V) (v:Value) (us:List Value) (Q:VK),Inv X pins σ H s->RelV x v->cL xs us->r x xs H Q →
  wpAny (model X.prog X.w) X.A (call (.builtin id) (v :: us)) (EP X pins σ Q) X.xe s
theorem cL.one:∀{x:V} {us:List Value},cL [x] us->∃u,us=[u]/\RelV x u
 | _,_,.cons r .nil=>⟨_,rfl,r⟩
theorem cL.rep {xs:List V} {us:List Value} (h:cL xs us):∀k:Nat,cL (List.replicate k xs).flatten (List.replicate k us).flatten
 | 0=>.nil
 | k+1=>by
  rw[iS,iS,gW,gW];exact cL.append h (cL.rep h k)
theorem foldl_rep (its:List Value):∀(k:Nat) (acc:List Value),
  List.foldl (fun x1 x2=>x1++x2) acc.toArray (List.replicate k its.toArray)=(acc++(List.replicate k its).flatten).toArray
 | 0,acc=>by simp
 | k+1,acc=>by
  have e:acc.toArray++its.toArray=(acc++its).toArray:=by simp
  have e2:(acc++its)++(List.replicate k its).flatten=acc++(List.replicate (k+1) its).flatten:=by
   rw[iS,gW,cb]
  rw[<- e2,<- foldl_rep its k (acc++its),<- e,iS,List.foldl_cons]
section
variable {X:Cx} {pins:List (Addr×Obj)} {σ:St} {H:Hp} {s:Shared} {l b:Addr} {xs ys zs:List V}
theorem Inv.lset {its its':List Value} {n:Nat} {f:Array Value->Array Value} {t':Nat} (I:Inv X pins σ H s) (hH:H l=some (.lst xs))
  (e:s.heap.get? l=some { cls:=.type "list",data:=.seq its.toArray n }) (hf:f its.toArray=its'.toArray) (hv:cL ys its') (hz:ys.length<=sizeLine) :
  Inv X pins σ (upd H l (.lst ys)) { s with heap:=s.heap.update l (Obj.mapSeq f),toks:=t' }:=by
 have q:=mF e f;rw[hf] at q;refine I.write (x:=l) (e:=l) (by rw[hH];exact trivial) (.inl rfl) (fun b' u hb hu=>(Heap.get?_update_other s.heap (Obj.mapSeq f) (Ne.symm hb)).trans hu) ⟨_,q⟩ ?_;exact ⟨hz,its',_,hv,q⟩
theorem Inv.lnew {its:List Value} {t':Nat} (I:Inv X pins σ H s) (hv:cL ys its) (hz:ys.length<=sizeLine) :
  Inv X pins σ (upd H s.heap.objs.size (.lst ys)) { s with heap:=s.heap.push { cls:=.type "list",data:=.seq its.toArray },toks:=t' } :=
 I.laid (fun _ _ q=>Heap.get?_push_of_some _ q) (av _) ⟨hz,its,0,hv,Heap.get?_push_size _ rfl⟩
theorem Inv.fresh (I:Inv X pins σ H s):H s.heap.objs.size=none:=I.hok.fresh (av _)
theorem Inv.lstM (I:Inv X pins σ H s) (hH:H l=some (.lst xs)):xs.length<=sizeLine/\∃(its:List Value) (n:Nat),cL xs its/\xs.length=its.length/\s.heap.get? l=some { cls:=.type "list",data:=.seq its.toArray n }:=by
 obtain ⟨z,its,n,r,e⟩:=I.hok l _ hH;exact ⟨z,its,n,r,r.length,e⟩
theorem Dz {n:Nat} (h:n<=sizeLine):Builtin.List.listTooLong n=false:=by
 unfold Builtin.List.listTooLong;exact decide_eq_false (by lia)
end
section
variable {X:Cx}
def Fw:V->List V->Hp->VK->Prop:=fun x vs H Q=>∃l xs y,x=.ref l/\vs=[y]/\H l=some (.lst xs)/\xs.length < sizeLine/\Q .non (upd H l (.lst (xs++[y])))
theorem kO:MtM X "list.append" Fw:=by
 intro pins s σ H x vs v us Q I rx rv h;obtain ⟨l,xs,y,rfl,rfl,hH,hz,q⟩:=h;cases rx;obtain ⟨u,rfl,ru⟩:=rv.one;obtain ⟨z,its,n,r,hl,e⟩:=I.lstM hH;refine call_meets F.slot_list_append ⟨_,e,rfl⟩ F.entry_list_append (F.args_list_append_2 _ _) (PySem.list_append l its.toArray n u (by rw[aJ];lia)) ⟨e,?_⟩;refine ⟨.non,_,I.lset (its':=its++[u]) hH e (by simp) (r.append (.cons ru .nil)) ?_,rfl,q⟩;rw[aw,bI]
 lia
def LD:V->List V->Hp->VK->Prop:=fun x vs H Q=>∃l b xs zs,x=.ref l/\vs=[.ref b]/\H l=some (.lst xs)/\H b=some (.lst zs)/\xs.length+zs.length<=sizeLine/\Q .non (upd H l (.lst (xs++zs)))
theorem xT:MtM X "list.extend" LD:=by
 intro pins s σ H x vs v us Q I rx rv h;obtain ⟨l,b,xs,zs,rfl,rfl,hH,hB,hz,q⟩:=h;cases rx;obtain ⟨u,rfl,ru⟩:=rv.one;cases ru;obtain ⟨z,its,n,r,hl,e⟩:=I.lstM hH;obtain ⟨z2,its2,n2,r2,hl2,e2⟩:=I.lstM hB;have hsz:its.toArray.size+its2.toArray.size<=sizeLine:=by rw[aJ,aJ];lia
 have hlong:¬(!its.toArray.isEmpty && Builtin.List.listTooLong (its.toArray.size+its2.toArray.size))=true:=by
  rw[Dz hsz,Bool.and_false];exact aX
 refine call_meets F.slot_list_extend ⟨_,e,rfl⟩ F.entry_list_extend (F.args_list_extend_2 _ _)
  (AutoSeq1.list_extend_list_list_0 l its.toArray n b its2.toArray n2 hlong (by rw[aJ];lia) (by lia)) ⟨e,e2,?_⟩
 refine ⟨.non,_,I.lset (its':=its++its2) hH e (by simp) (r.append r2) ?_,rfl,q⟩;rw[aw]
 lia
def Pe:R2:=fun x y H Q=>∃l b xs zs,x=.ref l/\y=.ref b/\H l=some (.lst xs)/\H b=some (.lst zs)/\xs.length+zs.length<=sizeLine/\∀p,H p=none->Q (.ref p) (upd H p (.lst (xs++zs)))
theorem tF:yR X (binaryOp .Add) Pe:=by
 intro pins s σ H x y v u Q I rx ry h;obtain ⟨l,b,xs,zs,rfl,rfl,hH,hB,hz,q⟩:=h;cases rx;cases ry;obtain ⟨z,its,n,r,hl,e⟩:=I.lstM hH;obtain ⟨z2,its2,n2,r2,hl2,e2⟩:=I.lstM hB;refine PySem.P.add_list e e2 ?_ (by rw[aJ,aJ];lia);have ea:its.toArray++its2.toArray=(its++its2).toArray:=by simp
 rw[ea];exact ⟨.ref _,_,I.lnew (t':=s.toks) (r.append r2) (by rw[aw];lia),rfl,q _ I.fresh⟩
def Pc:R2:=fun x y H Q=>∃l k xs,x=.ref l/\y=.int k/\H l=some (.lst xs)/\-(2^63)<=k/\k < 2^63/\xs.length*k.toNat<=sizeLine /\
 ∀p,H p=none->Q (.ref p) (upd H p (.lst (List.replicate k.toNat xs).flatten))
theorem len_rep {α:Type} (xs:List α) (k:Nat):(List.replicate k xs).flatten.length=k*xs.length:=by
 induction k with
 | zero=>simp
 | succ k ih=>rw[iS,gW,aw,ih,dr,zj]
theorem Jv:yR X (binaryOp .Mult) Pc:=by
 intro pins s σ H x y v u Q I rx ry h;obtain ⟨l,k,xs,rfl,rfl,hH,h1,h2,hz,q⟩:=h;cases rx;obtain ⟨t,rfl⟩:=ry;obtain ⟨z,its,n,r,hl,e⟩:=I.lstM hH;have hlen:its.toArray.size*k.toNat<=sizeLine:=by rw[aJ,<- hl];exact hz
 have hcap:¬its.toArray.size*k.toNat > (2^63 - 1) / 8:=by
  have:(sizeLine:Nat)<=(2^63 - 1) / 8:=by decide
  lia
 have hfit:¬(!Builtin.List.listFitsIndex k)=true:=by
  rw[fitsIndex_both h1 h2];exact aX
 have hlong:¬Builtin.List.listTooLong (its.toArray.size*k.toNat)=true:=by
  rw[Dz hlen];exact aX
 have hnew:List.foldl (fun x1 x2=>x1++x2) #[] (List.replicate (if its.toArray.isEmpty=true then 0 else k.toNat) its.toArray)=(List.replicate k.toNat its).flatten.toArray:=by
  have f0:∀m:Nat,List.foldl (fun x1 x2=>x1++x2) #[] (List.replicate m its.toArray)=(List.replicate m its).flatten.toArray:=fun m=>by
   have:=foldl_rep its m [];rw[cW] at this;exact this
  rw[f0];cases its with
  | nil=>simp
  | cons a r'=>rw[if_neg (by simp)]
 refine wpAny_binaryOp_repeat_ref (T:="list") (U:="int") (by decide) ⟨_,e,rfl⟩ (fun s'=>typeIs_int s' k t) noFill_list_mul F.fills_int_mul F.slot_int_rmul repeat_list F.slot_int_index.lookup
  (call_meets F.slot_int_rmul (typeIs_int s k t) F.entry_int_rmul (F.args_int_rmul_2 _ _) (int___rmul___int_list k t l its.toArray n)
   ⟨e,rfl,⟨_,e,rfl⟩,call_meets F.slot_list_mul ⟨_,e,rfl⟩ F.entry_list_mul (F.args_list_mul_2 _ _) (AutoListH.list___mul___list_int_3 l its.toArray n k t hfit hcap hlong) ⟨e,?_⟩⟩)
 rw[hnew];exact ⟨.ref _,_,I.lnew (t':=s.toks) (r.rep k.toNat) (by rw[len_rep,bU];exact hz),rfl,q _ I.fresh⟩
end
end L2
namespace Att
open PySem PySem.W PySem.Calls PyProof.Rows
theorem yN {P:Params} {h:Heap}:∀(ns:List Int) (vs:List Value),WellAll P h vs (ns.map WData.int)->IntsAre vs ns:=by
 intro ns
 induction ns with
 | nil =>
  intro vs w;rw[List.map_nil] at w;cases w;exact .nil
 | cons n ns ih =>
  intro vs w;rw[hJ] at w;cases w with
  | cons a b =>
   cases a;exact .cons _ _ (ih _ b)
theorem GY {l:OpenLaw} {n:Nat} (hn:l.most=some n) {P:Params} {h:Heap} {args:List WData} {vals:List Value}
  (hpre:l.row.toRowW.claim.pre args=true) (hwl:WellAll P h vals args) :
  ∃a vs ns,vals=[Value.ref a]/\args=[WData.list (ns.map WData.int)]/\h.get? a=some { cls:=.type "list",data:=.seq vs.toArray }/\IntsAre vs ns/\ns.length<=n:=by
 have hsh:WShape.hasAll [] args [.list .int]=true:=(pre_splitW hpre).1;have hc:l.pre.holds [] { args:=args }=true:=(pre_splitW hpre).2;obtain ⟨d,r,rfl,h1,h2⟩:=hasAllW_cons hsh;obtain rfl:=hasAllW_nil h2;obtain ⟨xs,rfl,h3⟩:=hasW_list h1;obtain ⟨ns,rfl⟩:=items_int h3
 have hlen:ns.length<=n:=by
  unfold OpenLaw.pre at hc
  have h4:(WTm.not (.lt (.lit (.int (n:Int))) (.len (.arg 0)))).holds [] { args:=[.list (ns.map .int)] }=true:=by
   have h4:=(holds_andW hc).1;rw[hn] at h4;exact h4
  have h5:=condW_of h4 (w_not (w_lt w_lit (w_len_list (w_arg rfl))));rw[ao] at h5;refine Nat.le_of_not_lt fun q=>?_
  have q':(n:Int) < ((ns.length:Nat):Int):=by lia
  first
   | (rw[decide_eq_true q'] at h5;exact absurd h5 (by decide))
   | (simp at h5;lia)
 cases hwl with
 | cons w1 w2 =>
  cases w2;cases w1 with
  | list ho hall=>exact ⟨_,_,ns,rfl,rfl,ho,yN ns _ hall,hlen⟩
theorem HB (l:OpenLaw) (args:List WData):l.row.toRowW.claim.post args (.bool true) args=true :=
 postW_of (r:=l.row.toRowW) (X:=(true == true))
  (show WShape.has [] (.bool true) .bool=true by first | rfl | decide | simp [WShape.has,WShape.arms,WShape.armsAll])
  (show (WTm.eq .res (.lit (.bool true))).value [] { args:=args,res:=some (.bool true),after:=args }=some (.bool (true == true)) from w_eq_bool (w_res rfl) w_lit) rfl
theorem DV {l:OpenLaw} {n:Nat} {q:Program} {loose:List Str} {XP:(Str->Option Value)->Heap->Prop} {YP:World->Heap->Prop} {d:DefRec}
  (hn:l.most=some n) (hdf:d.params.defaults=[])
  (call:∀(w:World) (s₀ s₁:Shared) (mg mb:Str->Option Value) (fa:Addr) (o:Obj) (pm cd doc:Value) (a:Addr) (vs:List Value) (ns:List Int),
   Ground q loose [] XP w s₀ mg mb s₁.heap->YP w s₁.heap →
   s₁.heap.get? fa=some o->o.data=.func (docDef d.name d.params d.body d.scope pm cd doc)->s₁.heap.CodeRec cd d.name->mg d.name=some (.ref fa) →
   s₁.heap.get? a=some { cls:=.type "list",data:=.seq vs.toArray }->IntsAre vs ns->ns.length<=n->s₁.gens=#[] →
   codeAny (model l.prog w) callerA (.call (.ref fa) ⟨[.ref a],[]⟩) (fun r s'=>r=.ok (.ret (.bool true))/\OldK s₁.heap s'.heap/\s'.os=s₁.os/\AllBare s'.gens) s₁) :
  WalkO q loose XP YP l.row.toRowW d [] (fun f vs=>PySem.call f vs):=by
 intro w s₀ s₁ mg mb G Y fa o pm cd doc dV kV ho hd hcd hD hmg hg args vals as hpre hlay hrd hwl hlo;obtain rfl:dV=.none:=Dflts.none hD hdf;obtain rfl:kV=.none:=Dflts.noKw hD;obtain ⟨a,vs,ns,rfl,rfl,hobj,hints,hlen⟩:=GY hn hpre hwl;refine enter_call (codeAny_mono (call w s₀ s₁ mg mb fa o pm cd doc a vs ns G Y ho (fd_plain hd) hcd hmg hobj hints hlen hg) fun r s' hq=>?_);obtain ⟨rfl,h2,h3,h4⟩:=hq;exact ⟨.inl ⟨.bool true,.bool true,[],rfl,fun _=>rfl,.bool true,HB l _,fun _=>⟨List.Pairwise.nil,fun _ hm=>(nomatch hm)⟩⟩,h2,h3,h4⟩
section
variable {prog:Program} {w:World} {A:Around} {E:Value->Shared->Prop} {s:Shared} {K:Frag}
end
end Att
namespace L2
open PySem PySem.Spec PyProof.Rows
theorem A0:∀{vs:List Value} {ns:List Int},IntsAre vs ns->cL (ns.map V.int) vs
 | _,_,.nil=>.nil
 | _,_,.cons n t h=>.cons ⟨t,rfl⟩ (A0 h)
def Oo (H:Hp):Prop:=∀b,H b=none\/∃o xs,H b=some (.frz o (.lst xs))
theorem JK {P : Program} {w : World} {K : PySem.W.Frag} {mg mb : Str → Option Value} {CX : KD} {k : Nat} {fa a : Addr} {fd : FuncData} {x : Str} {sp : Sp} {s₁ : Shared} {vs : List Value} {ns : List Int}
    (KX : K.In s₁.heap) (hns : s₁.heap.Ns mainGlobals mg) (hb : s₁.heap.Ns builtinsNs mb) (hbb : ∀ x : Str, x ≠ "__name__" → mb x = bootBuiltins x) (hlim : s₁.heap.NoLimit) (hg : s₁.gens = #[])
    (ha : s₁.heap.get? a = some { cls := .type "list", data := .seq vs.toArray }) (hi : IntsAre vs ns) (hl : ns.length ≤ sizeLine) (hr : mP k callerA)
    (F : ∀ base : Heap, K.In base → base.Ns mainGlobals mg → cS P w K mg base CX k fa fd [x] sp) (hbind : ∀ (s : Shared) (u : Value), BindsTo s fd ⟨[u], []⟩ [(x, u)])
    (hsp : ∀ H : Hp, Oo H → bV K H a (ns.map V.int) → sp [.ref a] H (fun v _ => v = .bl true) fun _ _ _ => False)
    (hCX : ∀ H e s', CX [] H s₁ (fun _ _ _ => False) e s' → False) :
    codeAny (model P w) callerA (.call (.ref fa) ⟨[.ref a], []⟩) (fun r s' => r = .ok (.ret (.bool true)) /\ OldK s₁.heap s'.heap /\ s'.os = s₁.os /\ AllBare s'.gens) s₁ := by
  have rv := A0 hi;have lenV := hi.length
  have core : ∀ H : Hp, Oo H → bV K H a (ns.map V.int) → zf P w H s₁.heap → (∀ b, H b ≠ none → b = a) → (H a ≠ none → K.lookup a = none) →
      codeAny (model P w) callerA (.call (.ref fa) ⟨[.ref a], []⟩) (fun r s' => r = .ok (.ret (.bool true)) /\ OldK s₁.heap s'.heap /\ s'.os = s₁.os /\ AllBare s'.gens) s₁ := by
    intro H hO hS hok hA hK;have base_of : ∀ {b : Addr} {o : Obj}, s₁.heap.get? b = some o → H b = none → (Ct s₁.heap H).get? b = some o := fun e n => JV e n
    have noA : ∀ {b : Addr} {o : Obj} {es : Array DictEntry} {ep : Nat}, s₁.heap.get? b = some o → o.data = .dict es ep → H b = none := fun {b o es ep} e d => by
      cases q : H b with
      | none => rfl
      | some u =>
        have e' : b = a := hA b (by rw [q]; simp);subst e';rw [ha] at e; cases e;have d' : Data.seq vs.toArray _ = Data.dict es ep := d;cases d'
    have nsK : ∀ {b : Addr} {m : Str → Option Value}, s₁.heap.Ns b m → (Ct s₁.heap H).Ns b m := fun {b m} ⟨o, es, ep, e, d, r⟩ => ⟨o, es, ep, base_of e (noA e d), d, r⟩
    have hKb : K.In (Ct s₁.heap H) := fun b o e => base_of (KX b o e) (by
      cases q : H b with
      | none => rfl
      | some u =>
        have e' : b = a := hA b (by rw [q]; simp);subst e';rw [hK (by rw [q]; simp)] at e; cases e)
    have hM : Mod K mg (Ct s₁.heap H) := ⟨hKb, nsK hns, ⟨mb, nsK hb, hbb⟩, let ⟨mc, h1, h2⟩ := hlim; ⟨mc, nsK h1, h2⟩⟩;have e0 : Fg P w K mg (Ct s₁.heap H) callerA [] s₁ H := ⟨rfl, hM, fun b o e => LQ e, Nat.le_of_eq (HU _ _), trivial, fun b hb => absurd (show b ∈ ([] : List Addr) from hb) (by simp), hok, .of_eq hg⟩;refine codeAny_mono ((F _ hKb (nsK hns)).run callerA [] s₁ H ⟨[.ref a], []⟩ [.ref a] [.ref a] _ _ hr e0 (hbind s₁ (.ref a)) (.cons rfl .nil) (hsp H hO hS)) fun r s' h => ?_
    cases r with
    | error e => exact (hCX H e s' h).elim
    | ok fl =>
      cases fl with
      | next => exact False.elim h
      | brk => exact False.elim h
      | cont => exact False.elim h
      | ret u =>
        obtain ⟨v, H', os, bare, un, hok', r', q⟩ := h;have q' : v = .bl true := q;subst q';obtain rfl : u = Value.bool true := r';refine ⟨rfl, OldK.of_keep fun b o e => ?_, os, bare⟩;cases q : H b with
        | none => exact un.keep b o e q (by intro z; exact absurd (show b ∈ ([] : List Addr) from z) (by simp)) (by simp)
        | some u =>
          rcases hO b with z | ⟨ob, xs, z⟩
          · rw [q] at z; cases z
          · have z2 := un.frzs b ob _ z;obtain ⟨e1, _⟩ := hok b _ z;obtain ⟨e2, _⟩ := hok' b _ z2;rw [e] at e1; cases e1;exact e2
  cases hk : K.lookup a with
  | some o =>
    have e := KX a o hk;rw [ha] at e;cases e;refine core (fun _ => none) (fun _ => .inl rfl) (.inr ⟨_, vs.toArray, _, hk, rfl, rfl, rfl, by rw [aJ, lenV]; exact hl, by simpa using rv⟩) (fun b u z => by have z' : (none : Option HO) = some u := z; cases z') (fun b z => absurd rfl z) fun z => absurd rfl z
  | none =>
    refine core (fun b => if b = a then some (.frz { cls := .type "list", data := .seq vs.toArray } (.lst (ns.map V.int))) else none) (fun b => ?_) (.inl (.inr ⟨{ cls := .type "list", data := .seq vs.toArray }, if_pos rfl⟩)) (fun b u z => ?_) (fun b z => ?_) fun _ => hk
    · by_cases hb : b = a
      · exact .inr ⟨_, _, if_pos hb⟩
      · exact .inl (if_neg hb)
    · by_cases hb : b = a
      · have z' := (if_pos hb).symm.trans z;cases z';subst hb;exact ⟨ha, by rw [ao]; exact hl, vs, _, rv, ha⟩
      · have z' := (if_neg hb).symm.trans z;cases z'
    · by_cases hb : b = a
      · exact hb
      · exact absurd (if_neg hb) z
theorem KN {l:PySem.W.OpenLaw} {n k:Nat} {q:Program} {loose:List Str} {XP:(Str->Option Value)->Heap->Prop} {YP:World->Heap->Prop} {d:DefRec} {K:Params->PySem.W.Frag} {CX:World->KD} {sp:World->Sp} {x:Str}
  (hn:l.most=some n) (hn2:n<=sizeLine) (hdf:d.params.defaults=[]) (hr:mP k callerA)
  (hY:∀(w:World) (h:Heap),YP w h->(K w.params).In h)
  (F:∀(w:World) (mg:Str->Option Value) (fa:Addr) (h:Heap),(K w.params).In h->h.Ns mainGlobals mg->mg d.name=some (.ref fa) →
   ∃fd:FuncData,(∀(s:Shared) (u:Value),BindsTo s fd ⟨[u],[]⟩ [(x,u)]) /\
    ∀base:Heap,(K w.params).In base->base.Ns mainGlobals mg->cS l.prog w (K w.params) mg base (CX w) k fa fd [x] (sp w))
  (hsp:∀(w:World) (H:Hp) (a:Addr) (ns:List Int),ns.length<=n->Oo H->bV (K w.params) H a (ns.map V.int)->sp w [.ref a] H (fun v _=>v=.bl true) fun _ _ _=>False)
  (hCX:∀(w:World) (H:Hp) (s:Shared) (e:Value) (s':Shared),CX w [] H s (fun _ _ _=>False) e s'->False) :
  PySem.W.WalkO q loose XP YP l.row.toRowW d [] (fun f vs=>PySem.call f vs):=by
 refine Att.DV hn hdf fun w s₀ s₁ mg mb fa o pm cd doc a vs ns G Y ho hd hcd hmg hobj hints hlen hg=>?_
 have KX:=hY w _ Y;obtain ⟨fd,hb,hF⟩:=F w mg fa _ KX G.T.g hmg;exact JK KX G.T.g G.T.b G.T.builtins G.T.nolimit hg hobj hints (ah hlen hn2) hr hF hb (fun H hO hS=>hsp w H a ns hlen hO hS) fun H e s'=>hCX w H s₁ e s'
end L2


namespace L2
open PySem PySem.Spec PyProof.Rows
def inClass (s:Stmt) (j:Nat):Stmt:=match s with
 | .ClassDef _ _ _ body _ _ _ _ _ _ _=>body.getD j (.Pass ⟨0,0,0,0⟩)
 | _=>.Pass ⟨0,0,0,0⟩
def bg (s:Stmt):Arguments:=match s with
 | .FunctionDef _ a _ _ _ _ _ _ _ _=>a
 | _=>{ posonlyargs:=[],args:=[],vararg:=none,kwonlyargs:=[],kw_defaults:=[],kwarg:=none,defaults:=[] }
def be (s:Stmt):List Stmt:=match s with
 | .FunctionDef _ _ b _ _ _ _ _ _ _=>b
 | _=>[]
def az (s:Stmt):Scope:=match s with
 | .FunctionDef _ _ _ _ _ _ sc _ _ _=>sc
 | _=>{ kind:=.function,names:=[],isGenerator:=false,isCoroutine:=false }
abbrev gZ:KD:=fun _ _ _ _ _ _=>False
abbrev E0:XK:=fun _ _ _=>False
theorem Dw {X:Cx}:vU gZ X E0:=fun _ _ _ _ _ _ _ h=>h.elim
theorem dg {X:Cx} {k k':Nat} {f:Addr} {fd:FuncData} {ps:List Str} {sp:Sp} {x:Str} {p pos:Pos} {e:Expr} {es:List Expr} {t:TA} (F:cS X.prog X.w X.K X.mg X.base gZ k f fd ps sp) (hr:mP k' X.A) (hm:X.mg x=some (.ref f)) (hk:PySem.W.keepIn X.K (.ref f)=true) (hb:Binds X.K fd ps []) (ha:PA X (e::es) t) (hle:k<=k':=by decide) (hg:Gl X x:=by exact rfl) (hdb:(x==("__debug__":Str))=false:=by decide) (he:starEach (e::es) X.env=(false,eval e X.env)::starEach es X.env:=by rfl) (hpl:(backTo pos (starEach es X.env)).any (·.1)=false:=by rfl):PE X (.Call (.Name x p) (e::es) [] pos) (IB sp [] E0 t):=LK F (hr.mono hle) hg hm hk hb .nil Dw ha hdb he hpl
structure ie (K:PySem.W.Frag) (x qual:Str) (st:Stmt) (f:Addr) (fd:FuncData):Prop where
 ex:∃(oc:Value) (od:Option Addr) (kV doc pm:Value) (an:Option Addr) (cdv ct:Value) (osl:Array (Option Value)),
  fd=PySem.W.fnOf x qual (bg st) (be st) (az st) .none kV doc pm an cdv ct/\K.lookup f=some ⟨oc,od,.func fd,osl⟩/\PySem.W.codeIn K cdv qual=true
 kp:PySem.W.keepIn K (.ref f)=true
section
variable {P:Program} {w:World} {K:PySem.W.Frag} {mg:Str->Option Value} {base:Heap}
theorem ie.ok {x qual:Str} {st:Stmt} {f:Addr} {fd:FuncData} {N ps:List Str} {k:Nat} {sp:Sp} (F:ie K x qual st f fd) (S:bo N ps (az st)) (len:∀vs H Q E,sp vs H Q E->vs.length=ps.length)
  (hbody:∀(cdv:Value) (A:Around) (outer:List Env) (s:Shared) (H:Hp) (vs:List V) (Q:VK) (E:XK),mP k (A.deeper (envOfC qual (az st) s.heap.objs.size f cdv))->sp vs H Q E →
   ∃t,Fc (HZ gZ P w K mg base N qual (az st) f cdv A outer s H E).nox (be st) t/\t { nx:=fun _ H'=>Q .non H',rt:=Q } (start N vs) H):cS P w K mg base gZ (k+1) f fd ps sp:=by
 obtain ⟨oc,od,kV,doc,pm,an,cdv,ct,osl,rfl,lk,hcd⟩:=F.ex;refine Py lk hcd S len fun A outer s H vs Q E hr hsp=>?_
 obtain ⟨t,h,q⟩:=hbody cdv A outer s H vs Q E hr hsp;exact ⟨t,h.nox,q⟩
theorem ie.binds {x qual:Str} {st:Stmt} {f:Addr} {fd:FuncData} {ps:List Str} (F:ie K x qual st f fd)
  (h:∀(kV doc pm:Value) (an:Option Addr) (cdv ct:Value) (us:List Value),us.length=ps.length->bindArgs (PySem.W.fnOf x qual (bg st) (be st) (az st) .none kV doc pm an cdv ct) ⟨us,[]⟩=pure (ps.zip us)):Binds K fd ps []:=by
 obtain ⟨oc,od,kV,doc,pm,an,cdv,ct,osl,rfl,lk,hcd⟩:=F.ex;exact .all (h kV doc pm an cdv ct)
theorem bN {x qual:Str} {st:Stmt} {f:Addr} {oc:Value} {od an:Option Addr} {osl:Array (Option Value)} {kV doc pm cdv ct:Value} (l:K.lookup f=some ⟨oc,od,.func (PySem.W.fnOf x qual (bg st) (be st) (az st) .none kV doc pm an cdv ct),osl⟩)
  (c:PySem.W.codeIn K cdv qual=true) (k:PySem.W.keepIn K (.ref f)=true):ie K x qual st f (PySem.W.fnOf x qual (bg st) (be st) (az st) .none kV doc pm an cdv ct):=⟨⟨oc,od,kV,doc,pm,an,cdv,ct,osl,rfl,l,c⟩,k⟩
end
theorem bK {n:Nat} (h:n<=1000):n < sizeLine:=bA h (by decide)
section
variable {X:Cx}
theorem pv (i:Nat) {x:Str} {pos:Pos} (hN:X.N[i]?=some x:=by rfl) (hv:Qm X.env.scope x:=by first | exact Or.inl rfl | exact Or.inr (Or.inl rfl) | exact Or.inr (Or.inr rfl)) (hd:(x == ("__debug__":Str))=false:=by decide)
  (hcd:(x == ("__classdict__":Str))=false:=by decide):PE X (.Name x pos) (MZ i):=NQ hN hv hd hcd
end
theorem HQ {A B:Prop} (h:B):if false=true then A else B:=by
 rw[if_neg aX];exact h
theorem Po {A B:Prop} (h:A):if true=true then A else B:=by
 rw[if_pos rfl];exact h
theorem gG {c A B:Prop} [Decidable c] (h1:c->A) (h2:¬c->B):if c then A else B:=by
 by_cases h:c
 ·rw[if_pos h];exact h1 h
 ·rw[if_neg h];exact h2 h
def aL (H H':Hp):Prop:=∀b o,H b=some o->H' b=some o
theorem aL.refl (H:Hp):aL H H:=fun _ _ h=>h
theorem aL.trans {H H1 H2:Hp} (a:aL H H1) (b:aL H1 H2):aL H H2:=fun c o h=>b c o (a c o h)
theorem aL.free {H H':Hp} (e:aL H H') {l:Addr} (h:H' l=Option.none):H l=Option.none:=by
 cases q:H l with
 | none=>rfl
 | some o =>
  rw[e l o q] at h;cases h
theorem aL.seq {K:PySem.W.Frag} {H H':Hp} {a:Addr} {xs:List V} (e:aL H H') (h:bV K H a xs):bV K H' a xs:=by
 rcases h with (h | ⟨o,h⟩) | h
 ·exact .inl (.inl (e _ _ h))
 ·exact .inl (.inr ⟨o,e _ _ h⟩)
 ·exact .inr h
end L2
namespace Nm
theorem J0 (a b:Int):Int.gcd b (a.fmod b)=Int.gcd a b:=by
 rw[Int.fmod_def,mH a b];apply Nat.dvd_antisymm
 ·apply KA
  ·exact eQ ..
  ·have h1:=eQ (a:=b) (b:=a - b*a.fdiv b);have h2:=fg (a:=b) (b:=a - b*a.fdiv b);have h3:=Int.dvd_add h2 (oO (c:=a.fdiv b) h1);rwa [Int.sub_add_cancel] at h3
 ·apply KA
  ·exact eQ ..
  ·exact Int.dvd_sub (fg ..) (oO (eQ ..))
theorem J5 (a b:Int):Int.gcd b (a % b)=Int.gcd a b:=by
 rw[Int.emod_def,mH a b];apply Nat.dvd_antisymm
 ·apply KA
  ·exact eQ ..
  ·have h1:=eQ (a:=b) (b:=a - b*(a / b));have h2:=fg (a:=b) (b:=a - b*(a / b));have h3:=Int.dvd_add h2 (oO (c:=a / b) h1);rwa [Int.sub_add_cancel] at h3
 ·apply KA
  ·exact eQ ..
  ·exact Int.dvd_sub (fg ..) (oO (eQ ..))
theorem LW (a b:Int) (h:b≠0):(a.fmod b).natAbs < b.natAbs:=by
 rcases Int.lt_or_gt_of_ne h with h | h
 ·have e:a.fmod b=-((-a).fmod (-b)):=by
   have:=Int.neg_fmod_neg (-a) (-b);simp only[Int.neg_neg] at this;exact this
  have h1:=Int.fmod_nonneg_of_pos (-a) (b:=-b) (by lia);have h2:=Int.fmod_lt_of_pos (-a) (b:=-b) (by lia)
  lia
 ·have h1:=Int.fmod_nonneg_of_pos a h;have h2:=Int.fmod_lt_of_pos a h
  lia
def g (t b:Int):Int:=(Int.gcd t b:Int)
def lo (t b:Int):Int:=t / g t b
def hi (t b:Int):Int:=b / g t b
theorem Ap {t b:Int} (h:b≠0):0 < g t b:=by
 unfold g;have:0 < Int.gcd t b:=KH _ h
 lia
theorem Ai (t b:Int):lo t b*g t b=t:=Int.ediv_mul_cancel (eQ ..)
theorem xX (t b:Int):hi t b*g t b=b:=Int.ediv_mul_cancel (fg ..)
theorem Cu {t b:Int} (h:0 < b):0 < hi t b:=by
 have h1:=Ap (t:=t) (b:=b) (by lia);have h2:=xX t b;by_cases h3:0 < hi t b
 ·exact h3
 ·have:hi t b*g t b<=0:=Int.mul_nonpos_of_nonpos_of_nonneg (by lia) (by lia)
  lia
theorem Ag {t b:Int} (h:b≠0):Int.gcd (lo t b) (hi t b)=1:=by
 have h1:=Ap (t:=t) h;have e:=Int.gcd_mul_right (lo t b) (g t b) (hi t b);rw[Ai,xX] at e;have e2:(g t b).natAbs=Int.gcd t b:=by unfold g;simp
 rw[e2] at e;have h2:0 < Int.gcd t b:=KH _ h;exact Nat.eq_of_mul_eq_mul_right h2 (by rw[<- e,xo])
theorem Ah (t b : Int) : lo t b * b = t * hi t b := by
  have h1 := Ai t b;have h2 := xX t b
  calc lo t b * b = lo t b * (hi t b * g t b) := by rw [h2]
    _ = (lo t b * g t b) * hi t b := by rw [fz (hi t b), <- dJ]
    _ = t * hi t b := by rw [h1]
theorem rB {a b c:Int} (h:Int.gcd a b=1) (hd:a∣b*c):a∣c:=by
 have h1:a.natAbs∣b.natAbs*c.natAbs:=by rw[<- cF];exact eI.mpr hd
 have h2:Nat.Coprime a.natAbs b.natAbs:=h;exact eI.mp (h2.dvd_of_dvd_mul_left h1)
theorem uniq {a b c d:Int} (hb:0 < b) (hd:0 < d) (h1:Int.gcd a b=1) (h2:Int.gcd c d=1) (e:a*d=c*b):a=c/\b=d:=by
 have e1:b∣d:=by
  have:b∣a*d:=⟨c,by rw[e,fz]⟩;exact rB (by rw[mH];exact h1) this
 have e2:d∣b:=by
  have:d∣c*b:=⟨a,by rw[<- e,fz]⟩;exact rB (by rw[mH];exact h2) this
 have e3:b=d:=Int.dvd_antisymm (by lia) (by lia) e1 e2;subst e3;exact ⟨vF (by lia) e,rfl⟩
theorem NX {t b c d : Int} (hb : 0 < b) (hd : 0 < d) (h2 : Int.gcd c d = 1) (e : t * d = c * b) : lo t b = c /\ hi t b = d := by
  refine uniq (Cu hb) hd (Ag (by lia)) h2 ?_;have h := Ah t b;have hb' : b ≠ 0 := by lia
  apply vF hb'
  calc lo t b * d * b = lo t b * b * d := by rw [dJ, fz d b, <- dJ]
    _ = t * hi t b * d := by rw [h]
    _ = t * d * hi t b := by rw [dJ, fz (hi t b), <- dJ]
    _ = c * b * hi t b := by rw [e]
    _ = c * hi t b * b := by rw [dJ, fz b, <- dJ]
theorem NZ {a b:Int} (hb:0 < b) (h:Int.gcd a b=1):lo a b=a/\hi a b=b:=NX hb hb h rfl
theorem pZ {a b:Int} (h:b≠0):a.natAbs<=(a*b).natAbs:=by
 rw[cF];exact cJ _ (Int.natAbs_pos.mpr h)
theorem lo_le {t b:Int} (h:b≠0):(lo t b).natAbs<=t.natAbs:=by
 have:=pZ (a:=lo t b) (b:=g t b) (by have:=Ap (t:=t) h;lia);rwa [Ai] at this
theorem MI {t b:Int} (h:b≠0):(hi t b).natAbs<=b.natAbs:=by
 have:=pZ (a:=hi t b) (b:=g t b) (by have:=Ap (t:=t) h;lia);rwa [xX] at this
def Sz (k:Nat) (x:Int):Prop:=x.natAbs < 2^k
theorem Sz.mono {j k:Nat} {x:Int} (h:Sz j x) (l:j<=k):Sz k x:=bG h (aj (by decide) l)
theorem Sz.mul {j k:Nat} {x y:Int} (h1:Sz j x) (h2:Sz k y):Sz (j+k) (x*y):=by
 unfold Sz at *
 rw[cF,aO];exact Nat.mul_lt_mul'' h1 h2
theorem Sz.neg {k:Nat} {x:Int} (h:Sz k x):Sz k (-x):=by unfold Sz at *;rw[pV];exact h
theorem Sz.le {k:Nat} {x y:Int} (h:Sz k y) (l:x.natAbs<=y.natAbs):Sz k x:=bA l h
theorem Sz.hi {k:Nat} {t b:Int} (h:Sz k b) (hb:b≠0):Sz k (hi t b):=h.le (MI hb)
end Nm
namespace L2
open PySem PySem.Spec PyProof.Rows
structure Bk (env:Env) (scope:Scope) (own capN:List Str):Prop where
 kind:scope.kind=.function
 locs:∀y∈scope.names,y.2=.local->scope.names.lookup y.1=some .local
 ownk:∀x∈own,scope.names.lookup x=some .local\/scope.names.lookup x=some .cell
 cells:∀y∈scope.names,y.2=.cell->y.1∈own/\y.1∉capN
 frees:∀y∈scope.names,y.2=.free->y.1∈capN/\y.1∉own
 capf:∀x∈capN,scope.names.lookup x=some .free
 caps:∀x∈capN,env.kindOf x=some .cell\/env.kindOf x=some .free
def P0 (scope:Scope) (own capN:List Str):Bool :=
 decide (scope.kind=.function) && scope.names.all (fun y=>decide (y.2=.local->scope.names.lookup y.1=some .local) && decide (y.2=.cell->y.1∈own/\y.1∉capN) && decide (y.2=.free->y.1∈capN/\y.1∉own)) &&
 own.all (fun x=>decide (scope.names.lookup x=some .local\/scope.names.lookup x=some .cell)) && capN.all fun x=>decide (scope.names.lookup x=some .free)
def Bs (env:Env):List Str->Bool
 | []=>true
 | x :: r=>(match env.kindOf x with | some .cell=>true | some .free=>true | _=>false) && Bs env r
theorem DQ {env:Env}:∀{capN:List Str},Bs env capN=true->∀x∈capN,env.kindOf x=some .cell\/env.kindOf x=some .free
 | [],_,_,h=>nomatch h
 | y :: r,h,x,hx=>by
  unfold Bs at h;rw[dQ] at h;rcases aG.mp hx with e | hx
  ·subst e;have h1:=h.1
   split at h1
   ·rename_i e;exact .inl e
   ·rename_i e;exact .inr e
   ·cases h1
  ·exact DQ h.2 x hx
theorem Bk.of {env:Env} {scope:Scope} {own capN:List Str} (h1:P0 scope own capN=true) (h2:Bs env capN=true):Bk env scope own capN:=by
 unfold P0 at h1;rw[dQ,dQ,dQ,qT,qT,qT] at h1;obtain ⟨⟨⟨a1,a2⟩,a3⟩,a4⟩:=h1
 have a2':∀y∈scope.names,(y.2=.local->scope.names.lookup y.1=some .local)/\(y.2=.cell->y.1∈own/\y.1∉capN)/\(y.2=.free->y.1∈capN/\y.1∉own):=fun y hy=>by
  have q:=a2 y hy;rw[dQ,dQ] at q;exact ⟨of_decide_eq_true q.1.1,of_decide_eq_true q.1.2,of_decide_eq_true q.2⟩
 exact ⟨of_decide_eq_true a1,fun y hy=>(a2' y hy).1,fun x hx=>of_decide_eq_true (a3 x hx),fun y hy=>(a2' y hy).2.1,fun y hy=>(a2' y hy).2.2,fun x hx=>of_decide_eq_true (a4 x hx),DQ h2⟩
def dY (env:Env):List (Str×NameKind)->List (Str×Addr)->List (Str×Addr)
 | [],acc=>acc
 | (n,k) :: r,acc=>if k == .free then dY env r ((n,(env.cells.lookup n).getD 0) :: acc) else dY env r acc
theorem iJ (env:Env):∀(names:List (Str×NameKind)) (acc:List (Str×Addr)),dY env names acc=dY env names []++acc
 | [],_=>rfl
 | (n,k) :: r,acc=>by
  unfold dY
  split
  ·rw[iJ env r (_ :: acc),iJ env r [_],cb];rfl
  ·exact iJ env r acc
theorem rK (env:Env):∀(names:List (Str×NameKind)) {x:Str} {c:Addr},(x,c)∈dY env names []->(x,NameKind.free)∈names/\c=(env.cells.lookup x).getD 0
 | [],_,_,h=>nomatch h
 | (n,k) :: r,x,c,h=>by
  unfold dY at h
  split at h
  ·rename_i hk
   have ek:k=.free:=by simpa using hk
   subst ek;rw[iJ] at h;rcases ax.mp h with h | h
   ·have q:=rK env r h;exact ⟨bP _ q.1,q.2⟩
   ·have e:(x,c)=(n,(env.cells.lookup n).getD 0):=by simpa using h
    cases e;exact ⟨dk,rfl⟩
  ·have q:=rK env r h;exact ⟨bP _ q.1,q.2⟩
theorem jo {α:Type}:∀{l:List (Str×α)} {x:Str} {c:α},(x,c)∈l->∃d,l.lookup x=some d
 | (k,v) :: r,x,c,h=>by
  rw[mG];cases hb:x == k with
  | true=>exact ⟨v,rfl⟩
  | false =>
   rcases aG.mp h with e | h
   ·cases e;simp at hb
   ·exact jo h
theorem rL (env:Env):∀(names:List (Str×NameKind)) {x:Str},(x,NameKind.free)∈names->∃c,(x,c)∈dY env names []
 | (n,k) :: r,x,h=>by
  unfold dY;rcases aG.mp h with e | h
  ·cases e;rw[if_pos (by decide),iJ];exact ⟨_,bR _ dk⟩
  ·obtain ⟨c,q⟩:=rL env r h
   split
   ·rw[iJ];exact ⟨c,sO _ q⟩
   ·exact ⟨c,q⟩
theorem As {scope : Scope} {env : Env} (h : ∀ y ∈ scope.names, y.2 = .free → ∃ c, env.cells.lookup y.1 = some c) : closureFor scope env = pure (dY env scope.names []) := by
  have gen : ∀ (names : List (Str × NameKind)) (acc : List (Str × Addr)) (f : Str × NameKind → List (Str × Addr) → Sem (ForInStep (List (Str × Addr)))),
      (∀ name kind cells, f (name, kind) cells = if kind == .free then (do let a <- cellOf env name; pure (.yield ((name, a) :: cells))) else pure (.yield cells)) →
      (∀ y ∈ names, y.2 = .free → ∃ c, env.cells.lookup y.1 = some c) → forIn names acc f = pure (dY env names acc) := by
    intro names
    induction names with
    | nil => intro acc f hf _; rw [BI]; rfl
    | cons y r ih =>
      intro acc f hf hh;obtain ⟨n, k⟩ := y;rw [KG, hf];unfold dY;by_cases hk : (k == NameKind.free) = true
      · obtain ⟨c, hc⟩ := hh (n, k) dk (by simpa using hk);have hc' : env.cells.lookup n = some c := hc;have e : cellOf env n = pure c := by unfold cellOf; rw [hc']
        rw [if_pos hk, if_pos hk, e, hc'];simp only [pure_bind, Option.getD_some];exact ih _ f hf fun y hy => hh y (bP _ hy)
      · rw [if_neg hk, if_neg hk];simp only [pure_bind];exact ih _ f hf fun y hy => hh y (bP _ hy)
  simp only [closureFor];rw [gen scope.names [] _ (fun name kind cells => by cases hkc : kind == NameKind.free <;> simp [hkc]) h];rfl

theorem fk:∀(names:List (Str×NameKind)) (n:Nat) (acc:List (Str×Addr)),cellsFrom n names acc=cellsFrom n names []++acc
 | [],_,_=>rfl
 | (x,k) :: r,n,acc=>by
  unfold cellsFrom
  split
  ·rw[fk r (n+1) (_ :: acc),fk r (n+1) [_],cb];rfl
  ·exact fk r n acc
theorem lS:∀(names:List (Str×NameKind)) (n:Nat) {x:Str} {c:Addr},(x,c)∈cellsFrom n names []->(x,NameKind.cell)∈names
 | [],_,_,_,h=>nomatch h
 | (y,k) :: r,n,x,c,h=>by
  unfold cellsFrom at h
  split at h
  ·rename_i hk
   have ek:k=.cell:=by simpa using hk
   subst ek;rw[fk] at h;rcases ax.mp h with h | h
   ·exact bP _ (lS r _ h)
   ·have e:(x,c)=(y,n):=by simpa using h
    cases e;exact dk
  ·exact bP _ (lS r _ h)
def ya (env:Env) (scope:Scope) (C:Addr):Env :=
 { scope:=relabel scope env,locals:=C,globals:=env.globals,cells:=cellsFrom (C+1) scope.names (dY env scope.names []),qual:=env.qual,func:=none,code:=env.code,frame:=env.frame,builtins:=env.builtins }
theorem DB {M:Model} {A:Around} {E:Value->Shared->Prop} {s:Shared} {scope:Scope} {g:Addr} {cl:List (Str×Addr)} {qual:Str} {env:Env} {Q:Env->Shared->Prop}
  (h:Q (newEnv scope s.heap.objs.size g (cellsFrom (s.heap.objs.size+1) scope.names cl) qual none .none (some env) builtinsNs) { s with heap:=pushCells (s.heap.push { cls:=.type "dict",data:=.dict #[] }) scope.names }) :
  wpAny M A (newFunctionEnv scope g cl [] qual none .none (some env)) Q E s:=by
 simp only[newFunctionEnv,Option.isSome_some,if_true];refine wpAny_bind (wpAny_alloc ?_);refine wpAny_bind (wpAny_layCells _ (fun name kind cells=>by cases hkc:kind == NameKind.cell <;> simp [hkc]) _ _ _ _ ?_);rw[show ({ s with heap:=s.heap.push { cls:=.type "dict",data:=.dict #[] } }:Shared).heap.objs.size=s.heap.objs.size+1 from Heap.size_push ..];rw[BI];exact wpAny_bind (wpAny_pure (wpAny_pure h))
theorem v9 {scope:Scope} {env:Env} {x:Str}:∀{k:NameKind},(relabel scope env).names.lookup x=some k->∃k0,scope.names.lookup x=some k0/\(k=k0\/(k0=.free/\k=.cell)):=by
 unfold relabel;show ∀{k:NameKind},(scope.names.map fun (n,k)=>if (k == NameKind.free && env.scope.kind == .function && env.kindOf n == some .cell) then (n,NameKind.cell) else (n,k)).lookup x=some k->_
 induction scope.names with
 | nil=>intro k h;cases h
 | cons y r ih =>
  intro k h;obtain ⟨n,k1⟩:=y;rw[hJ,mG] at h;rw[mG];by_cases hc:(k1 == NameKind.free && env.scope.kind == .function && env.kindOf n == some .cell)=true
  ·simp only[hc,if_true] at h;cases hb:x == n with
   | true =>
    simp only[hb] at h
    have e1:k1=.free:=by
     rw[dQ,dQ] at hc;simpa using hc.1.1
    cases h;exact ⟨k1,rfl,.inr ⟨e1,rfl⟩⟩
   | false=>simp only[hb] at h;exact ih h
  ·have hc':(k1 == NameKind.free && env.scope.kind == .function && env.kindOf n == some .cell)=false:=by simpa using hc
   simp only[hc',jl,if_false] at h;cases hb:x == n with
   | true=>simp only[hb] at h;cases h;exact ⟨_,rfl,.inl rfl⟩
   | false=>simp only[hb] at h;exact ih h
theorem Dq {scope:Scope} {env:Env} {x:Str}:scope.names.lookup x=some .free->(relabel scope env).names.lookup x=some .cell\/(relabel scope env).names.lookup x=some .free:=by
 unfold relabel;show _->(scope.names.map fun (n,k)=>if (k == NameKind.free && env.scope.kind == .function && env.kindOf n == some .cell) then (n,NameKind.cell) else (n,k)).lookup x=some .cell\/(scope.names.map fun (n,k)=>if (k == NameKind.free && env.scope.kind == .function && env.kindOf n == some .cell) then (n,NameKind.cell) else (n,k)).lookup x=some .free
 induction scope.names with
 | nil=>intro h;cases h
 | cons y r ih =>
  intro h;obtain ⟨n,k1⟩:=y;rw[mG] at h;rw[hJ];by_cases hc:(k1 == NameKind.free && env.scope.kind == .function && env.kindOf n == some .cell)=true
  ·simp only[hc,if_true,mG];cases hb:x == n with
   | true=>exact .inl rfl
   | false=>rw[hb] at h;exact ih h
  ·have hc':(k1 == NameKind.free && env.scope.kind == .function && env.kindOf n == some .cell)=false:=by simpa using hc
   simp only[hc',jl,if_false,mG];cases hb:x == n with
   | true=>rw[hb] at h;cases h;exact .inr rfl
   | false=>rw[hb] at h;exact ih h
structure Bz where
 s:Shared
 H:Hp
 fp:List Addr
 C:Addr
def yP (X:Cx) (own capN:List Str) (scope:Scope) (Z:Bz):Cx where
 prog:=X.prog
 w:=X.w
 K:=X.K
 mg:=X.mg
 base:=X.base
 A:=X.A
 N:=own++capN
 s₀:=Z.s
 H₀:=Z.H
 env:=ya X.env scope Z.C
 outer:=X.stack
 stack:=X.stack
 ex:=Z.fp
 fn:=fun x=>own.contains x
 calm:=true
 pn:=[]
 xe:=fun _ _=>False
section
variable {X:Cx} {pins:List (Addr×Obj)} {σ:St} {own capN:List Str} {scope:Scope} {Z:Bz}
theorem jJ (B:Bk X.env scope own capN) (I:Inv X pins σ Z.H Z.s) {x:Str} {c:Addr} (h:(ya X.env scope Z.C).cells.lookup x=some c) :
  (x∈own/\(x,c)∈cellsFrom (Z.C+1) scope.names [])\/(x∈capN/\x∉own/\X.env.cells.lookup x=some c):=by
 have h':(cellsFrom (Z.C+1) scope.names (dY X.env scope.names [])).lookup x=some c:=h;rw[fk] at h';rcases ax.mp (mem_of_lookup h') with m | m
 ·exact .inl ⟨(B.cells _ (lS _ _ m) rfl).1,m⟩
 ·obtain ⟨m1,e⟩:=rK _ _ m;obtain ⟨q1,q2⟩:=B.frees _ m1 rfl;obtain ⟨d,hd⟩:=I.ok.has x (B.caps x q1);rw[hd] at e;exact .inr ⟨q1,q2,by rw[hd,e];rfl⟩
theorem L9 (B:Bk X.env scope own capN) (I:Inv X pins σ Z.H Z.s) {x:Str} {c:Addr} (hx:x∈capN) (h:X.env.cells.lookup x=some c):(ya X.env scope Z.C).cells.lookup x=some c:=by
 have hm:(x,NameKind.free)∈scope.names:=mem_of_lookup (B.capf x hx);obtain ⟨c1,m1⟩:=rL X.env scope.names hm
 have hs:∃d,(ya X.env scope Z.C).cells.lookup x=some d:=by
  show ∃d,(cellsFrom (Z.C+1) scope.names (dY X.env scope.names [])).lookup x=some d
  rw[fk];exact jo (bR _ m1)
 obtain ⟨d,hd⟩:=hs;rcases jJ B I hd with ⟨q,m⟩ | ⟨_,_,q⟩
 ·exact absurd hx (B.cells _ (lS _ _ m) rfl).2
 ·rw[h] at q;cases q;exact hd
theorem HD (h:Heap) (C:Addr) (hC:h.objs.size=C+1) (names:List (Str×NameKind)):CellsOk (pushCells h names) (C+1) (cellsFrom (C+1) names []):=by
 have q:=cellsFrom_ok names h (C+1) [] ⟨fun _ _ hm=>(nomatch hm),List.Pairwise.nil⟩ (by rw[hC];exact av _);rwa [hC] at q
theorem CK (I:Inv X pins σ Z.H Z.s) {x:Str} {c:Addr} (h:X.env.cells.lookup x=some c):@LT.lt Nat instLTNat c Z.s.heap.objs.size:=by
 obtain ⟨v,q⟩:=I.cell x c h;exact q.lt
theorem Oh {h1:Heap} (I:Inv X pins σ Z.H Z.s) (hc:X.calm=true) (B:Bk X.env scope own capN) (hC:Z.s.heap.objs.size<=Z.C) (hcl:CellsOk h1 (Z.C+1) (cellsFrom (Z.C+1) scope.names []))
  (hf:∀b∈Z.fp,kX X pins Z.H b/\@LT.lt Nat instLTNat b Z.s.heap.objs.size):(yP X own capN scope Z).Ok:=by
 refine ⟨I.ok.mod,B.kind,I.ok.glob,I.ok.blt,hC,fun x y c h1 h2=>?_,fun x hx=>?_,fun x c hx h=>?_,fun _=>I.ok.hd hc,I.ok.frames,.inl rfl,fun b hb=>⟨?_,fun x c h=>?_⟩,I.bs,ah I.ok.bsz I.sz,fun b o e hb=>?_,fun b hb hz=>?_,I.stack,I.stkFree⟩
 ·rcases jJ B I h1 with ⟨q1,m1⟩ | ⟨q1,n1,m1⟩ <;> rcases jJ B I h2 with ⟨q2,m2⟩ | ⟨q2,n2,m2⟩
  ·exact name_of_addr hcl.apart m1 m2
  ·have l1:=(hcl.empty _ _ m1).2;have l2:=CK I m2
   lia
  ·have l1:=(hcl.empty _ _ m2).2;have l2:=CK I m1
   lia
  ·exact I.ok.inj x y c m1 m2
 ·have hx':(relabel scope X.env).names.lookup x=some .cell\/(relabel scope X.env).names.lookup x=some .free:=hx
  have hk:scope.names.lookup x=some .cell\/scope.names.lookup x=some .free:=by
   rcases hx' with h | h
   ·obtain ⟨k0,e,q | ⟨q,_⟩⟩:=v9 h
    ·exact .inl (by rw[e,<- q])
    ·exact .inr (by rw[e,q])
   ·obtain ⟨k0,e,q | ⟨_,q⟩⟩:=v9 h
    ·exact .inr (by rw[e,<- q])
    ·cases q
  show ∃c,(cellsFrom (Z.C+1) scope.names (dY X.env scope.names [])).lookup x=some c
  rcases hk with h | h
  ·exact OE.mp (zi scope.names (Z.C+1) _ (.inl h))
  ·obtain ⟨c,m⟩:=rL X.env scope.names (mem_of_lookup h);rw[fk];exact jo (bR _ m)
 ·have ho:x∈own:=by have hx':own.contains x=true:=hx;simpa using hx'
  rcases jJ B I h with ⟨_,m⟩ | ⟨_,n,_⟩
  ·have:=(hcl.empty _ _ m).2;have hC':Z.s.heap.objs.size<=Z.C:=hC;show Z.s.heap.objs.size<=c
   lia
  ·exact absurd ho n
 ·intro e;have e':@Eq Nat b Z.C:=e;have:=(hf b hb).2
  lia
 ·have l:=(hf b hb).2;rcases jJ B I h with ⟨_,m⟩ | ⟨_,_,m⟩
  ·intro e;have e':@Eq Nat c b:=e;have:=(hcl.empty _ _ m).2
   lia
  ·exact (hf b hb).1.2.2.2.2.1 x c m
 ·obtain ⟨_,_,_,f3,_⟩:=(hf b hb).1;rcases f3 with f3 | f3
  ·exact I.ok.noex b o e f3
  ·exact absurd (bG (Heap.lt_size e) (ah I.ok.bsz f3)) (dZ _)
 ·obtain ⟨_,f1,f2,_⟩:=(hf b hb).1;rcases aG.mp (I.stkSub b hz) with e | e
  ·exact f1 e
  ·exact f2 e
def Ih (k:Nat) (cap:List Nat) (σ:St):St:=List.replicate k none++cap.map fun j=>(σ[j]?).join
def yE (X:Cx) (capN:List Str) (cap:List Nat):Prop:=cap.map (fun j=>X.N[j]?)=capN.map some
theorem yE.get {cap:List Nat} (h:yE X capN cap) {i:Nat} {x:Str} (e:capN[i]?=some x):∃j,cap[i]?=some j/\X.N[j]?=some x:=by
 have q:=congrArg (fun l=>l[i]?) h;simp only[aN,e,Option.map_some] at q;cases hc:cap[i]? with
 | none=>rw[hc] at q;cases q
 | some j=>rw[hc] at q;exact ⟨j,rfl,by simpa using q⟩
theorem DR {cap:List Nat} {h':Heap} {m:Str->Option Value} (I:Inv X pins σ Z.H Z.s) (B:Bk X.env scope own capN) (hcap:yE X capN cap)
  (kc:∀x c,X.env.cells.lookup x=some c->∀v,Z.s.heap.IsCell c v->h'.IsCell c v) {i:Nat} {x:Str} {v:V} (e1:(own++capN)[i]?=some x) (e2:(Ih own.length cap σ)[i]?=some (some v)) :
  ∃u,RelV v u/\Look (ya X.env scope Z.C) h' m x u:=by
 have hi:own.length<=i:=by
  by_cases hi:own.length<=i
  ·exact hi
  ·exfalso
   unfold Ih at e2;rw[bF (by simpa using hi),cX] at e2
   split at e2 <;> cases e2
 rw[aW hi] at e1;unfold Ih at e2;rw[aW (by simpa using hi),aF,aN] at e2;obtain ⟨j,hj,hN⟩:=hcap.get e1;rw[hj] at e2;have e3:(σ[j]?).join=some v:=by simpa using e2
 have e4:σ[j]?=some (some v):=by
  cases q:σ[j]? with
  | none=>rw[q] at e3;cases e3
  | some o=>rw[q] at e3;simp at e3;rw[e3]
 have hx:x∈capN:=ay e1;have hk:=B.caps x hx;obtain ⟨m0,_,hl⟩:=I.loc;obtain ⟨u,r,l⟩:=hl j x v hN e4 (.inr hk);refine ⟨u,r,.inr ⟨Dq (B.capf x hx),?_⟩⟩;rcases l with ⟨hk2,_⟩ | ⟨_,c,hc,z⟩
 ·rcases hk with hk | hk
  ·rw[hk] at hk2;cases hk2
  ·rw[hk] at hk2;cases hk2
 ·exact ⟨c,L9 B I hx hc,kc x c hc _ z⟩
theorem Px (I:Inv X pins σ Z.H Z.s) {b:Addr} (h:b∈Ij X.stack):@LT.lt Nat instLTNat b Z.s.heap.objs.size:=by
 obtain ⟨_,o,ho,_⟩:=I.stack.mem h;exact Heap.lt_size ho
theorem L7 {cap:List Nat} {h1:Heap} {D:Addr} {oD:Obj} {t1:Nat} (I:Inv X pins σ Z.H Z.s) (hc:X.calm=true) (B:Bk X.env scope own capN) (hcap:yE X capN cap) (hC:Z.s.heap.objs.size<=Z.C)
  (hcl:CellsOk h1 (Z.C+1) (cellsFrom (Z.C+1) scope.names [])) (hf:∀b∈Z.fp,kX X pins Z.H b/\@LT.lt Nat instLTNat b Z.s.heap.objs.size)
  (hk:∀b o,Z.s.heap.get? b=some o->h1.get? b=some o) (hn:h1.Ns Z.C fun _=>none) (hD:Z.s.heap.objs.size<=D) (hDC:D≠Z.C) (hoD:h1.get? D=some oD) (hdD:∀v,oD.data≠.cell v) :
  Inv (yP X own capN scope Z) [(D,oD)] (Ih own.length cap σ) Z.H { Z.s with heap:=h1,toks:=t1 }:=by
 refine ⟨Oh I hc B hC hcl hf,rfl,I.bare,Un.kept hk,⟨_,hn,fun i x v e1 e2 _=>DR I B hcap (fun x c _ v z=>z.keeps hk) e1 e2⟩,fun x c h=>?_,I.hok.fresh hC,fun x c h=>?_,fun p hp=>?_,I.hok.kept hk,?_⟩
 ·rcases jJ B I h with ⟨_,m⟩ | ⟨_,_,m⟩
  ·exact ⟨none,(hcl.empty _ _ m).1⟩
  ·obtain ⟨v,q⟩:=I.cell x c m;exact ⟨v,q.keeps hk⟩
 ·rcases jJ B I h with ⟨_,m⟩ | ⟨_,_,m⟩
  ·exact I.hok.fresh (by have:=(hcl.empty _ _ m).2;lia)
  ·exact I.freeC x c m
 ·have e:p=(D,oD):=by simpa [yP] using hp
  subst e;exact ⟨hoD,I.hok.fresh hD,hDC,fun z=>dZ _ (bG (Px I z) hD),hdD⟩
 ·show (Ih own.length cap σ).length=(own++capN).length
  have:=congrArg List.length hcap;simp only[ao] at this;unfold Ih;simp [this]
theorem Kq {cap:List Nat} {pins':List (Addr×Obj)} {σ':St} {H':Hp} {s':Shared} (I:Inv X pins σ Z.H Z.s) (B:Bk X.env scope own capN) (hcap:yE X capN cap) (hf:∀b∈Z.fp,kX X pins Z.H b/\@LT.lt Nat instLTNat b Z.s.heap.objs.size)
  (J:Inv (yP X own capN scope Z) pins' σ' H' s'):Inv (yP X own capN scope Z) pins' (Ih own.length cap σ) H' s':=by
 refine ⟨J.ok,J.os,J.bare,J.base,?_,J.cell,J.free,J.freeC,J.pin,J.hok,?_⟩
 ·obtain ⟨m,hn,_⟩:=J.loc;refine ⟨m,hn,fun i x v e1 e2 _=>DR I B hcap (fun x c hx v z=>?_) e1 e2⟩;obtain ⟨o,ho,hd⟩:=z;obtain ⟨sl,e⟩:=J.base.any ho (I.freeC x c hx) fun z=>(hf c z).1.2.2.2.2.1 x c hx rfl
  exact ⟨_,e,hd⟩
 ·show (Ih own.length cap σ).length=(own++capN).length
  have:=congrArg List.length hcap;simp only[ao] at this;unfold Ih;simp [this]
theorem L8 {σ':St} {H':Hp} {s':Shared} {D:Addr} {its:List Value} {n:Nat} {ys:List V} (I:Inv X pins σ Z.H Z.s) (hf:∀b∈Z.fp,kX X pins Z.H b/\@LT.lt Nat instLTNat b Z.s.heap.objs.size) (hD:Z.s.heap.objs.size<=D)
  (J:Inv (yP X own capN scope Z) [(D,{ cls:=.type "list",data:=.seq its.toArray n })] σ' H' s') (r:cL ys its) (hz:ys.length<=sizeLine) :
  Inv X pins σ (upd H' D (.lst ys)) s':=by
 have pD:=J.pin (D,{ cls:=.type "list",data:=.seq its.toArray n }) (by simp);have ne:∀{b:Addr} {o:Obj},Z.s.heap.get? b=some o->b≠D:=fun e z=>by subst z;exact dZ _ (bG (Heap.lt_size e) hD)
 have nt:∀{b:Addr} {u:HO},H' b=some u->b≠D:=fun e z=>by rw[z,pD.2.1] at e;cases e
 refine I.call' (ch:=Z.fp) J.os ⟨J.base.keep,J.base.slot,fun b o e h hx=>?_,J.base.there,fun b xs e=>?_,fun b o u e=>?_,fun b ps e=>?_⟩ (fun b u e=>?_) J.bare fun b hb=>?_
 ·rw[bu (ne e)];exact J.base.free b o e h hx
 ·have q:=J.base.tups b xs e;rw[bu (nt q)];exact q
 ·have q:=J.base.frzs b o u e;rw[bu (nt q)];exact q
 ·obtain ⟨more,q⟩:=J.base.tbls b ps e;exact ⟨more,by rw[bu (nt q)];exact q⟩
 ·by_cases hb:b=D
  ·subst hb;rw[aK] at e;cases e;exact ⟨hz,its,n,r,pD.1⟩
  ·rw[bu hb] at e;exact (J.hok b u e).stay (fun c v _ q=>q) (fun c q=>by rw[bu (nt q)];exact q) fun c xs q=>by rw[bu (nt q)];exact q
 ·obtain ⟨_,f1,_,f3,f4,f5⟩:=(hf b hb).1;exact ⟨f3,f1,f4,f5⟩
end
theorem MY {α:Type} {t:Sem α} {Q Q':α->Shared->Prop} {M:Model} {A:Around} {E:Value->Shared->Prop} {s:Shared} (h:wpAny M A t Q (fun _ _=>False) s) (hQ:∀a s,Q a s->Q' a s):wpAny M A t Q' E s :=
 wpAny_mono h hQ fun _ _ z=>False.elim z
theorem CI {prog : Program} {w : World} {A : Around} {R : Result → Shared → Prop} {s : Shared} {elt target iter : Expr} {ifs : List Expr} {scope : Scope} {pos : Pos} {it acc : Value} {env : Env} (I : Nat → Shared → Prop)
    (turn : ∀ (E : Value → Shared → Prop) n s, I n s → wpAny (model prog w) A (pyNext it) (fun r s₁ => match r with
      | none => R (.ok .next) s₁
      | some v => wpAny (model prog w) A (letOwnedTupleGo target it v) (fun _ s₂ => wpAny (model prog w) A (assign target env v) (fun _ s₃ =>
          wpAny (model prog w) A (forIn ifs true fun c r => if r = true then do let ok <- isTrue c env (eval c env); pure (ForInStep.yield ok) else pure (ForInStep.yield r)) (fun ok s₄ =>
            if ok = true then wpAny (model prog w) A (eval elt env) (fun x s₅ => wpAny (model prog w) A (call (.builtin "list.append") [acc, x]) (fun _ s₆ => ∃ m, m < n /\ I m s₆) E s₅) E s₄
            else ∃ m, m < n /\ I m s₄) E s₃) E s₂) E s₁) E s)
    (n : Nat) (h : I n s) : codeAny (model prog w) A (.compLoop (.ListComp elt [⟨target, iter, ifs, 0⟩] scope pos) 0 it acc env) R s := by
  refine codeAny_loop rfl I (fun n s hI => ?_) n h;show wpAny _ A ((compTurn (.ListComp elt [⟨target, iter, ifs, 0⟩] scope pos) 0 it acc env).onRaise (fun x => do noteFrame x env; theTreesLotGoes x)) _ _ s
  refine wpAny_noted ?_;rw [compTurn_list];refine wpAny_bind (wpAny_standAt (wpAny_bind (wpAny_mono (turn _ n s hI) (fun r s₁ h₁ => ?_) fun _ _ h' => h')));cases r with
  | none => exact wpAny_pure h₁
  | some v =>
    refine wpAny_bind (wpAny_mono h₁ (fun _ s₂ h₂ => wpAny_bind (wpAny_mono h₂ (fun _ s₃ h₃ => wpAny_bind (wpAny_mono h₃ (fun ok s₄ h₄ => ?_) fun _ _ h' => h')) fun _ _ h' => h')) fun _ _ h' => h');cases ok with
    | false => exact wpAny_pure ⟨rfl, h₄⟩
    | true =>
      exact wpAny_bind (wpAny_bind (wpAny_mono h₄ (fun x s₅ h₅ => wpAny_bind (wpAny_mono h₅ (fun _ s₆ h₆ => wpAny_pure (wpAny_pure ⟨rfl, h₆⟩)) fun _ _ h' => h')) fun _ _ h' => h'))

def PF (X : Cx) (ifs : List Expr) (t : TT) : Prop :=
  ∀ (pins : List (Addr × Obj)) (s : Shared) (σ : St) (H : Hp) (Q : Bool → Hp → Prop), Inv X pins σ H s → t σ H Q →
    wpAny (model X.prog X.w) X.A (forIn ifs true fun c r => if r = true then do let ok <- isTrue c X.env (eval c X.env); pure (ForInStep.yield ok) else pure (ForInStep.yield r)) (TP X pins σ Q) X.xe s
def OJ:TT:=fun _ H Q=>Q true H
theorem cP {X:Cx}:PF X [] OJ:=fun _ _ _ H _ I h=>wpAny_tests_nil ⟨H,I,h⟩
def sU (σ₀:St) (g:TG) (tf:TT) (te:TE) (x:V) (H:Hp) (NY:V->Hp->Prop) (NN:Hp->Prop):Prop :=
 g x σ₀ H fun σ2 H2=>tf σ2 H2 fun b H3=>if b=true then te σ2 H3 NY else NN H3
def uw (J:It) (σ₀:St) (g:TG) (tf:TT) (te:TE) (Q:VK) (H1:Hp):Prop :=
 ∃W:Nat->Nat->List V->Hp->Prop,(∃m,W 0 m [] H1)/\∀i m ys H,W i m ys H →
  (J.stop i H/\ys.length<=sizeLine/\∀p,H p=none->Q (.ref p) (upd H p (.lst ys))) \/
  (J.go i H/\ys.length < sizeLine/\∃(NY:V->Hp->Prop) (NN:Hp->Prop),(∀y H',NY y H'->∃m',m' < m/\W (i+1) m' (ys++[y]) H')/\(∀H',NN H'->∃m',m' < m/\W (i+1) m' ys H') /\
   ∀x H',J.yld i H x H'->sU σ₀ g tf te x H' NY NN)
def Dd (wi:TI) (k:Nat) (cap:List Nat) (g:TG) (tf:TT) (te:TE):TE:=fun σ H Q=>wi σ H fun J H1=>uw J (Ih k cap σ) g tf te Q H1
abbrev lobj (its:List Value) (n:Nat):Obj:={ cls:=.type "list",data:=.seq its.toArray n }
section
variable {X:Cx} {own capN:List Str} {cap:List Nat} {scope:Scope} {elt tg iter:Expr} {ifs:List Expr} {pos:Pos} {wi:TI} {g:TG} {tf:TT} {te:TE}
theorem Bq {use:Option (Value->Sem Unit)} {Qe:Value->Shared->Prop} {fpos:Pos} (hc:X.calm=true) (B:Bk X.env scope own capN) (hcap:yE X capN cap)
  (hi:PI X tg iter wi) (hg:∀Z,PG (yP X own capN scope Z) tg g) (hf:∀Z,PF (yP X own capN scope Z) ifs tf) (he:∀Z,PE (yP X own capN scope Z) elt te)
  (hs:∀x,foldedSetIterable iter X.env x=pure x) {pins:List (Addr×Obj)} {s:Shared} {σ:St} {H:Hp} {Q:VK} (I:Inv X pins σ H s) (h:Dd wi own.length cap g tf te σ H Q)
  (fin:∀(D C:Addr) (s':Shared) (H':Hp),Inv X pins σ H' s'->kX X pins H' C->(∃m,s'.heap.Ns C m)->Q (.ref D) H'->compPost (model X.prog X.w) X.A X.xe use Qe (.ref D) C (.ok .next) s') :
  wpAny (model X.prog X.w) X.A (comprehension (.ListComp elt [⟨tg,iter,ifs,0⟩] scope pos) scope X.env fpos (newList []) false (eval iter X.env) use) Qe X.xe s:=by
 refine wpAny_comprehension_free (use:=use) rfl hs (As fun y hy hk=>I.ok.has y.1 (B.caps _ (B.frees y hy hk).1)) B.kind B.locs ?_;refine fP (hi pins s σ H _ I h) fun v s1 h1=>fP h1 fun itv s2 h2=>?_
 obtain ⟨it,fp,tn,J,H2,e,I2,T,st2,f2,W,⟨m0,w0⟩,turn⟩:=h2;subst e;have hfp:∀b∈fp,kX X pins H2 b/\@LT.lt Nat instLTNat b s2.heap.objs.size:=fun b hb=>⟨f2 b hb,let ⟨_,e,_⟩:=T.obj _ _ st2 b hb;Heap.lt_size e⟩
 refine wpAny_newObj_type (DB ?_) (aY _);have es:(s2.heap.push { cls:=.type "list",data:=.seq ([]:List Value).toArray }).objs.size=s2.heap.objs.size+1:=Heap.size_push ..
 show codeAny _ _ (.compStart _ 0 (.ref it) (.ref s2.heap.objs.size) { newEnv scope (s2.heap.push { cls:=.type "list",data:=.seq ([]:List Value).toArray }).objs.size X.env.globals (cellsFrom ((s2.heap.push { cls:=.type "list",data:=.seq ([]:List Value).toArray }).objs.size+1) scope.names (dY X.env scope.names [])) X.env.qual none .none (some X.env) builtinsNs with scope:=relabel scope X.env })
  (compPost (model X.prog X.w) X.A X.xe use Qe (.ref s2.heap.objs.size) (s2.heap.push { cls:=.type "list",data:=.seq ([]:List Value).toArray }).objs.size)
  { s2 with heap:=pushCells ((s2.heap.push { cls:=.type "list",data:=.seq ([]:List Value).toArray }).push { cls:=.type "dict",data:=.dict #[] }) scope.names }
 have hk1:∀b o,(s2.heap.push { cls:=.type "list",data:=.seq ([]:List Value).toArray }).get? b=some o->(pushCells ((s2.heap.push { cls:=.type "list",data:=.seq ([]:List Value).toArray }).push { cls:=.type "dict",data:=.dict #[] }) scope.names).get? b=some o :=
  fun b o e=>pushCells_keeps _ _ _ _ (Heap.get?_push_of_some _ e)
 have hk:∀b o,s2.heap.get? b=some o->(pushCells ((s2.heap.push { cls:=.type "list",data:=.seq ([]:List Value).toArray }).push { cls:=.type "dict",data:=.dict #[] }) scope.names).get? b=some o:=fun b o e=>hk1 b o (Heap.get?_push_of_some _ e)
 have hoD:=hk1 s2.heap.objs.size _ (Heap.get?_push_size s2.heap (o:={ cls:=.type "list",data:=.seq ([]:List Value).toArray }) rfl);have hn:=(Heap.Ns.new (s2.heap.push { cls:=.type "list",data:=.seq ([]:List Value).toArray }) (.type "dict")).keeps (pushCells_keeps scope.names _);have hcl:=HD ((s2.heap.push { cls:=.type "list",data:=.seq ([]:List Value).toArray }).push { cls:=.type "dict",data:=.dict #[] }) (s2.heap.objs.size+1) (by rw[Heap.size_push,es]) scope.names;rw[es] at hn ⊢;generalize pushCells ((s2.heap.push { cls:=.type "list",data:=.seq ([]:List Value).toArray }).push { cls:=.type "dict",data:=.dict #[] }) scope.names=h3 at hk hoD hn hcl ⊢;have Z:Bz:=⟨s2,H2,fp,s2.heap.objs.size+1⟩
 have I3:Inv (yP X own capN scope ⟨s2,H2,fp,s2.heap.objs.size+1⟩) [(s2.heap.objs.size,lobj [] 0)] (Ih own.length cap σ) H2 { s2 with heap:=h3 } :=
  L7 (Z:=⟨s2,H2,fp,s2.heap.objs.size+1⟩) (t1:=s2.toks) I2 hc B hcap (sN _) hcl hfp hk hn (av _) (b7 (iV _)) hoD (fun v z=>nomatch z)
 have st3:tn 0 h3:=T.keep _ _ _ st2 fun b _ o e=>hk b o e
 have loop:codeAny (model X.prog X.w) X.A (.compLoop (.ListComp elt [⟨tg,iter,ifs,0⟩] scope pos) 0 (.ref it) (.ref s2.heap.objs.size) (ya X.env scope (s2.heap.objs.size+1))) (compPost (model X.prog X.w) X.A X.xe use Qe (.ref s2.heap.objs.size) (s2.heap.objs.size+1)) { s2 with heap:=h3 }:=by
  refine CI (fun m s'=>∃i ys σ' H' its n,Inv (yP X own capN scope ⟨s2,H2,fp,s2.heap.objs.size+1⟩) [(s2.heap.objs.size,lobj its n)] σ' H' s'/\tn i s'.heap/\(∀b∈fp,H' b=none)/\cL ys its/\W i m ys H') ?_ m0
   ⟨0,[],_,H2,[],0,I3,st3,fun b hb=>(f2 b hb).1,.nil,w0⟩
  rintro E n s4 ⟨i,ys,σ4,H4,its,k,I4,st4,fr4,rv,w4⟩
  have fpo:∀{pp:List (Addr×Obj)} {H':Hp},(∀p∈pp,p.1=s2.heap.objs.size)->(∀b∈fp,H' b=none)->∀b∈fp,kX (yP X own capN scope ⟨s2,H2,fp,s2.heap.objs.size+1⟩) pp H' b:=fun {pp H'} hpp hn b hb=>by
   obtain ⟨e1,e2⟩:=I4.ok.exf b hb;refine ⟨hn b hb,e1,I4.ok.exfs b hb,.inl hb,e2,fun p hp=>?_⟩;have hp':p∈pp:=by simpa [yP] using hp
   have l:=(hfp b hb).2;rw[hpp p hp'];exact fun z=>dZ _ (by rw[<- z] at l;exact l)
  have pinD:∀{its:List Value} {n:Nat},∀p∈[(s2.heap.objs.size,lobj its n)],p.1=s2.heap.objs.size:=fun p hp=>by simp at hp;rw[hp]
  rcases turn i n ys H4 w4 with ⟨stop,hz,q⟩ | ⟨go,hlt,NY,NN,hNY,hNN,step⟩
  ·refine fP (T.done (yP X own capN scope ⟨s2,H2,fp,s2.heap.objs.size+1⟩) rfl rfl rfl rfl i _ s4 σ4 H4 E I4 (fpo pinD fr4) st4 stop) fun r s5 ⟨hr,I5⟩=>?_
   subst hr;have pD:=I5.pin (s2.heap.objs.size,lobj its k) (by simp);have I6:=L8 (Z:=⟨s2,H2,fp,s2.heap.objs.size+1⟩) I2 hfp (av _) I5 rv hz
   have hC:upd H4 s2.heap.objs.size (.lst ys) (s2.heap.objs.size+1)=none:=by
    rw[bu (Gn (iV _))];exact I5.free
   obtain ⟨m,hm,_⟩:=I5.loc;exact fin _ _ s5 _ I6 (I2.fpOk (sN _) hC) ⟨m,hm⟩ (q _ pD.2.1)
  ·refine fP (T.item (yP X own capN scope ⟨s2,H2,fp,s2.heap.objs.size+1⟩) rfl rfl rfl rfl i _ s4 σ4 H4 E I4 (fpo pinD fr4) st4 go) fun r s5 ⟨u,hr,h5⟩=>?_
   subst hr;refine fP h5 fun _ s6 ⟨x,H6,I6,r6,y6,st6,fr6⟩=>?_
   have I6':=(Kq (Z:=⟨s2,H2,fp,s2.heap.objs.size+1⟩) I2 B hcap hfp I6).pinned (fpo pinD fr6) (T.obj _ _ st6)
   have back:∀{σ7:St} {H7:Hp} {s7:Shared},Inv (yP X own capN scope ⟨s2,H2,fp,s2.heap.objs.size+1⟩) ([(s2.heap.objs.size,lobj its k)]++zR fp s6.heap) σ7 H7 s7 →
     Inv (yP X own capN scope ⟨s2,H2,fp,s2.heap.objs.size+1⟩) [(s2.heap.objs.size,lobj its k)] σ7 H7 s7/\tn (i+1) s7.heap/\∀b∈fp,H7 b=none:=fun {σ7 H7 s7} I7=>by
    refine ⟨I7.unpinned,T.keep _ _ _ st6 fun b hb o e=>(I7.pin (b,o) (bR _ (bR _ (rk hb e)))).1,fun b hb=>?_⟩;obtain ⟨o,e,d⟩:=T.obj _ _ st6 b hb;exact (I7.pin (b,o) (bR _ (bR _ (rk hb e)))).2.1
   refine MY (hg _ _ s6 _ H6 x u _ I6' r6 (step x H6 y6)) fun _ s7 ⟨σ7,H7,I7,q7⟩=>?_
   refine MY (hf _ _ s7 σ7 H7 _ I7 q7) fun ok s8 ⟨H8,I8,q8⟩=>?_
   cases ok with
   | false =>
    rw[if_neg aX] at q8 ⊢;obtain ⟨m',hm,w8⟩:=hNN H8 q8;obtain ⟨J1,J2,J3⟩:=back I8;exact ⟨m',hm,i+1,ys,σ7,H8,its,k,J1,J2,J3,rv,w8⟩
   | true =>
    rw[if_pos rfl] at q8 ⊢;refine MY (he _ _ s8 σ7 H8 _ I8 q8) fun z s9 ⟨y,H9,I9,r9,q9⟩=>?_
    obtain ⟨J1,J2,J3⟩:=back I9;obtain ⟨m',hm,w9⟩:=hNY y H9 q9;have pD:=J1.pin (s2.heap.objs.size,lobj its k) (by simp);have hl:=rv.length;refine call_meets F.slot_list_append ⟨_,pD.1,rfl⟩ F.entry_list_append (F.args_list_append_2 _ _) (PySem.list_append s2.heap.objs.size its.toArray k z (by rw[aJ];lia)) ⟨pD.1,?_⟩;have e9:=mF pD.1 (fun a=>a.push z);have e9':(its.toArray.push z)=(its++[z]).toArray:=by simp
    rw[e9'] at e9;obtain ⟨n',e9⟩:∃n',(s9.heap.update s2.heap.objs.size (Obj.mapSeq fun a=>a.push z)).get? s2.heap.objs.size=some (lobj (its++[z]) n'):=⟨_,e9⟩
    have J4:Inv (yP X own capN scope ⟨s2,H2,fp,s2.heap.objs.size+1⟩) [] σ7 H9 { s9 with heap:=s9.heap.update s2.heap.objs.size (Obj.mapSeq fun a=>a.push z),toks:=s9.toks } :=
     (J1.pins_of (pins':=[]) fun p hp=>nomatch hp).turned (fun b o hb e=>(Heap.get?_update_other s9.heap _ (Ne.symm hb)).trans e) pD.2.1 pD.2.2.1 (.inr (av _)) (fun x c hx z=>by
      rcases jJ (Z:=⟨s2,H2,fp,s2.heap.objs.size+1⟩) B I2 hx with ⟨_,m⟩ | ⟨_,_,m⟩
      ·have:=(hcl.empty _ _ m).2;have z':@Eq Nat c s2.heap.objs.size:=z
       lia
      ·have:=CK (Z:=⟨s2,H2,fp,s2.heap.objs.size+1⟩) I2 m;rw[z] at this;exact dZ _ this) fun p hp=>by simp [yP] at hp
    have nfp:∀b∈fp,b≠s2.heap.objs.size:=fun b hb z=>by have:=(hfp b hb).2;rw[z] at this;exact dZ _ this
    refine ⟨m',hm,i+1,ys++[y],σ7,H9,its++[z],n',J4.pins_of fun p hp=>?_,T.keep _ _ _ J2 fun b hb o e=>(Heap.get?_update_other s9.heap _ (Ne.symm (nfp b hb))).trans e,J3,rv.append (.cons r9 .nil),w9⟩;have ep:p=(s2.heap.objs.size,lobj (its++[z]) n'):=by simpa using hp
    rw[ep];exact ⟨e9,pD.2.1,pD.2.2.1,pD.2.2.2.1,fun v z=>nomatch z⟩
 exact codeAny_compStart_list loop (T.self _ _ _ _ _ st3 loop)
theorem cQ (own capN:List Str) (cap:List Nat) (hi:PI X tg iter wi) (hg:∀Z,PG (yP X own capN scope Z) tg g) (hf:∀Z,PF (yP X own capN scope Z) ifs tf) (he:∀Z,PE (yP X own capN scope Z) elt te)
  (h1:P0 scope own capN=true:=by decide +kernel) (h2:Bs X.env capN=true:=by rfl) (hcap:yE X capN cap:=by rfl) (hc:X.calm=true:=by rfl) (hs:∀x,foldedSetIterable iter X.env x=pure x:=by intro _;rfl) :
  PE X (.ListComp elt [⟨tg,iter,ifs,0⟩] scope pos) (Dd wi own.length cap g tf te):=by
 intro pins s σ H Q I h;rw[eval_ListComp];refine Bq (use:=none) hc (Bk.of h1 h2) hcap hi hg hf he hs I h fun D C s' H' I' fC hm q=>?_
 obtain ⟨m,hm⟩:=hm;refine ⟨m,hm,fun h' hs'=>?_⟩;obtain ⟨f0,f1,f2,f3,f4,f5⟩:=fC;exact ⟨.ref D,H',I'.turned (t':=s'.toks) (fun b o hb e=>(hs'.2 b hb).trans e) f0 f1 f3 f4 f5,rfl,q⟩
theorem oS (i:Nat) (own capN:List Str) (cap:List Nat) {x:Str} {pos' spos:Pos} (hN:X.N.Nodup) (hi':X.N[i]?=some x) (hx:X.env.scope.names.lookup x=some .local) (hi:PI X tg iter wi) (hg:∀Z,PG (yP X own capN scope Z) tg g) (hf:∀Z,PF (yP X own capN scope Z) ifs tf) (he:∀Z,PE (yP X own capN scope Z) elt te)
  (h1:P0 scope own capN=true:=by decide +kernel) (h2:Bs X.env capN=true:=by rfl) (hcap:yE X capN cap:=by rfl) (hc:X.calm=true:=by rfl) (hs:∀x,foldedSetIterable iter X.env x=pure x:=by intro _;rfl)
  (hsw:swapsWith (.ListComp elt [⟨tg,iter,ifs,0⟩] scope pos) (some (.Name x pos')) spos.line X.env=pure true:=by rfl) :
  PS X (.Assign [.Name x pos'] (.ListComp elt [⟨tg,iter,ifs,0⟩] scope pos) spos) (KP (Dd wi own.length cap g tf te) (FP i)):=by
 intro pins s σ H D I h;rw[exec_Assign_Name_used _ _ _ _ hsw];refine wpAny_bind (wpAny_standAt (wpAny_bind ?_));rw[arm_evalThenUse_ListComp];refine wpAny_bind (Bq (Q:=fun v H1=>D.nx (σ.set i (some v)) H1) (use:=some _) hc (Bk.of h1 h2) hcap hi hg hf he hs I h fun L C s' H' I' fC hm q=>?_);obtain ⟨m,hm⟩:=hm;obtain ⟨f0,f1,f2,f3,f4,f5⟩:=fC;refine wpAny_assign_Name (A4 I' hN hi' (.inl hx) (v:=.ref L) rfl (fun s'' I'' ⟨a,sb,ha⟩=>?_) (.inr hx))
 have hCa:C≠a:=by
  rcases ha with e | e
  ·rw[e];exact f1
  ·exact (f4 x a e).symm
 refine ⟨m,hm.at' fun o e=>(sb.2 C hCa).trans e,fun h' hs'=>?_⟩;have I3:=I''.turned (h':=h') (t':=s''.toks) (fun b o hb e=>(hs'.2 b hb).trans e) f0 f1 f3 f4 f5;exact wpAny_pure (wpAny_pure ⟨_,H',I3,q⟩)
end
section
variable {K:PySem.W.Frag} {a:Addr} {xs:List V} {g:TG} {tf:TT} {te:TE} {Q:VK} {σ₀:St} {H:Hp}
theorem fE (Pv:Nat->List V->Hp->Prop) (hz:xs.length<=sizeLine) (h0:Pv 0 [] H) (hl:∀i ys H,i<=xs.length->Pv i ys H->bV K H a xs)
  (hs:∀i x ys H,xs[i]?=some x->ys.length<=i->Pv i ys H->sU σ₀ g tf te x H (fun y H'=>Pv (i+1) (ys++[y]) H') (fun H'=>Pv (i+1) ys H'))
  (hd:∀ys H,ys.length<=xs.length->Pv xs.length ys H->∀p,H p=none->Q (.ref p) (upd H p (.lst ys))):uw (Me K a) σ₀ g tf te Q H:=by
 refine ⟨fun i m ys H=>m=xs.length - i/\i<=xs.length/\ys.length<=i/\Pv i ys H,⟨xs.length,by simp,aY _,aY _,h0⟩,?_⟩;rintro i m ys H ⟨rfl,hi,hy,p⟩;have q:=hl i ys H hi p;by_cases hlt:i < xs.length
 ·refine .inr ⟨⟨xs,xs[i],q,by simp [hlt]⟩,by lia,fun y H'=>Pv (i+1) (ys++[y]) H',fun H'=>Pv (i+1) ys H',fun y H' p'=>⟨xs.length - (i+1),by lia,rfl,hlt,by rw[aw,bI];lia,p'⟩,fun H' p'=>⟨xs.length - (i+1),by lia,rfl,hlt,by lia,p'⟩,fun x H' y=>?_⟩;obtain ⟨e,y⟩:=y;subst e;exact hs i x ys _ (y xs q) hy p
 ·have e:i=xs.length:=by lia
  subst e;exact .inl ⟨⟨xs,q,av _⟩,by lia,hd ys H hy p⟩
theorem rJ {lo:Int} {n:Nat} (Pv:Nat->List V->Hp->Prop) (hz:n<=sizeLine) (h0:Pv 0 [] H)
  (hs:∀i ys H,i < n->ys.length<=i->Pv i ys H->sU σ₀ g tf te (.int (lo+i)) H (fun y H'=>Pv (i+1) (ys++[y]) H') (fun H'=>Pv (i+1) ys H'))
  (hd:∀ys H,ys.length<=n->Pv n ys H->∀p,H p=none->Q (.ref p) (upd H p (.lst ys))):uw (D4 lo n) σ₀ g tf te Q H:=by
 refine ⟨fun i m ys H=>m=n - i/\i<=n/\ys.length<=i/\Pv i ys H,⟨n,by simp,aY _,aY _,h0⟩,?_⟩;rintro i m ys H ⟨rfl,hi,hy,p⟩;by_cases hlt:i < n
 ·refine .inr ⟨hlt,by lia,fun y H'=>Pv (i+1) (ys++[y]) H',fun H'=>Pv (i+1) ys H',fun y H' p'=>⟨n - (i+1),by lia,rfl,hlt,by rw[aw,bI];lia,p'⟩,fun H' p'=>⟨n - (i+1),by lia,rfl,hlt,by lia,p'⟩,fun x H' y=>?_⟩;obtain ⟨e,y⟩:=y;subst e y;exact hs i ys _ hlt hy p
 ·have e:i=n:=by lia
  subst e;exact .inl ⟨av _,by lia,hd ys H hy p⟩
end
open Nm
def kv (i j:Int):Prop:=Ov i j\/∃m n,Sz m i/\Sz n j/\m+n<=1000000
def sL (i j:Int):Prop:=j≠0/\Sz 8999 j
theorem Aw {k:Nat} {i:Int} (h:Sz k i):Builtin.Int.intBits i<=k:=by
 unfold Builtin.Int.intBits;by_cases e:i=0
 ·subst e;simp
 ·have e':(i == 0)=false:=by simpa using e
  rw[e'];have hn:i.natAbs≠0:=by lia
  have:=(Nat.log2_lt hn).mpr h;simp only[jl,if_false]
  lia
theorem kv.ok {i j:Int} (h:kv i j):IntMulOk i j:=by
 rcases h with h | ⟨m,n,h1,h2,h3⟩
 ·exact h.ok
 ·have e:(2:Nat)^20=1048576:=by decide
  exact .of_bits (by have:=Aw h1;lia) (by have:=Aw h2;lia)
section
variable {X:Cx} {a b:Expr} {ta tb:TE} {pos:Pos}
theorem dM:yR X (binaryOp .Mult) (rI kv fun i j=>.int (i*j)):=PY fun _ _ _ _ _ _ _ hc q=>mul_int q hc.ok
theorem jX:yR X (binaryOp .FloorDiv) (rI sL fun i j=>.int (i.fdiv j)):=PY fun i j _ _ _ _ _ hc q=>by
 refine floordiv_int hc.1 q (.inl (PyProof.noPylong_of_log2 ?_));have hn:j.natAbs≠0:=by have:=hc.1;lia
 have:=(Nat.log2_lt hn).mpr hc.2
 lia
def OL (t u:TS):TS:=fun D σ H=>∃N:St->Hp->Prop,t { D with nx:=N } σ H/\∀σ' H',N σ' H'->u D σ' H'
theorem jF {st:Stmt} {rest:List Stmt} {t u:TS} (h1:PS X st t) (h2:Fc X rest u):Fc X (st :: rest) (OL t u):=by
 intro pins s σ H D I h;obtain ⟨N,h,k⟩:=h;refine wpAny_execs_cons (fP (h1 pins s σ H { D with nx:=N } I h) fun f s1 q=>?_);cases f with
 | next =>
  obtain ⟨σ',H',I',q⟩:=q;exact h2 pins s1 σ' H' D I' (k _ _ q)
 | ret v=>exact q
 | brk=>exact q
 | cont=>exact q
def Mx (K:PySem.W.Frag):V->V->Hp->VK->Prop:=fun o i H Q=>∃p xs k v,o=.ref p/\i=.int k/\bV K H p xs/\E6 xs k=some v/\Q v H
theorem JY:PH X (Mx X.K):=by
 intro pins s σ H o i ov iv Q I ro ri h;obtain ⟨p,xs,k,z,rfl,rfl,hq,he,q⟩:=h;cases ro;obtain ⟨t,rfl⟩:=ri;obtain ⟨its,r,pl,hz⟩:=I.list hq;obtain ⟨j,h1,h2,h3,h4,h5⟩:=CM he;obtain ⟨w,ew,rw'⟩:=r.get h2;have hl:=r.length;have hn:=Aj;have fin:EP X pins σ Q w s:=⟨z,H,I,rw',q⟩;by_cases h0:0<=k
 ·have hj:k.toNat=j:=by
   rw[seqIndex_of h0 h5] at h1;exact cg h1
  exact wpAny_getItem_list pl.isList h0 (by lia) (by rw[hj];simpa using ew) fin
 ·have hj:(k+(its.toArray.size:Int)).toNat=j:=by
   rw[seqIndex_neg (by lia) h4] at h1;rw[aJ,<- hl];exact cg h1
  exact wpAny_getItem_list_neg pl.isList (by lia) (by rw[aJ] <;> lia) (by lia) (by rw[hj];simpa using ew) fin
def EE (K:PySem.W.Frag) (T:String):V->Hp->VK->Prop:=fun x H Q=>∃t b,ye K H x t/\PySem.W.kitOne K t (.type T)=some b/\Q (.bl b) H
theorem vK {c:Str} {T:String} {p p2:Pos} (hg:Gl X "isinstance") (hm:X.mg "isinstance"=none) (hb:bootBuiltins c=some (.type T)) (hmc:X.mg c=none) (ha:PE X a ta) (hgc:Gl X c:=by rfl) (hn:c≠"__name__":=by decide)
  (hd:(c == ("__debug__":Str))=false:=by decide) (he:starEach [a,.Name c p2] X.env=[(false,eval a X.env),(false,eval (.Name c p2) X.env)]:=by rfl)
  (hpl:(backTo pos (starEach [.Name c p2] X.env)).any (·.1)=false:=by rfl) (he2:starEach [.Name c p2] X.env=[(false,eval (.Name c p2) X.env)]:=by rfl):PE X (.Call (.Name "isinstance" p) [a,.Name c p2] [] pos) (PX (EE X.K T) ta):=by
 intro pins s σ H Q I h;refine wpAny_Call_Name_kw (kR I hg hm PyProof.Rows.boot_isinstance ?_);have hA:PA X [a,.Name c p2] (sV ta (sV (tC (.ty T)) Ef)):=ae ha (ae (FC hgc hmc hb rfl hn hd) ai he2) (by rw[he,he2])
 have hq:sV ta (sV (tC (.ty T)) Ef) σ H (fun vs H1=>∃x,vs=[x,.ty T]/\EE X.K T x H1 Q):=by
  show ta σ H fun x H1=>∃x',[x,V.ty T]=[x',V.ty T]/\EE X.K T x' H1 Q
  have e:(fun x H1=>∃x',[x,V.ty T]=[x',V.ty T]/\EE X.K T x' H1 Q)=fun x H1=>EE X.K T x H1 Q:=by
   funext x H1;apply propext;constructor
   ·rintro ⟨x',e,q⟩;cases e;exact q
   ·intro q;exact ⟨x,rfl,q⟩
  rw[e];exact h
 refine PyProof.Rows.callWith_builtin1 (fP (hA pos pins s σ H _ I hq) fun us s1 ⟨vs,H1,I1,r1,x,e,q1⟩=>?_) (by rw[he,he2]) hpl;subst e;obtain ⟨u,w',rfl,ru,rt⟩:=vals2 r1;cases rt;obtain ⟨t,bb,ty,ek,q⟩:=q1;exact Bj I1 ru ty ek fun tk=>⟨.bl bb,H1,I1.tok tk,rfl,q⟩
end
structure Kind (α:Type) [DecidableEq α] where
 R:PySem.W.Frag->Hp->V->α->Prop
 d:Nat
 inj:∀{X:Cx} {pins:List (Addr×Obj)} {σ:St} {H:Hp} {s:Shared} {x:V} {a b:α},Inv X pins σ H s->R X.K H x a->R X.K H x b->a=b
 rc:∀{X:Cx} {pins:List (Addr×Obj)} {σ:St} {H:Hp} {s:Shared} {x y:V} {v u:Value} {a b:α} {A:Around},Inv X pins σ H s->RelV x v->RelV y u->R X.K H x a->R X.K H y b->A.units+d < cLine->SeqAt.RcAt A s v u (decide (a=b))
 ne:∀{X:Cx} {pins:List (Addr×Obj)} {σ:St} {H:Hp} {s:Shared} {x y:V} {v u:Value} {a b:α} {A:Around},Inv X pins σ H s->RelV x v->RelV y u->R X.K H x a->R X.K H y b->A.units+d < cLine->SeqAt.RcNeAt A s v u (!decide (a=b))
 eq:∀{X:Cx} {pins:List (Addr×Obj)} {σ:St} {H:Hp} {s:Shared} {x y:V} {v u:Value} {a b:α} {A:Around},Inv X pins σ H s->RelV x v->RelV y u->R X.K H x a->R X.K H y b->A.units+d < cLine->SeqAt.EqAt A s v u (decide (a=b))
def Qj:Kind Int where
 R:=fun _ _ x i=>x=.int i
 d:=0
 inj:=fun _ h1 h2=>by rw[h1] at h2;cases h2;rfl
 rc:=fun {X pins σ H s x y v u a b A} I rx ry h1 h2 _=>by
  subst h1 h2;obtain ⟨t,rfl⟩:=rx;obtain ⟨t',rfl⟩:=ry;have q:=SeqAt.RcAt.int_int (A:=A) (s:=s) a t b t';rwa [fO] at q
 ne:=fun {X pins σ H s x y v u a b A} I rx ry h1 h2 _=>by
  subst h1 h2;obtain ⟨t,rfl⟩:=rx;obtain ⟨t',rfl⟩:=ry;have q:=SeqAt.RcNeAt.int_int (A:=A) (s:=s) a t b t';rwa [fO] at q
 eq:=fun {X pins σ H s x y v u a b A} I rx ry h1 h2 _=>by
  subst h1 h2;obtain ⟨t,rfl⟩:=rx;obtain ⟨t',rfl⟩:=ry;have q:=SeqAt.EqAt.int_int (A:=A) (s:=s) a t b t';rwa [fO] at q
theorem kN {α β:Type} {F:α->β->Prop}:∀{l1:List α} {l2:List β} {i:Nat} (_:Paired F l1 l2) (h1:i < l1.length) (h2:i < l2.length),F l1[i] l2[i]
 | _,_,_,.nil,h1,_=>absurd h1 (gH _)
 | _,_,0,.cons r _,_,_=>r
 | _,_,i+1,.cons _ t,h1,h2=>kN (i:=i) t (Nat.lt_of_succ_lt_succ h1) (Nat.lt_of_succ_lt_succ h2)
theorem ox {α β:Type} {F:α->β->Prop} (hF:∀a b x,F a x->F b x->a=b):∀{l1 l2:List α} {l:List β},Paired F l1 l->Paired F l2 l->l1=l2
 | _,_,_,.nil,.nil=>rfl
 | _,_,_,.cons r t,.cons r' t'=>by rw[hF _ _ _ r r',ox hF t t']
theorem wV {α:Type} [DecidableEq α] (as bs:List α) (h:as.length=bs.length):(List.range as.length).all (fun j=>decide (as[j]?=bs[j]?))=decide (as=bs):=by
 rw[nW,qT,decide_eq_true_iff];constructor
 ·intro q;apply Gu;intro i;by_cases hi:i < as.length
  ·exact of_decide_eq_true (q i (vD.mpr hi))
  ·rw[aS (by lia),aS (by lia)]
 ·rintro rfl i _;simp
section
variable {α:Type} [DecidableEq α] (k:Kind α)
theorem Kind.items {X:Cx} {pins:List (Addr×Obj)} {σ:St} {H:Hp} {s:Shared} {A:Around} (I:Inv X pins σ H s) (hA:A.units+k.d < cLine) {xs ys:List V} {us ws:List Value} {as bs:List α}
  (rx:cL xs us) (ry:cL ys ws) (ha:Paired (fun a x=>k.R X.K H x a) as xs) (hb:Paired (fun a x=>k.R X.K H x a) bs ys) :
  ∀j (h1:j < us.toArray.size) (h2:j < ws.toArray.size),SeqAt.EqAt A s us.toArray[j] ws.toArray[j] (decide (as[j]?=bs[j]?)):=fun j h1 h2=>by
 have l1:j < us.length:=by simpa using h1
 have l2:j < ws.length:=by simpa using h2
 have e1:=rx.length;have e2:=ry.length;have e3:=ha.length;have e4:=hb.length;obtain ⟨u,hu,ru⟩:=rx.get (i:=j) (x:=xs[j]'(by lia)) (by simp);obtain ⟨w,hw,rw'⟩:=ry.get (i:=j) (x:=ys[j]'(by lia)) (by simp);have q:=k.eq (A:=A) I ru rw' (kN ha (by lia) (by lia)) (kN hb (by lia) (by lia)) hA
 have eu:us.toArray[j]=u:=by
  have:=hu;rw[ag l1] at this;simpa using this
 have ew:ws.toArray[j]=w:=by
  have:=hw;rw[ag l2] at this;simpa using this
 rw[eu,ew,ag (show j < as.length by lia),ag (show j < bs.length by lia)];have e5:decide (some as[j]=some bs[j])=decide (as[j]=bs[j]):=by simp
 rw[e5];exact q
theorem BN {α:Type} [DecidableEq α] (as bs:List α) {n m:Nat} (h1:as.length=n) (h2:bs.length=m):((List.range (min n m)).all (fun j=>decide (as[j]?=bs[j]?)) && n == m)=decide (as=bs):=by
 subst h1 h2;by_cases e:as.length=bs.length
 ·rw[show min as.length bs.length=as.length by lia,wV as bs e];simp [e]
 ·have h1:(as.length == bs.length)=false:=by simpa using e
  rw[h1,Bool.and_false];exact (decide_eq_false fun z=>e (by rw[z])).symm
def Qi:Kind (List α) where
 R:=fun K H x as=>∃p xs,x=.ref p/\oI K H p xs/\Paired (fun a x=>k.R K H x a) as xs
 d:=k.d+1
 inj:=fun {X pins σ H s x a b} I h1 h2=>by
  obtain ⟨p,xs,rfl,hp,pa⟩:=h1;obtain ⟨q,ys,e,hq,pb⟩:=h2;cases e;have e:=I.tuple_inj hp hq;subst e;exact ox (F:=fun a x=>k.R X.K H x a) (fun a b x=>k.inj I) pa pb
 rc:=fun {X pins σ H s x y v u a b A} I rx ry h1 h2 hA=>by
  obtain ⟨p,xs,rfl,hp,pa⟩:=h1;obtain ⟨q,ys,rfl,hq,pb⟩:=h2;cases rx;cases ry;obtain ⟨us,r1,t1,_⟩:=I.tuple hp;obtain ⟨ws,r2,t2,_⟩:=I.tuple hq;have z:=SeqAt.RcAt.tuples (A:=A) (e:=fun j=>decide (a[j]?=b[j]?)) (show s.heap.IsTuple p us.toArray from t1) (show s.heap.IsTuple q ws.toArray from t2) (by lia) (k.items (A:=A.in1) I (by show A.units+1+k.d < cLine;lia) r1 r2 pa pb);rwa [BN a b (by rw[pa.length,r1.length];simp) (by rw[pb.length,r2.length];simp)] at z
 ne:=fun {X pins σ H s x y v u a b A} I rx ry h1 h2 hA=>by
  obtain ⟨p,xs,rfl,hp,pa⟩:=h1;obtain ⟨q,ys,rfl,hq,pb⟩:=h2;cases rx;cases ry;obtain ⟨us,r1,t1,_⟩:=I.tuple hp;obtain ⟨ws,r2,t2,_⟩:=I.tuple hq;have z:=SeqAt.RcNeAt.tuples (A:=A) (e:=fun j=>decide (a[j]?=b[j]?)) (show s.heap.IsTuple p us.toArray from t1) (show s.heap.IsTuple q ws.toArray from t2) (by lia) (k.items (A:=A.in1) I (by show A.units+1+k.d < cLine;lia) r1 r2 pa pb);rwa [BN a b (by rw[pa.length,r1.length];simp) (by rw[pb.length,r2.length];simp)] at z
 eq:=fun {X pins σ H s x y v u a b A} I rx ry h1 h2 hA=>by
  obtain ⟨p,xs,rfl,hp,pa⟩:=h1;obtain ⟨q,ys,rfl,hq,pb⟩:=h2;cases rx;cases ry;by_cases e:p=q
  ·subst e;have e:=I.tuple_inj hp hq;subst e;rw[ox (F:=fun a x=>k.R X.K H x a) (fun a b x=>k.inj I) pa pb,decide_eq_true rfl];exact SeqAt.EqAt.same _
  ·obtain ⟨us,r1,t1,_⟩:=I.tuple hp;obtain ⟨ws,r2,t2,_⟩:=I.tuple hq;have z:=SeqAt.RcAt.tuples (A:=A) (e:=fun j=>decide (a[j]?=b[j]?)) (show s.heap.IsTuple p us.toArray from t1) (show s.heap.IsTuple q ws.toArray from t2) (by lia) (k.items (A:=A.in1) I (by show A.units+1+k.d < cLine;lia) r1 r2 pa pb);rw[BN a b (by rw[pa.length,r1.length];simp) (by rw[pb.length,r2.length];simp)] at z;exact .of_refs e z
theorem ET {X:Cx} {pins:List (Addr×Obj)} {σ:St} {H:Hp} {s:Shared} {p q:Addr} {xs ys:List V} {a b:List α} {A:Around} (I:Inv X pins σ H s) (hp:bV X.K H p xs) (hq:bV X.K H q ys)
  (pa:Paired (fun a x=>k.R X.K H x a) a xs) (pb:Paired (fun a x=>k.R X.K H x a) b ys) (hA:A.units+(k.d+1) < cLine) :
  SeqAt.RcAt A s (.ref p) (.ref q) (decide (a=b))/\SeqAt.RcNeAt A s (.ref p) (.ref q) (!decide (a=b)):=by
 obtain ⟨us,r1,t1,_⟩:=I.list hp;obtain ⟨ws,r2,t2,_⟩:=I.list hq;have l1:=r1.length;have l2:=r2.length;have l3:=pa.length;have l4:=pb.length;by_cases e:us.length=ws.length
 ·have it:=k.items (A:=A.in1) I (by show A.units+1+k.d < cLine;lia) r1 r2 pa pb;have z:=SeqAt.RcAt.lists (A:=A) (e:=fun j=>decide (a[j]?=b[j]?)) t1.isList t2.isList (by simpa using e) (by lia) it;have z2:=SeqAt.RcNeAt.lists (A:=A) (e:=fun j=>decide (a[j]?=b[j]?)) t1.isList t2.isList (by simpa using e) (by lia) it;have e1:us.toArray.size=a.length:=by rw[aJ];lia
  rw[e1,wV a b (by lia)] at z z2;exact ⟨z,z2⟩
 ·have hne:¬a=b:=fun z=>e (by have:=congrArg List.length z;lia)
  rw[decide_eq_false hne];exact ⟨SeqAt.RcAt.lists_lengths t1.isList t2.isList (by simpa using e) (by lia),SeqAt.RcNeAt.lists_lengths t1.isList t2.isList (by simpa using e) (by lia)⟩
def Pn:Kind (List α) where
 R:=fun K H x as=>∃p xs,x=.ref p/\bV K H p xs/\Paired (fun a x=>k.R K H x a) as xs
 d:=k.d+1
 inj:=fun {X pins σ H s x a b} I h1 h2=>by
  obtain ⟨p,xs,rfl,hp,pa⟩:=h1;obtain ⟨q,ys,e,hq,pb⟩:=h2;cases e;have e:=I.list_inj hp hq;subst e;exact ox (F:=fun a x=>k.R X.K H x a) (fun a b x=>k.inj I) pa pb
 rc:=fun {X pins σ H s x y v u a b A} I rx ry h1 h2 hA=>by
  obtain ⟨p,xs,rfl,hp,pa⟩:=h1;obtain ⟨q,ys,rfl,hq,pb⟩:=h2;cases rx;cases ry;exact (ET k I hp hq pa pb hA).1
 ne:=fun {X pins σ H s x y v u a b A} I rx ry h1 h2 hA=>by
  obtain ⟨p,xs,rfl,hp,pa⟩:=h1;obtain ⟨q,ys,rfl,hq,pb⟩:=h2;cases rx;cases ry;exact (ET k I hp hq pa pb hA).2
 eq:=fun {X pins σ H s x y v u a b A} I rx ry h1 h2 hA=>by
  obtain ⟨p,xs,rfl,hp,pa⟩:=h1;obtain ⟨q,ys,rfl,hq,pb⟩:=h2;cases rx;cases ry;by_cases e:p=q
  ·subst e;have e:=I.list_inj hp hq;subst e;rw[ox (F:=fun a x=>k.R X.K H x a) (fun a b x=>k.inj I) pa pb,decide_eq_true rfl];exact SeqAt.EqAt.same _
  ·exact .of_refs e (ET k I hp hq pa pb hA).1
def Kind.via {β:Type} [DecidableEq β] (f:β->α) (fi:∀a b,f a=f b->a=b) (R':PySem.W.Frag->Hp->V->β->Prop) (im:∀{K H x b},R' K H x b->k.R K H x (f b)):Kind β where
 R:=R'
 d:=k.d
 inj:=fun I h1 h2=>fi _ _ (k.inj I (im h1) (im h2))
 rc:=fun {X pins σ H s x y v u a b A} I rx ry h1 h2 hA=>by
  have z:=k.rc (A:=A) I rx ry (im h1) (im h2) hA;rwa [decide_eq_decide.mpr (show f a=f b↔a=b from ⟨fi a b,fun e=>by rw[e]⟩)] at z
 ne:=fun {X pins σ H s x y v u a b A} I rx ry h1 h2 hA=>by
  have z:=k.ne (A:=A) I rx ry (im h1) (im h2) hA;rwa [decide_eq_decide.mpr (show f a=f b↔a=b from ⟨fi a b,fun e=>by rw[e]⟩)] at z
 eq:=fun {X pins σ H s x y v u a b A} I rx ry h1 h2 hA=>by
  have z:=k.eq (A:=A) I rx ry (im h1) (im h2) hA;rwa [decide_eq_decide.mpr (show f a=f b↔a=b from ⟨fi a b,fun e=>by rw[e]⟩)] at z
end
def DZ (K:PySem.W.Frag) (H:Hp) (x:V) (n:Int×Int):Prop:=∃p,x=.ref p/\oI K H p [.int n.1,.int n.2]
def Pl:Kind (Int×Int):=(Qi Qj).via (fun n=>[n.1,n.2]) (fun a b e=>by cases a;cases b;simp at e;rw[e.1,e.2]) DZ fun ⟨p,e,h⟩=>⟨p,_,e,h,.cons rfl (.cons rfl .nil)⟩
def Qd (K:PySem.W.Frag):R2:=fun x y H Q=>∃(α:Type) (_:DecidableEq α) (k:Kind α) (a b:α),k.d<=50/\k.R K H x a/\k.R K H y b/\Q (.bl (decide (a=b))) H
def Pd (K:PySem.W.Frag):R2:=fun x y H Q=>∃(α:Type) (_:DecidableEq α) (k:Kind α) (a b:α),k.d<=50/\k.R K H x a/\k.R K H y b/\Q (.bl (!decide (a=b))) H
theorem NS {X:Cx} (hu:X.A.units+50 < cLine):yR X (compareOp .Eq) (Qd X.K):=by
 intro pins s σ H x y v u Q I rx ry h;obtain ⟨α,_,k,a,b,hd,ha,hb,q⟩:=h;exact k.rc (A:=X.A) I rx ry ha hb (by lia) _ _ _ _ ⟨.bl (decide (a=b)),H,I,rfl,q⟩
theorem zV {X:Cx} (hu:X.A.units+50 < cLine):yR X (compareOp .NotEq) (Pd X.K):=by
 intro pins s σ H x y v u Q I rx ry h;obtain ⟨α,_,k,a,b,hd,ha,hb,q⟩:=h;exact k.ne (A:=X.A) I rx ry ha hb (by lia) _ _ _ _ ⟨.bl (!decide (a=b)),H,I,rfl,q⟩
theorem EV {A:Around} {k:Nat} (hr:mP k A):A.units+50 < cLine:=by have:=hr.units;lia
def Inner (H:Hp) (p q:Addr):Prop:=∃a b c:Int,H p=some (.lst [.int a,.int b,.int c,.ref q])
def cV (p:Addr) (H H':Hp):Prop:=(∀b o,H b=some o->b≠p->H' b=some o)/\∀q,Inner H p q->Inner H' p q
theorem cV.refl {p:Addr} (H:Hp):cV p H H:=⟨fun _ _ h _=>h,fun _ h=>h⟩
theorem cV.trans {p:Addr} {H H1 H2:Hp} (a:cV p H H1) (b:cV p H1 H2):cV p H H2:=⟨fun c o h n=>b.1 c o (a.1 c o h n) n,fun q h=>b.2 q (a.2 q h)⟩
theorem Inner.inj {H:Hp} {p q q':Addr} (h:Inner H p q) (h':Inner H p q'):q=q':=by
 obtain ⟨a,b,c,e⟩:=h;obtain ⟨a',b',c',e'⟩:=h';rw[e] at e';have:=HO.lst.inj (cg e');simp at this;exact this.2.2.2
theorem cV.set {p q:Addr} {H:Hp} {a b c a' b' c':Int} (h:H p=some (.lst [.int a,.int b,.int c,.ref q])):cV p H (upd H p (.lst [.int a',.int b',.int c',.ref q])) :=
 ⟨fun b u h n=>by rw[bu n];exact h,fun q' h'=>by
  rw[(Inner.inj ⟨a,b,c,h⟩ h').symm];exact ⟨a',b',c',aK⟩⟩
theorem aL.upto {p:Addr} {H H':Hp} (h:aL H H'):cV p H H':=⟨fun b o e _=>h b o e,fun q ⟨a,b,c,e⟩=>⟨a,b,c,h _ _ e⟩⟩
theorem aL.new {H:Hp} {p:Addr} {o:HO} (h:H p=Option.none):aL H (upd H p o):=fun b u e=>by rw[bu (fj e h)];exact e
theorem aL.sqt {K:PySem.W.Frag} {H H':Hp} {a:Addr} {xs:List V} (e:aL H H') (h:oI K H a xs):oI K H' a xs:=by
 rcases h with (h | ⟨o,h⟩) | h
 ·exact .inl (.inl (e _ _ h))
 ·exact .inl (.inr ⟨o,e _ _ h⟩)
 ·exact .inr h
theorem aL.num {K:PySem.W.Frag} {H H':Hp} {x:V} {n:Int×Int} (e:aL H H') (h:DZ K H x n):DZ K H' x n:=by obtain ⟨p,q,r⟩:=h;exact ⟨p,q,e.sqt r⟩
section
variable {σ:St} {H:Hp} {D:Ends}
theorem aU {t:TS} {σ0 σ:St} {D:Ends} {H:Hp} (e:σ0=σ) (h:t D σ H):t D σ0 H:=by rw[e];exact h
theorem Nr {t u:TS} (h:t { D with nx:=u D } σ H):OM t u D σ H:=h
theorem Lk (h:D.nx σ H):Mo D σ H:=h
theorem NI {te:TE} {g:TG} (h:te σ H fun x H1=>g x σ H1 D.nx):KP te g D σ H:=h
theorem Jn {i:Nat} {v:V} {Q:St->Hp->Prop} (h:Q (σ.set i (some v)) H):FP i v σ H Q:=h
theorem Nt {te:TE} (h:te σ H D.rt):ON te D σ H:=h
theorem NB {c:TT} {t u:TS} (h:c σ H fun b H1=>if b=true then t D σ H1 else u D σ H1):OS c t u D σ H:=h
theorem Lu {te:TE} (h:te σ H fun _ H1=>D.nx σ H1):Mq te D σ H:=h
theorem Nu {i j:Nat} {ta:TA} (h:ta σ H fun vs H1=>∃v w,vs=[v,w]/\D.nx ((σ.set i (some v)).set j (some w)) H1):OO i j ta D σ H:=h
theorem Lz {to ti te:TE} {tget:V->V->Hp->VK->Prop} {tip:PC} {tset:E8}
  (h:to σ H fun o H1=>ti σ H1 fun i H2=>tget o i H2 fun x H3=>te σ H3 fun y H4=>tip x y H4 fun z H5=>tset o i z H5 fun H6=>D.nx σ H6):Mr to ti te tget tip tset D σ H:=h
theorem NA {f:Int->Int->Int} {i j:Int} {Q:VK} (h:Q (.int (f i j)) H):ipI f (.int i) (.int j) H Q:=⟨i,j,rfl,rfl,h⟩
theorem ND {wi:TI} {g:TG} {tb:TS} (h:wi σ H fun J H1=>∃W:Nat->Nat->St->Hp->Prop,(∃m,W 0 m σ H1)/\∀i m σ H,W i m σ H →
  (J.stop i H/\D.nx σ H)\/(J.go i H/\∃N:St->Hp->Prop,(∀σ' H',N σ' H'->∃m',m' < m/\W (i+1) m' σ' H')/\∀x H',J.yld i H x H'->g x σ H' fun σ2 H2=>tb { D with nx:=N,ct:=N,bk:=D.nx } σ2 H2)):OT wi g tb D σ H:=h
variable {Q:VK} {QA:List V->Hp->Prop} {QB:Bool->Hp->Prop}
theorem Nl {i:Nat} {v:V} (e:σ[i]?=some (some v)) (h:Q v H):MZ i σ H Q:=⟨v,e,h⟩
theorem Qa {v:V} (h:Q v H):tC v σ H Q:=h
theorem O8 {r:R2} {ta tb:TE} (h:ta σ H fun x H1=>tb σ H1 fun y H2=>r x y H2 Q):OP r ta tb σ H Q:=h
theorem O4 {r:V->Hp->VK->Prop} {ta:TE} (h:ta σ H fun x H1=>r x H1 Q):PX r ta σ H Q:=h
theorem Pb {g:Int->Int->V} {i j:Int} (h:Q (g i j) H):LC g (.int i) (.int j) H Q:=⟨i,j,rfl,rfl,h⟩
theorem h7 {C:Int->Int->Prop} {g:Int->Int->V} {i j:Int} (hc:C i j) (h:Q (g i j) H):rI C g (.int i) (.int j) H Q:=⟨i,j,rfl,rfl,hc,h⟩
theorem Qb {g:Int->V} {i:Int} (h:Q (g i) H):rU g (.int i) H Q:=⟨i,rfl,h⟩
theorem NH {i j:Int} (h:Q (.bl (decide (i=j))) H):Qf (.int i) (.int j) H Q:=⟨rfl,by
 have e:decide (V.int i=V.int j)=decide (i=j):=by simp
 rw[e];exact h⟩
theorem Nx {i j:Int} (h:Q (.bl (!decide (i=j))) H):rNe (.int i) (.int j) H Q:=⟨rfl,by
 have e:decide (V.int i=V.int j)=decide (i=j):=by simp
 rw[e];exact h⟩
theorem NG {i j:Str} (h:Q (.bl (decide (i=j))) H):Qf (.str i) (.str j) H Q:=⟨rfl,by
 have e:decide (V.str i=V.str j)=decide (i=j):=by simp
 rw[e];exact h⟩
theorem Lg {t:TE} (h:t σ H fun x H'=>∃k,x=.bl k/\QB k H'):Ml t σ H QB:=h
theorem O5 {t:TE} (h:t σ H fun x H'=>∃k,x=.bl k/\QB k H'):tB t σ H QB:=h
theorem NJ {t u:TT} (h:t σ H fun c H1=>if c=true then u σ H1 QB else QB false H1):OU t u σ H QB:=h
theorem O7 {t u:TT} (h:t σ H fun c H1=>if c=true then QB true H1 else u σ H1 QB):tOr t u σ H QB:=h
theorem Nv {t:TT} (h:t σ H fun c H1=>QB (!c) H1):OQ t σ H QB:=h
theorem LA {t u:TE} (h:t σ H fun x H1=>∃c,x=.bl c/\if c=true then u σ H1 Q else Q (.bl false) H1):Ms t u σ H Q:=h
theorem Lj {t:TE} (h:t σ H fun x H1=>∃c,x=.bl c/\Q (.bl (!c)) H1):Mn t σ H Q:=h
theorem NC {c:TT} {ta tb:TE} (h:c σ H fun b H1=>if b=true then ta σ H1 Q else tb σ H1 Q):tIf c ta tb σ H Q:=h
theorem Nk (h:QB true H):OJ σ H QB:=h
theorem Nw (h:QA [] H):Ef σ H QA:=h
theorem Lv {ta:TE} {tr:TA} (h:ta σ H fun x H1=>tr σ H1 fun xs H2=>QA (x :: xs) H2):sV ta tr σ H QA:=h
theorem Ly {sp:Sp} {E:XK} {t:TA} (h:t σ H fun vs H1=>sp vs H1 Q E):IB sp [] E t σ H Q:=by
 have e:(fun vs H1=>sp (vs++[]) H1 Q E)=fun vs H1=>sp vs H1 Q E:=by funext vs H1;rw[sR]
 show t σ H fun vs H1=>sp (vs++[]) H1 Q E
 rw[e];exact h
theorem O9 {r:List V->Hp->VK->Prop} {t:TA} (h:t σ H fun vs H1=>r vs H1 Q):P9 r t σ H Q:=h
theorem Nz {K:PySem.W.Frag} {p:Addr} {xs:List V} {i:Int} {v:V} (hx:oI K H p xs) (e:E6 xs i=some v) (h:Q v H):NL K (.ref p) (.int i) H Q:=⟨p,xs,i,v,rfl,rfl,hx,e,h⟩
theorem cN {K:PySem.W.Frag} {p:Addr} {xs:List V} {i:Int} (hx:bV K H p xs) {v:V} (e:E6 xs i=some v) (h:Q v H):NM K (.ref p) (.int i) H Q:=⟨p,xs,i,v,rfl,rfl,hx,e,h⟩
theorem Ls {K:PySem.W.Frag} {p:Addr} {xs:List V} {i:Int} (hx:bV K H p xs) {v:V} (e:E6 xs i=some v) (h:Q v H):Mx K (.ref p) (.int i) H Q:=⟨p,xs,i,v,rfl,rfl,hx,e,h⟩
theorem fb {QH:Hp->Prop} {p:Addr} {xs:List V} {i:Int} {v:V} {j:Nat} {ys:List V} (hx:H p=some (.lst xs)) (e:Ii xs.length i=some j) (ey:xs.set j v=ys) (h:QH (upd H p (.lst ys))):Mw (.ref p) (.int i) v H QH:=⟨p,xs,i,j,rfl,rfl,hx,e,by rw[ey];exact h⟩
theorem Lq {to ti:TE} {t:E8} {v:V} {QS:St->Hp->Prop} (h:to σ H fun o H1=>ti σ H1 fun i H2=>t o i v H2 fun H3=>QS σ H3):Pu to ti t v σ H QS:=h
theorem Jo {t:TG} {u:KC} {v:V} {r:List V} {QS:St->Hp->Prop} (h:t v σ H fun σ' H'=>u r σ' H' QS):MJ t u (v :: r) σ H QS:=⟨v,r,rfl,h⟩
theorem Lr {QS:St->Hp->Prop} (h:QS σ H):Pw [] σ H QS:=⟨rfl,h⟩
theorem Lp {K:PySem.W.Frag} {n:Nat} {t:KC} {a:Addr} {xs:List V} {QS:St->Hp->Prop} (hx:oI K H a xs) (hl:xs.length=n) (h:t xs σ H QS):Oc K n t (.ref a) σ H QS:=⟨a,xs,rfl,hx,hl,h⟩
theorem O6 {r:V->Option Int->Option Int->Hp->VK->Prop} {te:TE} {tl th:TO} (h:te σ H fun x H1=>tl σ H1 fun l H2=>th σ H2 fun u H3=>r x l u H3 Q):tSl r te tl th σ H Q:=h
theorem Ht {QO:Option Int->Hp->Prop} (h:QO none H):Fl σ H QO:=h
theorem Li {t:TE} {QO:Option Int->Hp->Prop} (h:t σ H fun x H1=>∃i,x=.int i/\QO (some i) H1):Mm t σ H QO:=h
variable {R:It->Hp->Prop} {K:PySem.W.Frag}
theorem Jl {tl:TE} (h:tl σ H fun x H1=>∃a,x=.ref a/\(∃xs,bV K H1 a xs)/\R (Me K a) H1):JU K tl σ H R:=h
theorem Lo {tl:TE} (h:tl σ H fun x H1=>∃a,x=.ref a/\(∃xs,oI K H1 a xs)/\R (OA K a) H1):Pt K tl σ H R:=h
theorem Jk {ta:TA} (h:ta σ H fun vs H1=>∃j:Int,vs=[.int j]/\-(2^62)<=j/\j < 2^62/\R (D4 0 j.toNat) H1):MG ta σ H R:=h
theorem Jj {ta:TA} (h:ta σ H fun vs H1=>∃i j:Int,vs=[.int i,.int j]/\(-(2^62)<=i/\i < 2^62/\-(2^62)<=j/\j < 2^62)/\R (D4 i (j - i).toNat) H1):MF ta σ H R:=h
theorem Lx {wi:TI} {k:Nat} {cap:List Nat} {g:TG} {tf:TT} {te:TE} {σ₀:St} (e:Ih k cap σ=σ₀) (h:wi σ H fun J H1=>uw J σ₀ g tf te Q H1):Dd wi k cap g tf te σ H Q:=by
 unfold Dd;rw[e];exact h
theorem Lf {g:TG} {tf:TT} {te:TE} {x:V} {NY:V->Hp->Prop} {NN:Hp->Prop} (h:g x σ H fun σ2 H2=>tf σ2 H2 fun b H3=>if b=true then te σ2 H3 NY else NN H3):sU σ g tf te x H NY NN:=h
theorem Pa {T:String} {r:V->List V->Hp->VK->Prop} {to:TE} {t:TA} (h:to σ H fun x H1=>P8 K T x H1/\t σ H1 fun xs H2=>r x xs H2 Q):tBM K T r to t σ H Q:=h
def PJ (Q:VK) (xs:List V) (H:Hp):Prop:=xs.length<=sizeLine/\∀p,H p=none->Q (.ref p) (upd H p (.tup xs))
def PK (Q:VK) (xs:List V) (H:Hp):Prop:=xs.length<=sizeLine/\∀p,H p=none->Q (.ref p) (upd H p (.lst xs))
theorem Nn {t:TA} (h:t σ H (PJ Q)):OK t σ H Q:=h
theorem Ny {t:TA} (h:t σ H (PK Q)):OR t σ H Q:=h
theorem jO {n:Nat} (h:Nat.ble n 1000=true):n<=sizeLine:=bp (bK (Nat.le_of_ble_eq_true h))
theorem b9 {xs:List V} (h:∀p H',aL H H'->H' p=some (.tup xs)->Q (.ref p) H') (hl:Nat.ble xs.length 1000=true:=by rfl):PJ Q xs H :=
 ⟨jO hl,fun p hp=>h p _ (aL.new hp) aK⟩
theorem dz {xs:List V} (h:∀p H',aL H H'->H p=none->H' p=some (.lst xs)->Q (.ref p) H') (hl:Nat.ble xs.length 1000=true:=by rfl):PK Q xs H :=
 ⟨jO hl,fun p hp=>h p _ (aL.new hp) hp aK⟩
theorem Pp {A B:Prop} (h:B):if (!true)=true then A else B:=HQ h
theorem Pq {A B:Prop} (h:A):if (!false)=true then A else B:=Po h
def WB (tb:TS) (D:Ends) (Pv:St->Hp->Prop) (μ:St->Hp->Nat) (n:Nat) (σ:St) (H:Hp):Prop:=∃N:St->Hp->Prop,(∀σ' H',N σ' H'->∃m',m' < n/\(m'=μ σ' H'/\Pv σ' H'))/\tb { D with nx:=N,ct:=N,bk:=D.nx } σ H
theorem Mv {tb:TS} {Pv:St->Hp->Prop} {μ:St->Hp->Nat} {n:Nat} (h:tb { D with nx:=fun σ' H'=>Pv σ' H'/\μ σ' H' < n,ct:=fun σ' H'=>Pv σ' H'/\μ σ' H' < n,bk:=D.nx } σ H):WB tb D Pv μ n σ H :=
 ⟨_,fun σ' H' ⟨p,l⟩=>⟨_,l,rfl,p⟩,h⟩
theorem BL {c:TT} {tb:TS} (Pv:St->Hp->Prop) (μ:St->Hp->Nat) (h0:Pv σ H) (hs:∀σ H,Pv σ H->c σ H fun b H1=>if b=true then WB tb D Pv μ (μ σ H) σ H1 else D.nx σ H1):Iz c tb D σ H:=by
 refine ⟨fun m σ H=>m=μ σ H/\Pv σ H,⟨_,rfl,h0⟩,?_⟩;rintro m σ H ⟨rfl,p⟩;exact hs σ H p
end
def ig (H:Hp) (p:Addr):Prop:=∃(q:Addr) (a b c:Int) (cs:List Int),H p=some (.lst [.int a,.int b,.int c,.ref q])/\H q=some (.lst (cs.map V.int))/\0<=a/\0<=c/\c<=(cs.length:Int)/\∀x∈cs,(0:Int)<=x
theorem Ic {H:Hp} {p q:Addr} {a b c:Int} {cs:List Int} (hp:H p=some (.lst [.int a,.int b,.int c,.ref q])) (hq:H q=some (.lst (cs.map V.int))):q≠p:=fun e=>by
 rw[e,hp] at hq;have h:=HO.lst.inj (cg hq);cases cs with
 | nil=>cases h
 | cons x1 cs=>cases cs with
  | nil=>cases h
  | cons x2 cs=>cases cs with
   | nil=>cases h
   | cons x3 cs=>cases cs with
    | nil=>cases h
    | cons x4 cs=>simp at h
theorem ig.same {H H':Hp} {p:Addr} (h:ig H p) (e:aL H H'):ig H' p:=by obtain ⟨q,a,b,c,cs,h1,h2,r⟩:=h;exact ⟨q,a,b,c,cs,e _ _ h1,e _ _ h2,r⟩
theorem cV.tup {H H':Hp} {p r:Addr} {xs:List V} (u:cV p H H') (B:ig H p) (h:H r=some (.tup xs)):H' r=some (.tup xs):=by
 obtain ⟨q,a,b,c,cs,h1,_⟩:=B;exact u.1 r _ h fun e=>by rw[e,h1] at h;cases h
theorem cV.other {H H':Hp} {p r:Addr} {o:HO} (u:cV p H H') (n:r≠p) (h:H r=some o):H' r=some o:=u.1 r _ h n
theorem ig.inner {H:Hp} {p:Addr} (h:ig H p):∃q,Inner H p q/\∃xs,H q=some (.lst xs):=by obtain ⟨q,a,b,c,cs,h1,h2,_⟩:=h;exact ⟨q,⟨a,b,c,h1⟩,_,h2⟩
theorem ig.upd {H:Hp} {p q r:Addr} {o:HO} (h:ig H p) (hi:Inner H p q) (n1:r≠p) (n2:r≠q):ig (L2.upd H r o) p:=by
 obtain ⟨q',a,b,c,cs,h1,h2,z⟩:=h;have e:q'=q:=Inner.inj ⟨a,b,c,h1⟩ hi;subst e;exact ⟨q',a,b,c,cs,by rw[bu n1.symm];exact h1,by rw[bu n2.symm];exact h2,z⟩
theorem Inner.upd {H:Hp} {p q r:Addr} {o:HO} (hi:Inner H p q) (n1:r≠p):Inner (L2.upd H r o) p q:=by obtain ⟨a,b,c,h⟩:=hi;exact ⟨a,b,c,by rw[bu n1.symm];exact h⟩
def KU:Sp:=fun vs H Q _=>∃p n,vs=[.ref p,.int n]/\ig H p/\0 < n/\n < 2^64/\∀v H',0<=v->v < n->ig H' p->cV p H H'->Q (.int v) H'
def Nc (K:PySem.W.Frag):Sp:=fun vs H Q _=>∃(a:Addr) (ns:List Int),vs=[.ref a]/\bV K H a (ns.map V.int)/\ns.length<=63/\∀p H',H p=none->ig H' p->aL H H'->Q (.ref p) H'
def BS (K:PySem.W.Frag):Sp:=fun vs H Q _=>∃(a:Addr) (ns:List Int),vs=[.ref a]/\bV K H a (ns.map V.int)/\ns.length<=63/\∀H',Q (.bl true) H'
def M8:Sp:=fun vs H Q _=>∃t b,vs=[.int t,.int b]/\0 < b/\Sz 8999 b/\∀r H',aL H H'->H' r=some (.tup [.int (lo t b),.int (hi t b)])->Q (.ref r) H'
def OW:Sp:=fun vs H Q _=>∃a b,vs=[.int a,.int b]/\Q (.int (g a b)) H
def GR:Sp:=fun vs H Q _=>∃t b,vs=[.int t,.int b]/\b≠0/\Sz 8999 b/\∀r H',aL H H'->H' r=some (.tup [.int (lo (if b < 0 then -t else t) (if b < 0 then -b else b)),.int (hi (if b < 0 then -t else t) (if b < 0 then -b else b))])->Q (.ref r) H'
def MK (a b c d:Int):Int:=a*d+c*b
def Kb (a b c d:Int):Int:=a*d - c*b
def Ka (a _b c _d:Int):Int:=a*c
def Fs (K:PySem.W.Frag) (f:Int->Int->Int->Int->Int):Sp:=fun vs H Q _=>∃p q a b c d,vs=[.ref p,.ref q]/\oI K H p [.int a,.int b]/\oI K H q [.int c,.int d]/\0 < b/\0 < d/\Sz 4000 a/\Sz 4000 b/\Sz 4000 c/\Sz 4000 d /\
 ∀r H',aL H H'->H' r=some (.tup [.int (lo (f a b c d) (b*d)),.int (hi (f a b c d) (b*d))])->Q (.ref r) H'
theorem b6 {α β:Type} {F:α->β->Prop}:∀{l1 l1':List α} {l2 l2':List β},Paired F l1 l2->Paired F l1' l2'->Paired F (l1++l1') (l2++l2')
 | _,_,_,_,.nil,h=>h
 | _,_,_,_,.cons r t,h=>.cons r (b6 t h)
theorem dw {h:Heap} {a b:Addr} {o u:Obj} (ha:h.get? a=some o) (hb:h.get? b=some u) (hc:o.cls≠u.cls):a≠b:=fun e=>by
 subst e;rw[ha] at hb;cases hb;exact hc rfl
theorem oo {a b:String} (h:a≠b):Value.type a≠Value.type b:=fun e=>h (by injection e)
theorem AZ {h:Heap} {z TI TO i1 i2 l1 l2:Addr} {f0 a b:Value} {k1 k2:Nat} {xs ys:Array Value} (hz:IsZip h z TI TO f0) (hTI:IsPair h TI (.ref i1) (.ref i2)) (hTO:IsPair h TO a b)
  (h1:h.IsListIter i1 l1 k1) (h2:h.IsListIter i2 l2 k2) (hl1:h.IsList l1 xs) (hl2:h.IsList l2 ys) (hT:TI≠TO) (hi:i1≠i2):ZipApart z TI TO i1 i2 l1 l2:=by
 obtain ⟨o1,g1,c1,_⟩:=h1;obtain ⟨o2,g2,c2,_⟩:=h2;obtain ⟨p1,q1,d1,_⟩:=hl1;obtain ⟨p2,q2,d2,_⟩:=hl2;refine ⟨dw hTI hz ?_,dw hTO hz ?_,dw g1 hz ?_,dw g2 hz ?_,hT,dw hTI g1 ?_,dw hTI g2 ?_,dw hTO g1 ?_,dw hTO g2 ?_,hi,dw q1 hz ?_,dw q1 hTO ?_,dw q1 g1 ?_,dw q1 g2 ?_,dw q2 hz ?_,dw q2 hTO ?_,dw q2 g1 ?_,dw q2 g2 ?_⟩
 all_goals first
  | (rw[d1];first | (rw[c1];exact oo (by decide)) | (rw[c2];exact oo (by decide)) | exact oo (by decide))
  | (rw[d2];first | (rw[c1];exact oo (by decide)) | (rw[c2];exact oo (by decide)) | exact oo (by decide))
  | (rw[c1];exact oo (by decide))
  | (rw[c2];exact oo (by decide))
  | exact oo (by decide)
def Oq (K : PySem.W.Frag) (l1 l2 : Addr) : It :=
  ⟨fun i H => ∃ xs ys x y, bV K H l1 xs /\ bV K H l2 ys /\ xs[i]? = some x /\ ys[i]? = some y,
   fun i H v H' => ∃ p x y, v = .ref p /\ H p = none /\ H' = upd H p (.tup [x, y]) /\ (∀ xs, bV K H l1 xs → xs[i]? = some x) /\ ∀ ys, bV K H l2 ys → ys[i]? = some y,
   fun i H => ∃ xs ys, bV K H l1 xs /\ bV K H l2 ys /\ (xs.length ≤ i \/ ys.length ≤ i)⟩
def tnZ (z TI TO i1 i2 l1 l2:Addr) (i:Nat) (h:Heap):Prop:=IsZip h z TI TO .none/\IsPair h TI (.ref i1) (.ref i2)/\(∃a b,IsPair h TO a b)/\h.IsListIter i1 l1 i/\h.IsListIter i2 l2 i
theorem Iy {P:Program} {w:World} {K:PySem.W.Frag} {elts:List Expr} {kk:Nat} {tpos:Pos} (z TI TO i1 i2 l1 l2:Addr) (hT:TI≠TO) (hi:i1≠i2):Turn P w K (.Tuple elts kk tpos) (Oq K l1 l2) [z,TI,TO,i1,i2] z (tnZ z TI TO i1 i2 l1 l2) where
 mem:=by simp
 obj:=fun i h st b hb=>by
  obtain ⟨hz,hTI,⟨a,c,hTO⟩,⟨o1,g1,c1,d1⟩,⟨o2,g2,c2,d2⟩⟩:=st;simp only[aG,aZ,or_false] at hb;rcases hb with rfl | rfl | rfl | rfl | rfl
  ·exact ⟨_,hz,fun v q=>nomatch q⟩
  ·exact ⟨_,hTI,fun v q=>nomatch q⟩
  ·exact ⟨_,hTO,fun v q=>nomatch q⟩
  ·exact ⟨o1,g1,fun v q=>by rw[d1] at q;cases q⟩
  ·exact ⟨o2,g2,fun v q=>by rw[d2] at q;cases q⟩
 keep:=fun i h h' st k=>by
  obtain ⟨hz,hTI,⟨a,c,hTO⟩,h1,h2⟩:=st;exact ⟨k z (by simp) _ hz,k TI (by simp) _ hTI,⟨a,c,k TO (by simp) _ hTO⟩,h1.at fun o e=>k i1 (by simp) o e,h2.at fun o e=>k i2 (by simp) o e⟩
 item:=by
  intro X hP hw hK hc i pins s σ H E I hf st hg;subst hP hw hK;obtain ⟨hz,hTI,⟨a,c,hTO⟩,h1,h2⟩:=st;obtain ⟨xs,ys,x,y,qx,qy,ex,ey⟩:=hg;obtain ⟨us,rx,px,_⟩:=I.list qx;obtain ⟨ws,ry,py,_⟩:=I.list qy;obtain ⟨u,eu,ru⟩:=rx.get ex;obtain ⟨v,ev,rv⟩:=ry.get ey;have D:=AZ hz hTI hTO h1 h2 px.isList py.isList hT hi;refine wpAny_pyNext_zip_item D hz hTI hTO h1 h2 px.isList py.isList (x:=u) (y:=v) (by simpa using eu) (by simpa using ev) fun h' a1 a2 a3 a4 a5 a6 hk=>?_
  refine ⟨_,rfl,wpAny_letOwnedTupleGo_zip a1 fun h'' hz'' hs=>?_⟩;have hT0:H s.heap.objs.size=none:=I.hok.fresh (av _);have zne:s.heap.objs.size≠z:=Gn (Heap.lt_size hz)
  have up:∀b o,b∉[z,TO,i1,i2]->s.heap.get? b=some o->h''.get? b=some o:=fun b o hb e=>by
   simp only[aG,aZ,or_false,not_or] at hb;exact (hs.2 b hb.1).trans (hk b o hb.1 hb.2.1 hb.2.2.1 hb.2.2.2 e)
  have fx:∀b∈[z,TO,i1,i2],kX X pins H b:=fun b hb=>hf b (by
   simp only[aG,aZ,or_false] at hb ⊢;rcases hb with rfl | rfl | rfl | rfl <;> simp)
  have nx:∀b o,H b=some o->b∉[z,TO,i1,i2]:=fun b o e hb=>by
   have:=(fx b hb).1;rw[this] at e;cases e
  have nT:∀{b:Addr} {o:HO},H b=some o->b≠s.heap.objs.size:=fun e q=>by rw[q,hT0] at e;cases e
  have tup:h''.get? s.heap.objs.size=some { cls:=.type "tuple",data:=.seq #[u,v] }:=(hs.2 _ zne).trans a5
  have I2:Inv X pins σ (upd H s.heap.objs.size (.tup [x,y])) { s with heap:=h'' }:=by
   refine I.step (g':=s.gens) (d':=s.drawn) (t':=s.toks) (ch:=[z,TO,i1,i2]) (fun b hb=>?_) (fun b o _ _ hb e _=>up b o hb e) (fun b o _ _ hb e _=>⟨o.slots,up b o hb e⟩) (fun b o hb e n=>?_)
    (fun b o hb e=>⟨o,up b o hb e⟩) (fun b q e=>by rw[bu (nT e)];exact e) (fun b o q e=>by rw[bu (nT e)];exact e) (fun b q e=>⟨#[],by rw[bu (nT e),e];simp⟩) (fun m hm=>?_) (fun b o e=>?_) I.bare
   ·obtain ⟨_,f1,_,f3,f4,f5⟩:=fx b hb;exact ⟨f3,f1,f4,f5⟩
   ·rw[bu (b7 (Heap.lt_size e))];exact n
   ·obtain ⟨o,es,ep,ho,r⟩:=hm;exact ⟨o,es,ep,up _ o (fun z=>(fx _ z).2.1 rfl) ho,r⟩
   ·by_cases hb:b=s.heap.objs.size
    ·subst hb;rw[aK] at e;cases e;exact ⟨jO rfl,[u,v],.cons ru (.cons rv .nil),⟨_,tup,rfl,_,rfl⟩⟩
    ·rw[bu hb] at e;refine (I.hok b o e).stay (fun c v' hc q=>up c v' ?_ q) (fun c q=>by rw[bu (nT q)];exact q) fun c xs q=>by rw[bu (nT q)];exact q
     rcases hc with rfl | hc
     ·exact nx _ _ e
     ·exact nx _ _ hc
  refine ⟨.ref s.heap.objs.size,_,I2,rfl,⟨_,x,y,rfl,hT0,rfl,fun xs' q=>by rw[I.list_inj q qx];exact ex,fun ys' q=>by rw[I.list_inj q qy];exact ey⟩,?_,fun b hb=>?_⟩
  ·refine ⟨hz'',(hs.2 _ D.TIz).trans (hk _ _ D.TIz D.TITO D.TIi1 D.TIi2 hTI),⟨_,_,(hs.2 _ D.TOz).trans a2⟩,a3.at fun o e=>(hs.2 _ D.i1z).trans e,a4.at fun o e=>(hs.2 _ D.i2z).trans e⟩
  ·obtain ⟨o,e,_⟩:∃o,s.heap.get? b=some o/\True:=by
    obtain ⟨o1,g1,_⟩:=h1;obtain ⟨o2,g2,_⟩:=h2;simp only[aG,aZ,or_false] at hb;rcases hb with rfl | rfl | rfl | rfl | rfl
    ·exact ⟨_,hz,trivial⟩
    ·exact ⟨_,hTI,trivial⟩
    ·exact ⟨_,hTO,trivial⟩
    ·exact ⟨_,g1,trivial⟩
    ·exact ⟨_,g2,trivial⟩
   rw[bu (b7 (Heap.lt_size e))];exact (hf b hb).1
 done:=by
  intro X hP hw hK hc i pins s σ H E I hf st hg;subst hP hw hK;obtain ⟨hz,hTI,⟨a,c,hTO⟩,h1,h2⟩:=st;obtain ⟨xs,ys,qx,qy,hend⟩:=hg;obtain ⟨us,rx,px,_⟩:=I.list qx;obtain ⟨ws,ry,py,_⟩:=I.list qy;have lx:=rx.length;have ly:=ry.length;have D:=AZ hz hTI hTO h1 h2 px.isList py.isList hT hi
  refine wpAny_pyNext_zip_end (I.ok.hd hc) D hz hTI hTO h1 h2 px.isList py.isList (by
   rcases hend with q | q
   ·exact .inl (by simp;lia)
   ·exact .inr (by simp;lia)) fun h' hk=>⟨rfl,?_⟩
  have up:∀b o,b∉[z,TO,i1,i2]->s.heap.get? b=some o->h'.get? b=some o:=fun b o hb e=>by
   simp only[aG,aZ,or_false,not_or] at hb;exact hk b o hb.1 hb.2.1 hb.2.2.1 hb.2.2.2 e
  have fx:∀b∈[z,TO,i1,i2],kX X pins H b:=fun b hb=>hf b (by
   simp only[aG,aZ,or_false] at hb ⊢;rcases hb with rfl | rfl | rfl | rfl <;> simp)
  have nx:∀b o,H b=some o->b∉[z,TO,i1,i2]:=fun b o e hb=>by
   have:=(fx b hb).1;rw[this] at e;cases e
  refine I.step (g':=s.gens) (d':=s.drawn) (t':=s.toks) (ch:=[z,TO,i1,i2]) (fun b hb=>?_) (fun b o _ _ hb e _=>up b o hb e) (fun b o _ _ hb e _=>⟨o.slots,up b o hb e⟩) (fun b o hb e n=>n)
   (fun b o hb e=>⟨o,up b o hb e⟩) (fun b q e=>e) (fun b o q e=>e) (fun b q e=>⟨#[],by rw[e];simp⟩) (fun m hm=>?_) (fun b o e=>?_) I.bare
  ·obtain ⟨_,f1,_,f3,f4,f5⟩:=fx b hb;exact ⟨f3,f1,f4,f5⟩
  ·obtain ⟨o,es,ep,ho,r⟩:=hm;exact ⟨o,es,ep,up _ o (fun z=>(fx _ z).2.1 rfl) ho,r⟩
  ·refine (I.hok b o e).stay (fun c v' hc q=>up c v' ?_ q) (fun c q=>q) fun c xs q=>q
   rcases hc with rfl | hc
   ·exact nx _ _ e
   ·exact nx _ _ hc
 self:=fun _ _ _ _ _ st h=>wpAny_pyIter_zip st.1 h
section
variable {X:Cx}
def N7 (K:PySem.W.Frag) (ta:TA):TI:=fun σ H R=>ta σ H fun vs H1=>∃l1 l2,vs=[.ref l1,.ref l2]/\(∃xs,bV K H1 l1 xs)/\(∃ys,bV K H1 l2 ys)/\R (Oq K l1 l2) H1
theorem uB {a b:Expr} {ta:TA} {p pos tpos:Pos} {elts:List Expr} {kk:Nat} (hg:Gl X "zip") (hm:X.mg "zip"=none) (ha:PA X [a,b] ta) (hs:starEach [a,b] X.env=[(false,eval a X.env),(false,eval b X.env)]:=by rfl) (hs2:starEach [b] X.env=[(false,eval b X.env)]:=by rfl) :
  PI X (.Tuple elts kk tpos) (.Call (.Name "zip" p) [a,b] [] pos) (N7 X.K ta):=by
 intro pins s σ H R I h;refine Call_ (kR I hg hm boot_zip (PyProof.Rows.callWith_type1 (fP (ha pos pins s σ H _ I h) fun us s1 ⟨vs,H1,I1,r1,q1⟩=>?_) (by rw[hs,hs2]) (by rw[hs2];rfl)));obtain ⟨l1,l2,e,⟨xs,qx⟩,⟨ys,qy⟩,q⟩:=q1;subst e;obtain ⟨u,v,rfl,ru,rv⟩:=vals2 r1;cases ru;cases rv;obtain ⟨us,rx,px,_⟩:=I1.list qx;obtain ⟨ws,ry,py,_⟩:=I1.list qy;refine call_zip_2 px.isList py.isList fun h' a1 a2 a3 a4 a5 a6 hk=>wpAny_pyIter_zip a1 ?_
 have I2:Inv X pins σ H1 { s1 with heap:=h' }:=I1.kept (t':=s1.toks) hk;refine ⟨_,[s1.heap.objs.size+4,s1.heap.objs.size+2,s1.heap.objs.size+3,s1.heap.objs.size,s1.heap.objs.size+1],_,_,H1,rfl,I2,Iy (s1.heap.objs.size+4) (s1.heap.objs.size+2) (s1.heap.objs.size+3) s1.heap.objs.size (s1.heap.objs.size+1) l1 l2 (b7 (iV _)) (b7 (iV _)),⟨a1,a2,⟨_,_,a3⟩,a4,a5⟩,fun b hb=>?_,q⟩
 have hb':s1.heap.objs.size<=b:=by
  simp only[aG,aZ,or_false] at hb;rcases hb with rfl | rfl | rfl | rfl | rfl <;> first | exact yH _ _ | exact av _
 exact I1.fpOk hb' (I1.hok.fresh hb')
theorem Au (hc:X.calm=true):vC X (.builtin "all") (fun xs H Q=>∃(p:Addr) (bs:List Bool),xs=[.ref p]/\bV X.K H p (bs.map V.bl)/\Q (.bl (bs.all id)) H):=by
 intro pins s σ H xs us Q I r h;obtain ⟨p,bs,rfl,hp,q⟩:=h;obtain ⟨u,rfl,ru⟩:=vals1 r;cases ru;obtain ⟨vs,rv,pl,hz⟩:=I.list hp
 have hb:PyProof.Rows.LSm.BoolsAre vs bs:=by
  clear q hp pl hz
  induction bs generalizing vs with
  | nil=>cases rv;exact .nil
  | cons b bs ih =>
   rw[hJ] at rv;cases rv with
   | cons r1 r2=>cases r1;exact .cons b (ih _ r2)
 have hlt:p < s.heap.objs.size:=by obtain ⟨_,e,_⟩:=pl.isList;exact Heap.lt_size e
 refine call_all_walk (wpAny_pyIter_list pl.isList ?_)
 refine ⟨s.heap.objs.size,[s.heap.objs.size,p],[s.heap.objs.size],vs.toArray.size,_,_,fun i=>(bs[i]?).getD true,rfl,Walks.list (A:=X.A.in1) (I.ok.hd hc) _ p (b7 hlt) vs.toArray,
  ⟨⟨_,Heap.get?_push_size _ rfl,rfl,rfl⟩,pl.isList.push _⟩,fun i v s' Q' E' hP hQ=>?_,fun h' tk hk=>?_⟩
 ·obtain ⟨b,e,rfl⟩:=hb.get i v (by simpa using hP);simp only[e,Option.getD_some] at hQ;exact wpAny_truthy_bool hQ
 ·have e:((List.range vs.toArray.size).all fun i=>(bs[i]?).getD true)=bs.all id:=by
   rw[aJ,hb.length];exact PyProof.Rows.LSm.range_all bs
  rw[e];exact ⟨.bl _,H,I.kept (t':=tk) (PyProof.Rows.LSm.kept_iter hk),rfl,q⟩
theorem Kp (hc:X.calm=true):vC X (.builtin "sum") (fun xs H Q=>∃(p:Addr) (ns:List Int),xs=[.ref p]/\bV X.K H p (ns.map V.int)/\Q (.int ns.sum) H):=by
 intro pins s σ H xs us Q I r h;obtain ⟨p,ns,rfl,hp,q⟩:=h;obtain ⟨u,rfl,ru⟩:=vals1 r;cases ru;obtain ⟨vs,rv,pl,_⟩:=I.list hp;have hi:IntsAre vs ns:=intsAre_of rv;obtain ⟨xs,hx⟩:=hi.allInts.items;have hl':s.heap.IsList p (intItems xs):=hx ▸ pl.isList;refine sum_intListG (I.ok.hd hc) hl' fun h' tk t' hk=>?_
 have e1:ns=xs.toList.map (·.1):=by
  rw[<- nums_intItems,<- hx];exact (show numsOf vs.toArray.toList=ns from hi.numsOf).symm
 have e2:preSum (numAt xs) xs.size=ns.sum:=by
  rw[preSum_eq,aI (by simp),e1]
 rw[e2];exact ⟨.int _,H,I.kept (t':=tk) hk,⟨_,rfl⟩,q⟩
end
section
variable {K:PySem.W.Frag} {l1 l2:Addr} {xs ws:List V} {g:TG} {tf:TT} {te:TE} {Q:VK} {σ₀:St} {H:Hp}
theorem tW (Pv:Nat->List V->Hp->Prop) (hz:xs.length<=sizeLine) (hw:ws.length=xs.length) (h0:Pv 0 [] H) (hl:∀i ys H,i<=xs.length->Pv i ys H->bV K H l1 xs/\bV K H l2 ws)
  (hs:∀i x y ys H p,xs[i]?=some x->ws[i]?=some y->ys.length<=i->Pv i ys H->H p=none->sU σ₀ g tf te (.ref p) (upd H p (.tup [x,y])) (fun y H'=>Pv (i+1) (ys++[y]) H') (fun H'=>Pv (i+1) ys H'))
  (hd:∀ys H,ys.length<=xs.length->Pv xs.length ys H->∀p,H p=none->Q (.ref p) (upd H p (.lst ys))):uw (Oq K l1 l2) σ₀ g tf te Q H:=by
 refine ⟨fun i m ys H=>m=xs.length - i/\i<=xs.length/\ys.length<=i/\Pv i ys H,⟨xs.length,by simp,aY _,aY _,h0⟩,?_⟩;rintro i m ys H ⟨rfl,hi,hy,p⟩;obtain ⟨q1,q2⟩:=hl i ys H hi p;by_cases hlt:i < xs.length
 ·refine .inr ⟨⟨xs,ws,xs[i],ws[i]'(by lia),q1,q2,by simp [hlt],by simp⟩,by lia,fun y H'=>Pv (i+1) (ys++[y]) H',fun H'=>Pv (i+1) ys H',fun y H' p'=>⟨xs.length - (i+1),by lia,rfl,hlt,by rw[aw,bI];lia,p'⟩,fun H' p'=>⟨xs.length - (i+1),by lia,rfl,hlt,by lia,p'⟩,fun x H' y=>?_⟩;obtain ⟨r,x',y',rfl,hr,rfl,e1,e2⟩:=y;exact hs i x' y' ys _ r (e1 xs q1) (e2 ws q2) hy p hr
 ·have e:i=xs.length:=by lia
  subst e;exact .inl ⟨⟨xs,ws,q1,q2,.inl (av _)⟩,by lia,hd ys H hy p⟩
theorem LU {tb:TS} {D:Ends} {σ:St} (Pv:Nat->St->Hp->Prop) (hw:ws.length=xs.length) (h0:Pv 0 σ H) (hl:∀i σ H,i<=xs.length->Pv i σ H->bV K H l1 xs/\bV K H l2 ws)
  (hs:∀i x y σ H p,xs[i]?=some x->ws[i]?=some y->Pv i σ H->H p=none->g (.ref p) σ (upd H p (.tup [x,y])) fun σ2 H2=>tb { D with nx:=Pv (i+1),ct:=Pv (i+1),bk:=D.nx } σ2 H2) (hd:∀σ H,Pv xs.length σ H->D.nx σ H) :
  ∃W:Nat->Nat->St->Hp->Prop,(∃m,W 0 m σ H)/\∀i m σ H,W i m σ H →
   ((Oq K l1 l2).stop i H/\D.nx σ H)\/((Oq K l1 l2).go i H/\∃N:St->Hp->Prop,(∀σ' H',N σ' H'->∃m',m' < m/\W (i+1) m' σ' H')/\∀x H',(Oq K l1 l2).yld i H x H'->g x σ H' fun σ2 H2=>tb { D with nx:=N,ct:=N,bk:=D.nx } σ2 H2):=by
 refine ⟨fun i m σ H=>m=xs.length - i/\i<=xs.length/\Pv i σ H,⟨xs.length,by simp,aY _,h0⟩,?_⟩;rintro i m σ H ⟨rfl,hi,p⟩;obtain ⟨q1,q2⟩:=hl i σ H hi p;by_cases hlt:i < xs.length
 ·refine .inr ⟨⟨xs,ws,xs[i],ws[i]'(by lia),q1,q2,by simp [hlt],by simp⟩,Pv (i+1),fun σ' H' p'=>⟨xs.length - (i+1),by lia,rfl,hlt,p'⟩,fun x H' y=>?_⟩;obtain ⟨r,x',y',rfl,hr,rfl,e1,e2⟩:=y;exact hs i x' y' σ _ r (e1 xs q1) (e2 ws q2) p hr
 ·have e:i=xs.length:=by lia
  subst e;exact .inl ⟨⟨xs,ws,q1,q2,.inl (av _)⟩,hd σ H p⟩
end
section
variable {X:Cx}
theorem uC (K:PySem.W.Frag) (n:Nat) {es:List Expr} {k:Nat} {pos:Pos} {t:KC} (h:PD X es t) (hK:X.K=K:=by rfl) (hc:X.calm=true:=by rfl)
  (hn:(assignEach es X.env).length=n:=by rfl) (hst:(assignEach es X.env).findIdx? (·.1)=none:=by rfl):PG X (.Tuple es k pos) (Oc K n t):=by subst hK;exact tu hc h hn hst
theorem Cs (K:PySem.W.Frag) (hK:X.K=K):PL X (NL K):=by subst hK;exact cO
theorem mN (K:PySem.W.Frag) (hK:X.K=K):PL X (NM K):=by subst hK;exact bZ
theorem Dv (K:PySem.W.Frag) {tg l:Expr} {tl:TE} (hl:PE X l tl) (hK:X.K=K:=by rfl):PI X tg l (JU K tl):=by subst hK;exact cZ hl
theorem Jb (K:PySem.W.Frag) (hK:X.K=K):Qq X (NK K):=by subst hK;exact BV
end
theorem eh {X:Cx} {e e':Expr} {es:List Expr} {te:TE} {t:TA} (h:e=e') (ha:PE X e' te) (hr:PA X es t) (hs:∀l,starEach (e' :: l) X.env=(false,eval e' X.env) :: starEach l X.env:=by intro _;rfl):PA X (e :: es) (sV te t):=by subst h;exact ae ha hr (hs _)
section
variable {σ:St} {H:Hp} {D:Ends} {Q:VK}
theorem jE {l:Addr} {xs:List V} {y:V} (hl:H l=some (.lst xs)) (hz:xs.length < sizeLine) (h:Q .non (upd H l (.lst (xs++[y])))):Fw (.ref l) [y] H Q:=⟨l,xs,y,rfl,rfl,hl,hz,h⟩
theorem Ln {K:PySem.W.Frag} {ta:TA} {R:It->Hp->Prop} (h:ta σ H fun vs H1=>∃l1 l2,vs=[.ref l1,.ref l2]/\(∃xs,bV K H1 l1 xs)/\(∃ys,bV K H1 l2 ys)/\R (Oq K l1 l2) H1):N7 K ta σ H R:=h
theorem tq {l b:Addr} {xs zs:List V} (h1:H l=some (.lst xs)) (h2:H b=some (.lst zs)) (hz:xs.length+zs.length<=sizeLine) (h:∀p H',aL H H'->H p=none->H' p=some (.lst (xs++zs))->Q (.ref p) H'):Pe (.ref l) (.ref b) H Q :=
 ⟨l,b,xs,zs,rfl,rfl,h1,h2,hz,fun p hp=>h p _ (aL.new hp) hp aK⟩
theorem Nq {K:PySem.W.Frag} {a:Addr} {xs:List V} {lo hi:Option Int} (h1:bV K H a xs) (h:∀p H',aL H H'->H p=none->H' p=some (.lst (uY xs lo hi))->Q (.ref p) H'):NK K (.ref a) lo hi H Q :=
 ⟨a,xs,rfl,h1,fun p hp=>h p _ (aL.new hp) hp aK⟩
theorem qQ {α:Type} {xs:List α} {i:Int} (h0:0<=i) (h1:i < xs.length):∃v,E6 xs i=some v/\v∈xs/\xs[i.toNat]?=some v:=by
 have hj:i.toNat < xs.length:=by lia
 refine ⟨xs[i.toNat],?_,aT hj,by simp [hj]⟩;have:=gN (xs:=xs) (j:=i.toNat) (v:=xs[i.toNat]) (by simp [hj]);rwa [Int.toNat_of_nonneg h0] at this
end
inductive Kn (H:Hp):V->Prop where
 | non:Kn H .non
 | bl (b:Bool):Kn H (.bl b)
 | int (i:Int):Kn H (.int i)
 | str (x:Str):Kn H (.str x)
 | lst {a:Addr} {xs:List V} (e:H a=some (.lst xs)):Kn H (.ref a)
 | tup {a:Addr} {xs:List V} (e:H a=some (.tup xs)):Kn H (.ref a)
 | dic {a:Addr} {kvs:List (Key×V)} (e:H a=some (.dK kvs)):Kn H (.ref a)
def tyB (T:String) (x:V) (H:Hp):Bool:=match x with
 | .int _=>T == "int"
 | .bl _=>T == "int" || T == "bool"
 | .ref a=>(match H a with
  | some (.lst _)=>T == "list"
  | some (.tup _)=>T == "tuple"
  | _=>false)
 | _=>false
def OkT (T:String):Prop:=T="int"\/T="bool"\/T="list"\/T="tuple"
theorem Ji {K:PySem.W.Frag} {H:Hp} {Q:VK} {x:V} {T:String} (h:Kn H x) (hT:OkT T) (q:Q (.bl (tyB T x H)) H):EE K T x H Q:=by
 cases h with
 | non=>rcases hT with rfl | rfl | rfl | rfl <;> exact ⟨_,_,.non,rfl,q⟩
 | bl b=>rcases hT with rfl | rfl | rfl | rfl <;> exact ⟨_,_,.bl b,rfl,q⟩
 | int i=>rcases hT with rfl | rfl | rfl | rfl <;> exact ⟨_,_,.int i,rfl,q⟩
 | str x=>rcases hT with rfl | rfl | rfl | rfl <;> exact ⟨_,_,.str x,rfl,q⟩
 | lst e =>
  simp only[tyB,e] at q;rcases hT with rfl | rfl | rfl | rfl <;> exact ⟨_,_,.lst e,rfl,q⟩
 | tup e =>
  simp only[tyB,e] at q;rcases hT with rfl | rfl | rfl | rfl <;> exact ⟨_,_,.tup e,rfl,q⟩
 | dic e =>
  simp only[tyB,e] at q;rcases hT with rfl | rfl | rfl | rfl <;> exact ⟨_,_,.dK e,rfl,q⟩
theorem dF {α β:Type} {F:α->β->Prop}:∀{l1:List α} {l2:List β} {y:β},Paired F l1 l2->y∈l2->∃x∈l1,F x y
 | _,_,_,.nil,h=>nomatch h
 | _,_,_,.cons r t,h=>by
  rcases aG.mp h with rfl | h
  ·exact ⟨_,dk,r⟩
  ·obtain ⟨x,hx,q⟩:=dF t h;exact ⟨x,bP _ hx,q⟩
theorem cH {α β:Type} {F:α->β->Prop} {l1:List α} {l2:List β} {i:Nat} {y:β} (h:Paired F l1 l2) (e:l2[i]?=some y):∃x,l1[i]?=some x/\F x y:=by
 have hl:=h.length;have hi:i < l2.length:=(aH.mp e).1;refine ⟨l1[i]'(by lia),by simp,?_⟩;have:=kN h (i:=i) (by lia) hi;have e2:l2[i]=y:=(aH.mp e).2;rwa [e2] at this
def yC (n:Int×Int):Prop:=0 < n.2/\Int.gcd n.1 n.2=1/\Sz 8000 n.1/\Sz 8000 n.2
theorem take_snoc {α:Type} {l:List α} {i:Nat} {v:α} (h:l[i]?=some v):l.take (i+1)=l.take i++[v]:=by rw[List.take_add_one,h];rfl
theorem aL.after {H H':Hp} {r:Addr} {o:HO} (s:aL H H') (h:H r=Option.none):aL H (upd H' r o):=fun b u e=>by rw[bu (fj e h)];exact s b u e
theorem cV.after {H H':Hp} {b r:Addr} {o:HO} (s:cV b H H') (h:H r=Option.none):cV b H (upd H' r o):=⟨fun c u e n=>by rw[bu (fj e h)];exact s.1 c u e n,fun q hi=>(s.2 q hi).upd fun z=>by obtain ⟨_,_,_,e⟩:=hi;rw[<- z,h] at e;cases e⟩
theorem cV.same {H H' H'':Hp} {b:Addr} (s:cV b H H') (e:aL H' H''):cV b H H'':=s.trans e.upto
theorem CN {α:Type} {Pr:α->Prop} {l:List α} {a:α} (h:∀n∈l,Pr n) (ha:Pr a):∀n∈l++[a],Pr n:=fun n hn=>by
 rcases ax.mp hn with hn | hn
 ·exact h n hn
 ·have e:n=a:=by simpa using hn
  rw[e];exact ha
abbrev Az (h:Heap) (z TI TO:Addr) (f0 f1:Value):Prop:=h.get? z=some { cls:=.type "zip",dict:=none,data:=.fields #[f0,f1,.bool false,.ref TI,.ref TO],slots:=#[] }
section
variable {prog:Program} {w:World} {A:Around} {E:Value->Shared->Prop} {s:Shared}
theorem E7 {a:Addr} {o:Obj} {Q:Option Obj->Shared->Prop} (e:s.heap.get? a=some o) (h:Q (some o) s):wpAny (model prog w) A (loadIfAlive a) Q E s:=by
 intro Γ p hp;show Sem.wp _ _ (.loadIfAlive a .pure) _ _ _ _
 simp only[Sem.wp_loadIfAlive,e];exact wpAny_pure h Γ p hp
theorem zU {z TI TO T:Addr} {b1:Bool} {o:Obj} {Q:Bool->Shared->Prop} (zr:Az s.heap z TI TO (rawInt T) (.bool b1)) (al:s.heap.get? T=some o)
  (h:∀h',Az h' z TI TO (rawInt T) (.bool true)->Heap.SameBut z s.heap h'->Q false { s with heap:=h' }):wpAny (model prog w) A (Builtin.SmallTypes.ownedTupleIsFree (.ref z)) Q E s:=by
 unfold Builtin.SmallTypes.ownedTupleIsFree;refine wpAny_bind (wpAny_field zr rfl (x:=rawInt T) rfl ?_);refine wpAny_bind (E7 (a:=T) al ?_);refine wpAny_bind (wpAny_field zr rfl (x:=.bool b1) rfl ?_);cases b1 with
 | true=>exact wpAny_pure (h _ zr (.refl ..))
 | false=>exact wpAny_bind (wpAny_setField_rec zr (by simp) fun h' zr' sb=>wpAny_pure (h h' zr' sb))
theorem HM {z TI TO T i1 i2 l1 l2:Addr} {k1 k2:Nat} {us ws:Array Value} {u v:Value} {b1:Bool} {o:Obj} {Q:Value->Shared->Prop} (D:ZipApart z TI TO i1 i2 l1 l2) (zr:Az s.heap z TI TO (rawInt T) (.bool b1)) (al:s.heap.get? T=some o)
  (pt:IsPair s.heap TI (.ref i1) (.ref i2)) (j1:s.heap.IsListIter i1 l1 k1) (j2:s.heap.IsListIter i2 l2 k2) (m1:s.heap.IsList l1 us) (m2:s.heap.IsList l2 ws) (eu:us[k1]?=some u) (ev:ws[k2]?=some v)
  (hQ:∀h',Az h' z TI TO (rawInt T) (.bool true)->h'.IsListIter i1 l1 (k1+1)->h'.IsListIter i2 l2 (k2+1)->IsPair h' s.heap.objs.size u v->(∀c o,c≠z->c≠i1->c≠i2->s.heap.get? c=some o->h'.get? c=some o)->Q (.ref s.heap.objs.size) { s with heap:=h' }) :
  wpAny (model prog w) A (Builtin.«zip.__next__» ⟨[.ref z],[]⟩) (fun fin s'=>∃v,fin=.done (.ret v)/\Q v s') E s:=by
 change wpAny _ _ (field (Value.ref z) 2 >>= _) _ _ s
 refine wpAny_bind (wpAny_field zr rfl (x:=.bool false) rfl ?_)
 change wpAny _ _ (field (Value.ref z) 3 >>= _) _ _ s
 refine wpAny_bind (wpAny_field zr rfl (x:=.ref TI) rfl (wpAny_bind (wpAny_seqItems pt rfl ?_)))
 change wpAny _ _ (Builtin.SmallTypes.ownedTupleIsFree (Value.ref z) >>= _) _ _ s
 refine wpAny_bind (zU zr al fun g1 zr1 sb1=>?_);simp only[jl,if_false];refine wpAny_bind ?_;rw[<- Array.forIn_toList];simp only[KG,BI];have j1':=j1.extBut sb1.extBut D.i1z;have m1':=m1.extBut sb1.extBut D.l1z;refine wpAny_bind (wpAny_bind (wpAny_holding ?_))
 change wpAny _ _ (Builtin.SmallTypes.nextOf (Value.ref i1) >>= _) _ _ _
 refine wpAny_bind (wpAny_nextOf_list_item j1' m1' eu fun g2 j1a sb2=>wpAny_pure ?_);refine wpAny_pure ?_;have j2':=(j2.extBut sb1.extBut D.i2z).extBut sb2.extBut D.i12.symm;have m2':=(m2.extBut sb1.extBut D.l2z).extBut sb2.extBut D.l2i1;refine wpAny_bind (wpAny_bind (wpAny_holding ?_))
 change wpAny _ _ (Builtin.SmallTypes.nextOf (Value.ref i2) >>= _) _ _ _
 refine wpAny_bind (wpAny_nextOf_list_item j2' m2' ev fun g3 j2a sb3=>wpAny_pure ?_);refine wpAny_pure (wpAny_pure ?_);refine wpAny_bind (wpAny_newTuple (hsz:=jO rfl) ?_);have sz:g3.objs.size=s.heap.objs.size:=by rw[sb3.1,sb2.1,sb1.1]
 have up:∀c o,c≠z->c≠i1->c≠i2->s.heap.get? c=some o->g3.get? c=some o:=fun c o c1 c2 c3 e=>sb3.extBut _ _ c3 (sb2.extBut _ _ c2 (sb1.extBut _ _ c1 e))
 have zr3:Az g3 z TI TO (rawInt T) (.bool true):=sb3.extBut _ _ D.i2z.symm (sb2.extBut _ _ D.i1z.symm zr1);refine wpAny_pure ⟨_,rfl,?_⟩
 change Q (.ref g3.objs.size) { s with heap:=g3.push { cls:=.type "tuple",data:=.seq #[u,v] } }
 have last:=hQ (g3.push { cls:=.type "tuple",data:=.seq #[u,v] }) (Heap.get?_push_of_some _ zr3) ((j1a.extBut sb3.extBut D.i12).at fun o e=>Heap.get?_push_of_some _ e) (j2a.at fun o e=>Heap.get?_push_of_some _ e)
  (by rw[<- sz];exact Heap.get?_push_size _ rfl) fun c o c1 c2 c3 e=>Heap.get?_push_of_some _ (up c o c1 c2 c3 e)
 rw[sz];exact last
theorem JE {z TI TO T i1 i2 l1 l2:Addr} {k1:Nat} {us:Array Value} {b1:Bool} {o:Obj} {Q:PySem.Fin->Shared->Prop} (hh:A.handled=none) (D:ZipApart z TI TO i1 i2 l1 l2) (zr:Az s.heap z TI TO (rawInt T) (.bool b1)) (al:s.heap.get? T=some o)
  (pt:IsPair s.heap TI (.ref i1) (.ref i2)) (j1:s.heap.IsListIter i1 l1 k1) (m1:s.heap.IsList l1 us) (eu:us[k1]?=none)
  (hE:∀h' e,(∀c o,c≠z->c≠i1->c≠i2->s.heap.get? c=some o->h'.get? c=some o)->(∃o,h'.get? e=some o/\o.cls=.type "StopIteration")->E (.ref e) { s with heap:=h' }) :
  wpAny (model prog w) A (Builtin.«zip.__next__» ⟨[.ref z],[]⟩) Q E s:=by
 change wpAny _ _ (field (Value.ref z) 2 >>= _) _ _ s
 refine wpAny_bind (wpAny_field zr rfl (x:=.bool false) rfl ?_)
 change wpAny _ _ (field (Value.ref z) 3 >>= _) _ _ s
 refine wpAny_bind (wpAny_field zr rfl (x:=.ref TI) rfl (wpAny_bind (wpAny_seqItems pt rfl ?_)))
 change wpAny _ _ (Builtin.SmallTypes.ownedTupleIsFree (Value.ref z) >>= _) _ _ s
 refine wpAny_bind (zU zr al fun g1 zr1 sb1=>?_);simp only[jl,if_false];refine wpAny_bind ?_;rw[<- Array.forIn_toList];simp only[KG,BI];refine wpAny_bind (wpAny_bind (wpAny_holding ?_))
 change wpAny _ _ (Builtin.SmallTypes.nextOf (Value.ref i1) >>= _) _ _ _
 exact wpAny_bind (wpAny_nextOf_list_end hh (j1.extBut sb1.extBut D.i1z) (m1.extBut sb1.extBut D.l1z) eu fun g2 e xb he=>hE g2 e (fun c o c1 c2 _ q=>xb _ _ c2 (sb1.extBut _ _ c1 q)) he)
theorem HJ {z TI TO T i1 i2 l1 l2:Addr} {k1 k2:Nat} {us ws:Array Value} {u v:Value} {b1:Bool} {o:Obj} {Q:Option Value->Shared->Prop} (D:ZipApart z TI TO i1 i2 l1 l2) (zr:Az s.heap z TI TO (rawInt T) (.bool b1)) (al:s.heap.get? T=some o)
  (pt:IsPair s.heap TI (.ref i1) (.ref i2)) (j1:s.heap.IsListIter i1 l1 k1) (j2:s.heap.IsListIter i2 l2 k2) (m1:s.heap.IsList l1 us) (m2:s.heap.IsList l2 ws) (eu:us[k1]?=some u) (ev:ws[k2]?=some v)
  (hQ:∀h',Az h' z TI TO (rawInt T) (.bool true)->h'.IsListIter i1 l1 (k1+1)->h'.IsListIter i2 l2 (k2+1)->IsPair h' s.heap.objs.size u v->(∀c o,c≠z->c≠i1->c≠i2->s.heap.get? c=some o->h'.get? c=some o)->Q (some (.ref s.heap.objs.size)) { s with heap:=h' }) :
  wpAny (model prog w) A (pyNext (.ref z)) Q E s:=by
 have ty:s.TypeIs (.ref z) "zip":=⟨_,zr,rfl⟩;unfold pyNext;refine wpAny_bind (wpAny_attempt (wpAny_callSpecial?_slot (name:=Str.ofString "__next__") ty qS (wpAny_call_entry qS ty PySem.F.entry_zip_next ?_ (PR _))));exact HM D zr al pt j1 j2 m1 m2 eu ev fun h' a1 a2 a3 a4 a5=>wpAny_pure (hQ h' a1 a2 a3 a4 a5)
theorem HI {z TI TO T i1 i2 l1 l2:Addr} {k1:Nat} {us:Array Value} {b1:Bool} {o:Obj} {Q:Option Value->Shared->Prop} (hh:A.handled=none) (D:ZipApart z TI TO i1 i2 l1 l2) (zr:Az s.heap z TI TO (rawInt T) (.bool b1)) (al:s.heap.get? T=some o)
  (pt:IsPair s.heap TI (.ref i1) (.ref i2)) (j1:s.heap.IsListIter i1 l1 k1) (m1:s.heap.IsList l1 us) (eu:us[k1]?=none)
  (hQ:∀h',(∀c o,c≠z->c≠i1->c≠i2->s.heap.get? c=some o->h'.get? c=some o)->Q none { s with heap:=h' }):wpAny (model prog w) A (pyNext (.ref z)) Q E s:=by
 have ty:s.TypeIs (.ref z) "zip":=⟨_,zr,rfl⟩;unfold pyNext;refine wpAny_bind (wpAny_attempt (wpAny_callSpecial?_slot (name:=Str.ofString "__next__") ty qS (wpAny_call_entry qS ty PySem.F.entry_zip_next ?_ (PR _))));refine JE hh D zr al pt j1 m1 eu fun h' e kk ⟨oe,he,hc⟩=>?_
 exact wpAny_bind (wpAny_isInstance (T:="StopIteration") (b:=true) ⟨oe,he,hc⟩ isSubtype_stop (wpAny_pure (hQ _ kk)))
end
section
variable {X:Cx} {pins:List (Addr×Obj)} {σ:St} {H:Hp} {s:Shared}
theorem Inv.moved {h':Heap} {ch:List Addr} {g':Array GenState} {d':Drawn} {t':Nat} (I:Inv X pins σ H s) (fx:∀b∈ch,kX X pins H b) (up:∀b o,b∉ch->s.heap.get? b=some o->h'.get? b=some o) (hg:AllBare g') :
  Inv X pins σ H { s with heap:=h',gens:=g',drawn:=d',toks:=t' }:=by
 have nx:∀b o,H b=some o->b∉ch:=fun b o e hb=>by have:=(fx b hb).1;rw[this] at e;cases e
 refine I.step (ch:=ch) (fun b hb=>?_) (fun b o _ _ hb e _=>up b o hb e) (fun b o _ _ hb e _=>⟨o.slots,up b o hb e⟩) (fun b o hb e n=>n) (fun b o hb e=>⟨o,up b o hb e⟩) (fun b q e=>e) (fun b o q e=>e) (fun b q e=>⟨#[],by rw[e];simp⟩) (fun m hm=>?_) (fun b o e=>?_) hg
 ·obtain ⟨_,f1,_,f3,f4,f5⟩:=fx b hb;exact ⟨f3,f1,f4,f5⟩
 ·obtain ⟨o,es,ep,ho,r⟩:=hm;exact ⟨o,es,ep,up _ o (fun z=>(fx _ z).2.1 rfl) ho,r⟩
 ·refine (I.hok b o e).stay (fun c v' hc q=>up c v' ?_ q) (fun c q=>q) fun c xs q=>q
  rcases hc with rfl | hc
  ·exact nx _ _ e
  ·exact nx _ _ hc
theorem Inv.track {p:Addr} {o:HO} (I:Inv X pins σ H s) (fp:kX X pins H p) (new:jK X.prog X.w (upd H p o) s.heap p o):Inv X pins σ (upd H p o) s:=by
 have nt:∀{b:Addr} {u:HO},H b=some u->b≠p:=fun e z=>by rw[z,fp.1] at e;cases e
 refine I.step (h':=s.heap) (g':=s.gens) (d':=s.drawn) (t':=s.toks) (ch:=[p]) (fun b hb=>?_) (fun b o _ _ _ e _=>e) (fun b o _ _ _ e _=>⟨o.slots,e⟩) (fun b o hb e n=>?_) (fun b o _ e=>⟨o,e⟩) (fun b q e=>by rw[bu (nt e)];exact e) (fun b o q e=>by rw[bu (nt e)];exact e)
  (fun b q e=>⟨#[],by rw[bu (nt e),e];simp⟩) (fun m hm=>hm) (fun b u e=>?_) I.bare
 ·have e:b=p:=by simpa using hb
  subst e;obtain ⟨_,f1,_,f3,f4,f5⟩:=fp;exact ⟨f3,f1,f4,f5⟩
 ·rw[bu fun z=>hb (by simp [z])];exact n
 ·by_cases hb:b=p
  ·subst hb;rw[aK] at e;cases e;exact new
  ·rw[bu hb] at e;exact (I.hok b u e).stay (fun c v _ q=>q) (fun c q=>by rw[bu (nt q)];exact q) fun c xs q=>by rw[bu (nt q)];exact q
end
def MO (H:Hp) (p:V×V) (x:V):Prop:=∃T,x=.ref T/\H T=some (.tup [p.1,p.2])
theorem MO.same {H H':Hp} {p:V×V} {x:V} (h:MO H p x) (e:aL H H'):MO H' p x:=by obtain ⟨T,q,g⟩:=h;exact ⟨T,q,e _ _ g⟩
def Zst (h:Heap) (z TI TO:Addr) (base:Nat):Prop:=(∃a b,IsPair h TO a b)/\(IsZip h z TI TO .none\/∃(T:Addr) (b1:Bool) (o:Obj),Az h z TI TO (rawInt T) (.bool b1)/\h.get? T=some o/\@LE.le Nat instLENat base T)
theorem BJ {h:Heap} {z TI TO i1 i2 l1 l2:Addr} {f0 f1 a b:Value} {k1 k2:Nat} {xs ys:Array Value} (hz:Az h z TI TO f0 f1) (hTI:IsPair h TI (.ref i1) (.ref i2)) (hTO:IsPair h TO a b) (h1:h.IsListIter i1 l1 k1) (h2:h.IsListIter i2 l2 k2) (hl1:h.IsList l1 xs) (hl2:h.IsList l2 ys) (hT:TI≠TO) (hi:i1≠i2):ZipApart z TI TO i1 i2 l1 l2:=by
 obtain ⟨o1,g1,c1,_⟩:=h1;obtain ⟨o2,g2,c2,_⟩:=h2;obtain ⟨p1,q1,d1,_⟩:=hl1;obtain ⟨p2,q2,d2,_⟩:=hl2;have zt:Value.type "zip"≠.type "tuple":=oo (by decide);have it:Value.type "list_iterator"≠.type "tuple":=oo (by decide);have iz:Value.type "list_iterator"≠.type "zip":=oo (by decide);have lz:Value.type "list"≠.type "zip":=oo (by decide);have lt:Value.type "list"≠.type "tuple":=oo (by decide);have li:Value.type "list"≠.type "list_iterator":=oo (by decide)
 exact ⟨dw hTI hz zt.symm,dw hTO hz zt.symm,dw g1 hz (by rw[c1];exact iz),dw g2 hz (by rw[c2];exact iz),hT,dw hTI g1 (by rw[c1];exact it.symm),dw hTI g2 (by rw[c2];exact it.symm),dw hTO g1 (by rw[c1];exact it.symm),dw hTO g2 (by rw[c2];exact it.symm),hi,
  dw q1 hz (by rw[d1];exact lz),dw q1 hTO (by rw[d1];exact lt),dw q1 g1 (by rw[d1,c1];exact li),dw q1 g2 (by rw[d1,c2];exact li),dw q2 hz (by rw[d2];exact lz),dw q2 hTO (by rw[d2];exact lt),dw q2 g1 (by rw[d2,c1];exact li),dw q2 g2 (by rw[d2,c2];exact li)⟩
section
variable {X:Cx} {pins:List (Addr×Obj)} {σ:St}
theorem kX.heap {H H':Hp} {b:Addr} (f:kX X pins H b) (e:H' b=none):kX X pins H' b:=⟨e,f.2⟩
structure CW where
 z:Addr
 TI:Addr
 TO:Addr
 i1:Addr
 i2:Addr
 S:Addr
 base:Nat
def CW.all (a:CW):List Addr:=[a.z,a.TI,a.TO,a.i1,a.i2,a.S]
structure CW.Ok (a:CW):Prop where
 tt:a.TI≠a.TO
 ii:a.i1≠a.i2
 Sz:a.S≠a.z
 STI:a.S≠a.TI
 STO:a.S≠a.TO
 Si1:a.S≠a.i1
 Si2:a.S≠a.i2
 lt:∀b∈a.all,@LT.lt Nat instLTNat b a.base
structure Md (X:Cx) (pins:List (Addr×Obj)) (σ:St) (H1:Hp) (a:CW) (l1 l2:Addr) (i:Nat) (H:Hp) (s:Shared):Prop where
 inv:Inv X pins σ H s
 same:aL H1 H
 fps:∀b∈a.all,kX X pins H b
 sz:a.base<=s.heap.objs.size
 zst:Zst s.heap a.z a.TI a.TO a.base
 pt:IsPair s.heap a.TI (.ref a.i1) (.ref a.i2)
 j1:s.heap.IsListIter a.i1 l1 i
 j2:s.heap.IsListIter a.i2 l2 i
variable {a:CW} {l1 l2:Addr} {H1 H:Hp} {s:Shared} {i:Nat} {xs ys:List V}
theorem Md.push {h':Heap} (L:Md X pins σ H1 a l1 l2 i H s) (O:a.Ok) (k:∀b o,b≠a.S->s.heap.get? b=some o->h'.get? b=some o) (hz:h'.objs.size=s.heap.objs.size):Md X pins σ H1 a l1 l2 i H { s with heap:=h' }:=by
 refine ⟨L.inv.moved (g':=s.gens) (d':=s.drawn) (t':=s.toks) (ch:=[a.S]) (fun b hb=>?_) (fun b o hb e=>k b o (fun z=>hb (by simp [z])) e) L.inv.bare,L.same,L.fps,by show a.base<=h'.objs.size;rw[hz];exact L.sz,?_,k _ _ O.STI.symm L.pt,L.j1.at fun o e=>k _ o O.Si1.symm e,L.j2.at fun o e=>k _ o O.Si2.symm e⟩
 ·have e:b=a.S:=by simpa using hb
  rw[e];exact L.fps _ (by simp [CW.all])
 ·obtain ⟨⟨c,d,z0⟩,z4⟩:=L.zst;refine ⟨⟨c,d,k _ _ O.STO.symm z0⟩,?_⟩;rcases z4 with z1 | ⟨T,b1,o,z1,z2,z3⟩
  ·exact .inl (k _ _ O.Sz.symm z1)
  ·refine .inr ⟨T,b1,o,k _ _ O.Sz.symm z1,k _ _ (fun e=>?_) z2,z3⟩;have:=O.lt a.S (by simp [CW.all]);rw[<- e] at this;exact absurd this (Nat.not_lt.mpr z3)
theorem Iq {A':Around} {E:Value->Shared->Prop} {Q:Option Value->Shared->Prop} (O:a.Ok) (q1:bV X.K H1 l1 xs) (q2:bV X.K H1 l2 ys) {x y:V} (ex:xs[i]?=some x) (ey:ys[i]?=some y) (L:Md X pins σ H1 a l1 l2 i H s)
  (hQ:∀s',Md X pins σ H1 a l1 l2 (i+1) (upd H s.heap.objs.size (.tup [x,y])) s'->(∀c o,c∉[a.z,a.TO,a.i1,a.i2]->s.heap.get? c=some o->s'.heap.get? c=some o)->H s.heap.objs.size=none->Q (some (.ref s.heap.objs.size)) s'):wpAny (model X.prog X.w) A' (pyNext (.ref a.z)) Q E s:=by
 obtain ⟨I,sm,fps,sz,zst,pt,j1,j2⟩:=id L;obtain ⟨us,ru,pu,_⟩:=I.list (sm.seq q1);obtain ⟨ws,rw',pw,_⟩:=I.list (sm.seq q2);obtain ⟨u,eu,r1⟩:=ru.get ex;obtain ⟨v,ev,r2⟩:=rw'.get ey;have fx:∀b∈[a.z,a.TO,a.i1,a.i2],kX X pins H b:=fun b hb=>fps b (by simp only[CW.all,aG,aZ,or_false] at hb ⊢;rcases hb with e | e | e | e <;> simp [e])
 have hT0:H s.heap.objs.size=none:=I.hok.fresh (av _);have fT:kX X pins H s.heap.objs.size:=I.fpOk (av _) hT0;have lt:∀b∈a.all,b≠s.heap.objs.size:=fun b hb e=>by have:=O.lt b hb;rw[e] at this;exact absurd this (Nat.not_lt.mpr sz)
 have fin:∀h',(∀c o,c∉[a.z,a.TO,a.i1,a.i2]->s.heap.get? c=some o->h'.get? c=some o)->IsPair h' s.heap.objs.size u v->IsPair h' a.TI (.ref a.i1) (.ref a.i2)->h'.IsListIter a.i1 l1 (i+1)->h'.IsListIter a.i2 l2 (i+1)->Zst h' a.z a.TI a.TO a.base →
   Q (some (.ref s.heap.objs.size)) { s with heap:=h' }:=fun h' up pr pt' j1' j2' zst'=>by
  have I2:Inv X pins σ H { s with heap:=h' }:=I.moved (g':=s.gens) (d':=s.drawn) (t':=s.toks) fx up I.bare;have I3:Inv X pins σ (upd H s.heap.objs.size (.tup [x,y])) { s with heap:=h' }:=I2.track fT ⟨jO rfl,[u,v],.cons r1 (.cons r2 .nil),⟨_,pr,rfl,_,rfl⟩⟩;refine hQ _ ⟨I3,sm.trans (aL.new hT0),fun b hb=>(fps b hb).heap (by rw[bu (lt b hb)];exact (fps b hb).1),?_,zst',pt',j1',j2'⟩ up hT0;exact ah sz (bp (Heap.lt_size pr))
 obtain ⟨⟨c,d,z0⟩,z4⟩:=zst;rcases z4 with z1 | ⟨T,b1,o,z1,z2,z3⟩
 ·have D:=BJ z1 pt z0 j1 j2 pu.isList pw.isList O.tt O.ii;refine wpAny_pyNext_zip_item D z1 pt z0 j1 j2 pu.isList pw.isList (x:=u) (y:=v) (by simpa using eu) (by simpa using ev) fun h' a1 a2 a3 a4 a5 a6 hk=>?_
  have up:∀c o,c∉[a.z,a.TO,a.i1,a.i2]->s.heap.get? c=some o->h'.get? c=some o:=fun c o hc e=>by
   simp only[aG,aZ,or_false,not_or] at hc;exact hk c o hc.1 hc.2.1 hc.2.2.1 hc.2.2.2 e
  exact fin h' up a5 (hk _ _ D.TIz D.TITO D.TIi1 D.TIi2 pt) a3 a4 ⟨⟨_,_,a2⟩,.inr ⟨s.heap.objs.size,false,_,a1,a5,sz⟩⟩
 ·have D:=BJ z1 pt z0 j1 j2 pu.isList pw.isList O.tt O.ii;refine HJ D z1 z2 pt j1 j2 pu.isList pw.isList (u:=u) (v:=v) (by simpa using eu) (by simpa using ev) fun h' a1 a3 a4 a5 hk=>?_
  have up:∀c o,c∉[a.z,a.TO,a.i1,a.i2]->s.heap.get? c=some o->h'.get? c=some o:=fun c o hc e=>by
   simp only[aG,aZ,or_false,not_or] at hc;exact hk c o hc.1 hc.2.2.1 hc.2.2.2 e
  have Tn:∀b∈a.all,T≠b:=fun b hb e=>by have:=O.lt b hb;rw[<- e] at this;exact absurd this (Nat.not_lt.mpr z3)
  exact fin h' up a5 (hk _ _ D.TIz D.TIi1 D.TIi2 pt) a3 a4 ⟨⟨_,_,hk _ _ D.TOz D.TOi1 D.TOi2 z0⟩,.inr ⟨T,true,o,a1,hk _ _ (Tn _ (by simp [CW.all])) (Tn _ (by simp [CW.all])) (Tn _ (by simp [CW.all])) z2,z3⟩⟩
theorem Ip {A':Around} {E:Value->Shared->Prop} {Q:Option Value->Shared->Prop} (hh:A'.handled=none) (O:a.Ok) (q1:bV X.K H1 l1 xs) (q2:bV X.K H1 l2 ys) (hi:xs.length<=i) (L:Md X pins σ H1 a l1 l2 i H s)
  (hQ:∀s',Inv X pins σ H s'->(∀c o,c∉[a.z,a.TO,a.i1,a.i2]->s.heap.get? c=some o->s'.heap.get? c=some o)->Q none s'):wpAny (model X.prog X.w) A' (pyNext (.ref a.z)) Q E s:=by
 obtain ⟨I,sm,fps,sz,zst,pt,j1,j2⟩:=id L;obtain ⟨us,ru,pu,_⟩:=I.list (sm.seq q1);obtain ⟨ws,rw',pw,_⟩:=I.list (sm.seq q2);have lx:=ru.length;have none1:us.toArray[i]?=none:=by simp;lia
 have fx:∀b∈[a.z,a.TO,a.i1,a.i2],kX X pins H b:=fun b hb=>fps b (by simp only[CW.all,aG,aZ,or_false] at hb ⊢;rcases hb with e | e | e | e <;> simp [e])
 have fin:∀h',(∀c o,c∉[a.z,a.TO,a.i1,a.i2]->s.heap.get? c=some o->h'.get? c=some o)->Q none { s with heap:=h' }:=fun h' up=>hQ _ (I.moved (g':=s.gens) (d':=s.drawn) (t':=s.toks) fx up I.bare) up
 obtain ⟨⟨c,d,z0⟩,z4⟩:=zst;rcases z4 with z1 | ⟨T,b1,o,z1,z2,z3⟩
 ·have D:=BJ z1 pt z0 j1 j2 pu.isList pw.isList O.tt O.ii;refine wpAny_pyNext_zip_end hh D z1 pt z0 j1 j2 pu.isList pw.isList (.inl none1) fun h' hk=>fin h' fun c o hc e=>?_
  simp only[aG,aZ,or_false,not_or] at hc;exact hk c o hc.1 hc.2.1 hc.2.2.1 hc.2.2.2 e
 ·have D:=BJ z1 pt z0 j1 j2 pu.isList pw.isList O.tt O.ii;refine HI hh D z1 z2 pt j1 pu.isList none1 fun h' hk=>fin h' fun c o hc e=>?_
  simp only[aG,aZ,or_false,not_or] at hc;exact hk c o hc.1 hc.2.2.1 hc.2.2.2 e
theorem Iv {A':Around} {R:Result->Shared->Prop} (hh:A'.handled=none) (O:a.Ok) (hz:xs.length<=sizeLine) (hl:ys.length=xs.length) (q1:bV X.K H1 l1 xs) (q2:bV X.K H1 l2 ys)
  (fin:∀s' H' ts acc c,Inv X pins σ H' s'->aL H1 H'->kX X pins H' a.S->s'.heap.get? a.S=some (lobj acc c)->cL ts acc->Paired (MO H') (xs.zip ys) ts->R (.ok (.ret .none)) s') :
  ∀(k i:Nat) (s:Shared) (H:Hp) (ts:List V) (acc:List Value) (c:Nat),xs.length - i=k->i<=xs.length->Md X pins σ H1 a l1 l2 i H s->s.heap.get? a.S=some (lobj acc c)->cL ts acc->Paired (MO H) ((xs.zip ys).take i) ts →
   codeAny (model X.prog X.w) A' (.builtin "list.extend.loop" ⟨[.ref a.S,.ref a.z,.none],[]⟩) R s:=by
 have Sn:a.S∉[a.z,a.TO,a.i1,a.i2]:=fun h=>by
  simp only[aG,aZ,or_false] at h;rcases h with e | e | e | e
  ·exact O.Sz e
  ·exact O.STO e
  ·exact O.Si1 e
  ·exact O.Si2 e
 intro k
 induction k with
 | zero =>
  intro i s H ts acc c hk hi L gS rv prs;have e:i=xs.length:=by lia
  refine codeAny_builtin Ow ?_;rw[Around.under_plainId mS _]
  change wpAny _ A'.in1 (pyNext (Value.ref a.z) >>= _) _ _ s
  refine wpAny_bind (Ip hh O q1 q2 (by lia) L fun s' I' up=>wpAny_pure (fin s' H ts acc c I' L.same (L.fps _ (by simp [CW.all])) (up _ _ Sn gS) rv ?_));rwa [aI (by rw[AI];lia)] at prs
 | succ k ih =>
  intro i s H ts acc c hk hi L gS rv prs;have hlt:i < xs.length:=by lia
  have lt:=prs.length;have la:=rv.length;refine codeAny_builtin Ow ?_;rw[Around.under_plainId mS _]
  change wpAny _ A'.in1 (pyNext (Value.ref a.z) >>= _) _ _ s
  refine wpAny_bind (Iq O q1 q2 (x:=xs[i]) (y:=ys[i]'(by lia)) (by simp [hlt]) (by simp) L fun s' L' up hT=>?_);have gS':=up _ _ Sn gS
  change wpAny _ A'.in1 (updateSeq a.S (·.push (Value.ref s.heap.objs.size)) >>= _) _ _ s'
  have small:acc.length<=sizeLine:=by
   rw[dn,AI] at lt
   lia
  refine wpAny_bind (wpAny_updateSeq gS' rfl (wpAny_pure ⟨plainId_quiet mS _,?_⟩) (by rw[aJ];exact small) (by
   show (acc.toArray.push (Value.ref s.heap.objs.size)).size<=sizeLine+1
   rw[Array.size_push,aJ]
   lia))
  have gS2:=mF gS' (fun b=>b.push (Value.ref s.heap.objs.size));have e2:(acc.toArray.push (Value.ref s.heap.objs.size))=(acc++[Value.ref s.heap.objs.size]).toArray:=by simp
  rw[e2] at gS2;refine ih (i+1) _ (upd H s.heap.objs.size (.tup [xs[i],ys[i]'(by lia)])) (ts++[.ref s.heap.objs.size]) (acc++[.ref s.heap.objs.size]) _ (by lia) hlt (L'.push O (fun b o hb e=>(Heap.get?_update_other _ _ (Ne.symm hb)).trans e) (Heap.size_update ..)) gS2 (rv.append (show cL [V.ref s.heap.objs.size] [Value.ref s.heap.objs.size] from .cons rfl .nil)) ?_;have zp:(xs.zip ys)[i]?=some (xs[i],ys[i]'(by lia)):=by simp [Ox,hlt]
  rw[take_snoc zp];exact (Paired.imp' (fun _ _ z=>z.same (aL.new hT)) prs).snoc ⟨_,rfl,aK⟩
theorem Ec:typeLookup (.type "zip") "__len__"=pure Option.none:=by rw[typeLookup_type,builtinLookup_eq_fast];kernel_rfl
theorem C5:typeLookup (.type "zip") "__length_hint__"=pure Option.none:=by rw[typeLookup_type,builtinLookup_eq_fast];kernel_rfl
theorem Ir {A' : Around} {R : Result → Shared → Prop} (hh : A'.handled = none) (O : a.Ok) (hz : xs.length ≤ sizeLine) (hl : ys.length = xs.length) (q1 : bV X.K H1 l1 xs) (q2 : bV X.K H1 l2 ys) (L : Md X pins σ H1 a l1 l2 0 H s) (gS : s.heap.get? a.S = some (lobj [] 0)) (z0 : IsZip s.heap a.z a.TI a.TO .none)
    (fin : ∀ s' H' ts acc c, Inv X pins σ H' s' → aL H1 H' → kX X pins H' a.S → s'.heap.get? a.S = some (lobj acc c) → cL ts acc → Paired (MO H') (xs.zip ys) ts → R (.ok (.ret .none)) s') :
    wpAny (model X.prog X.w) A'.in1 (Builtin.«list.__init__» ⟨[.ref a.S, .ref a.z], []⟩) (fun fl s' => match fl with | .done f => R (.ok f) s' | .again c' => c'.quiet = true /\ codeAny (model X.prog X.w) A' c' R s') (fun e s' => R (.error e) s') s := by
  change wpAny _ A'.in1 (do let old <- Builtin.List.listItems (Value.ref a.S); Builtin.List.listUpdate (Value.ref a.S) (fun _ => #[]); letGo old.toList.reverse; Builtin.List.listExtendWith (Value.ref a.S) (Value.ref a.z) Value.none) _ _ s
  refine wpAny_bind ?_;unfold Builtin.List.listItems;refine wpAny_bind (wpAny_seqItems gS rfl (wpAny_pure ?_))
  change wpAny _ A'.in1 (updateSeq a.S (fun _ => #[]) >>= fun _ => letGo (#[] : Array Value).toList.reverse >>= fun _ => Builtin.List.listExtendWith (Value.ref a.S) (Value.ref a.z) Value.none) _ _ s
  refine wpAny_bind (wpAny_updateSeq gS rfl ?_);have g1 := mF gS (fun _ => (#[] : Array Value));obtain ⟨n1, g1⟩ : ∃ n1, (s.heap.update a.S (Obj.mapSeq fun _ => (#[] : Array Value))).get? a.S = some (lobj [] n1) := ⟨_, g1⟩;have L1 := L.push (h' := s.heap.update a.S (Obj.mapSeq fun _ => (#[] : Array Value))) O (fun b o hb e => (Heap.get?_update_other _ _ (Ne.symm hb)).trans e) (Heap.size_update ..);have z1 : IsZip (s.heap.update a.S (Obj.mapSeq fun _ => (#[] : Array Value))) a.z a.TI a.TO .none := (Heap.get?_update_other _ _ O.Sz).trans z0;refine wpAny_bind (wpAny_letGo ?_);unfold Builtin.List.listExtendWith;have ty : Shared.TypeIs { s with heap := s.heap.update a.S (Obj.mapSeq fun _ => (#[] : Array Value)) } (.ref a.z) "zip" := ⟨_, z1, rfl⟩;refine wpAny_bind (wpAny_typeOf ty ?_);have h1 : Builtin.List.listSameRef (.ref a.S) (.ref a.z) = false := by simp [Builtin.List.listSameRef, O.Sz]
  have h2 : (Value.type "zip" == Value.type "list") = false := by decide
  have h3 : (Value.type "zip" == Value.type "tuple") = false := by decide
  simp only [h1, h2, h3, Bool.or_false, jl, if_false];refine wpAny_bind (wpAny_pyIter_zip z1 (wpAny_bind (wpAny_holding ?_)));unfold Builtin.List.listLengthHint;refine wpAny_bind (wpAny_specialOf ty Ec ?_)
  change wpAny _ A'.in1 (specialOf (Value.ref a.z) (Str.ofString "__length_hint__") >>= _) _ _ _
  refine wpAny_bind (wpAny_specialOf ty C5 (wpAny_pure ?_))
  change wpAny _ A'.in1 (rule "list.extend.makes-room" >>= fun _ => Builtin.List.listTouch (Value.ref a.S) >>= fun _ => again (.builtin "list.extend.loop" ⟨[Value.ref a.S, Value.ref a.z, Value.none], []⟩)) _ _ _
  refine wpAny_bind (wpAny_rule (wpAny_bind ?_))
  change wpAny _ A'.in1 (updateSeq a.S (·.push Value.none) >>= fun _ => updateSeq a.S (·.pop)) _ _ _
  refine wpAny_bind (wpAny_updateSeq g1 rfl ?_);have g2 := mF g1 (fun b => b.push Value.none);obtain ⟨n2, g2⟩ : ∃ n2, ((s.heap.update a.S (Obj.mapSeq fun _ => (#[] : Array Value))).update a.S (Obj.mapSeq fun b => b.push Value.none)).get? a.S = some (lobj [Value.none] n2) := ⟨_, g2⟩;have L2 := L1.push (h' := (s.heap.update a.S (Obj.mapSeq fun _ => (#[] : Array Value))).update a.S (Obj.mapSeq fun b => b.push Value.none)) O (fun b o hb e => (Heap.get?_update_other _ _ (Ne.symm hb)).trans e) (Heap.size_update ..);refine wpAny_updateSeq g2 rfl ?_ (jO rfl);have g3 := mF g2 (fun b => b.pop);have L3 := L2.push (h' := ((s.heap.update a.S (Obj.mapSeq fun _ => (#[] : Array Value))).update a.S (Obj.mapSeq fun b => b.push Value.none)).update a.S (Obj.mapSeq fun b => b.pop)) O (fun b o hb e => (Heap.get?_update_other _ _ (Ne.symm hb)).trans e) (Heap.size_update ..);exact wpAny_pure ⟨plainId_quiet mS _, Iv hh O hz hl q1 q2 fin _ 0 _ H [] [] _ rfl (aY _) L3 g3 .nil .nil⟩
end
section
variable {X:Cx}
theorem MU (n:Nat):CW.Ok ⟨n+4,n+2,n+3,n,n+1,n+5,n+5+1⟩:=by
 have ne:∀p q:Nat,p≠q->@Ne Addr p q:=fun _ _ h=>h
 refine ⟨ne (n+2) (n+3) (by lia),ne n (n+1) (by lia),ne (n+5) (n+4) (by lia),ne (n+5) (n+2) (by lia),ne (n+5) (n+3) (by lia),ne (n+5) n (by lia),ne (n+5) (n+1) (by lia),fun b hb=>?_⟩;have hb':b∈[n+4,n+2,n+3,n,n+1,n+5]:=hb;show @LT.lt Nat instLTNat b (n+5+1)
 simp only[aG,aZ,or_false] at hb';rcases hb' with e | e | e | e | e | e <;> (rw[e];exact bG (iV _) (by lia))
def Dc (K:PySem.W.Frag) (ta:TA):TE:=fun σ H Q=>ta σ H fun vs H1=>∃(l1 l2:Addr) (xs ys:List V),vs=[.ref l1,.ref l2]/\bV K H1 l1 xs/\bV K H1 l2 ys/\ys.length=xs.length /\
 ∀L ts H',aL H1 H'->H1 L=none->H' L=some (.lst ts)->Paired (MO H') (xs.zip ys) ts->Q (.ref L) H'
theorem EG {e1 e2:Expr} {ta:TA} {p p2 pos pos2:Pos} (hg:Gl X "list") (hm:X.mg "list"=none) (hg2:Gl X "zip") (hm2:X.mg "zip"=none) (ha:PA X [e1,e2] ta) (hc:X.calm=true:=by rfl)
  (hs:starEach [e1,e2] X.env=[(false,eval e1 X.env),(false,eval e2 X.env)]:=by rfl) (hs2:starEach [e2] X.env=[(false,eval e2 X.env)]:=by rfl)
  (hs3:starEach [Expr.Call (.Name "zip" p2) [e1,e2] [] pos2] X.env=[(false,eval (.Call (.Name "zip" p2) [e1,e2] [] pos2) X.env)]:=by rfl) :
  PE X (.Call (.Name "list" p) [.Call (.Name "zip" p2) [e1,e2] [] pos2] [] pos) (Dc X.K ta):=by
 intro pins s σ H Q I h;refine wpAny_Call_Name_kw (kR I hg hm boot_list ?_);refine PyProof.Rows.callWith_type1 ?_ (by rw[hs3];rfl) rfl;rw[hs3];show wpAny _ _ (spliced ((false,eval (.Call (.Name "zip" p2) [e1,e2] [] pos2) X.env) :: [])) _ _ s
 refine Calls.spliced_cons ?_;refine Call_ (kR I hg2 hm2 boot_zip (PyProof.Rows.callWith_type1 (fP (ha pos2 pins s σ H _ I h) fun us s1 ⟨vs,H1,I1,r1,q1⟩=>?_) (by rw[hs,hs2]) (by rw[hs2];rfl)));obtain ⟨l1,l2,xs,ys,e,qx,qy,hl,q⟩:=q1;subst e;obtain ⟨u,v,rfl,ru,rv⟩:=vals2 r1;cases ru;cases rv;obtain ⟨us,rx,px,hz⟩:=I1.list qx;obtain ⟨ws,ry,py,_⟩:=I1.list qy;refine call_zip_2 px.isList py.isList fun h' a1 a2 a3 a4 a5 a6 hk=>?_
 refine Calls.spliced_nil ?_;have I2:Inv X pins σ H1 { s1 with heap:=h' }:=I1.kept (t':=s1.toks) hk;have up:∀b o,h'.get? b=some o->(h'.push { cls:=.type "list",data:=.seq #[] }).get? b=some o:=fun b o e=>Heap.get?_push_of_some _ e
 have O:CW.Ok ⟨s1.heap.objs.size+4,s1.heap.objs.size+2,s1.heap.objs.size+3,s1.heap.objs.size,s1.heap.objs.size+1,h'.objs.size,h'.objs.size+1⟩:=by
  rw[a6];exact MU s1.heap.objs.size
 have old:∀b∈(CW.mk (s1.heap.objs.size+4) (s1.heap.objs.size+2) (s1.heap.objs.size+3) s1.heap.objs.size (s1.heap.objs.size+1) h'.objs.size (h'.objs.size+1)).all,s1.heap.objs.size<=b:=fun b hb=>by
  rw[a6] at hb;simp only[CW.all,aG,aZ,or_false] at hb;rcases hb with rfl | rfl | rfl | rfl | rfl | rfl <;> first | exact yH _ _ | exact av _
 have gS:(h'.push { cls:=.type "list",data:=.seq #[] }).get? h'.objs.size=some (lobj [] 0):=Heap.get?_push_size _ rfl;refine callType_codes (Q₁:=fun ob t=>ob=.ref h'.objs.size/\t={ s1 with heap:=h'.push { cls:=.type "list",data:=.seq #[] } }) PySem.F.called_list (PySem.F.typeCall_list_1 _) PySem.F.entry_list_init (code_list_new _ ⟨rfl,rfl⟩) fun ob t ht=>?_
 obtain ⟨rfl,rfl⟩:=ht;refine ⟨⟨_,gS,rfl⟩,PySem.F.args_list_init_2 _ _,?_⟩
 have L:Md X pins σ H1 ⟨s1.heap.objs.size+4,s1.heap.objs.size+2,s1.heap.objs.size+3,s1.heap.objs.size,s1.heap.objs.size+1,h'.objs.size,h'.objs.size+1⟩ l1 l2 0 H1 { s1 with heap:=h'.push { cls:=.type "list",data:=.seq #[] } } :=
  ⟨I2.kept (t':=s1.toks) up,aL.refl _,fun b hb=>I1.fpOk (old b hb) (I1.hok.fresh (old b hb)),by rw[Heap.size_push];exact av _,⟨⟨_,_,up _ _ a3⟩,.inl (up _ _ a1)⟩,up _ _ a2,a4.at fun o e=>up _ o e,a5.at fun o e=>up _ o e⟩
 refine Ir (A':=X.A.in1) (I.ok.hd hc) O hz hl qx qy L gS (up _ _ a1) fun s' H' ts acc c I' sm fS gS' vs' prs=>⟨rfl,?_⟩
 have nS:H1 h'.objs.size=none:=I1.hok.fresh (old _ (by simp [CW.all]));have lt:=prs.length;rw[AI] at lt;exact ⟨.ref h'.objs.size,_,I'.track (o:=.lst ts) fS ⟨by lia,acc,c,vs',gS'⟩,rfl,q _ ts _ (sm.trans (aL.new fS.1)) nS aK (Paired.imp' (fun _ _ z=>z.same (aL.new fS.1)) prs)⟩
end
end L2
namespace Nm
def xV:List Int->Int->Int
 | [],m=>m
 | b :: r,m=>xV r (m*(b / g m b))
theorem wM {m b:Int} (hm:0 < m) (hb:0 < b):0 < m*(b / g m b):=sP hm (Cu (t:=m) hb)
theorem Cq {m b : Int} : b ∣ m * (b / g m b) := by
  have h1 := Ai m b;refine ⟨lo m b, ?_⟩;have h2 : b / g m b * g m b = b := xX m b
  calc m * (b / g m b) = lo m b * g m b * (b / g m b) := by rw [h1]
    _ = lo m b * (b / g m b * g m b) := by rw [dJ, fz (g m b)]
    _ = b * lo m b := by rw [h2, fz]
theorem Ak:∀{bs:List Int} {m:Int},0 < m->(∀b∈bs,0 < b)->0 < xV bs m
 | [],_,hm,_=>hm
 | b :: r,m,hm,h=>Ak (bs:=r) (wM hm (h b dk)) fun c hc=>h c (bP _ hc)
theorem DH:∀{bs:List Int} {m:Int},m∣xV bs m
 | [],_=>Int.dvd_refl _
 | b :: r,m=>Int.dvd_trans (Int.dvd_mul_right m _) (DH (bs:=r))
theorem DG:∀{bs:List Int} {m b:Int},b∈bs->b∣xV bs m
 | c :: r,m,b,h=>by
  rcases aG.mp h with rfl | h
  ·exact Int.dvd_trans Cq (DH (bs:=r))
  ·exact DG (bs:=r) h
end Nm
namespace L2
open PySem PySem.Spec PyProof.Rows Nm
def CY (K:PySem.W.Frag) (H:Hp) (p:Addr) (ns:List (Int×Int)):Prop:=∃xs,H p=some (.lst xs)/\Paired (fun n x=>DZ K H x n) ns xs
theorem CY.same {K:PySem.W.Frag} {H H':Hp} {p:Addr} {ns:List (Int×Int)} (h:CY K H p ns) (e:aL H H'):CY K H' p ns:=by obtain ⟨xs,g,q⟩:=h;exact ⟨xs,e _ _ g,Paired.imp' (fun _ _ z=>e.num z) q⟩
def Dt (K:PySem.W.Frag) (T:String):V->Hp->VK->Prop:=fun x H Q=>EE K T x H Q\/∃a xs b,x=.ref a/\oI K H a xs/\PySem.W.kitOne K (.type "tuple") (.type T)=some b/\Q (.bl b) H
theorem Bh:∀{bs:List Int} {m b:Int},xV (bs++[b]) m=xV bs m*(b / g (xV bs m) b)
 | [],_,_=>rfl
 | c :: r,m,b=>Bh (bs:=r)
def fo (ns:List (Int×Int)) (B:Int):List Int:=ns.map fun n=>n.1*(B / n.2)
def gY (ns:List (Int×Int)):Int:=xV (ns.map (·.2)) 1
def Kh (ns ms:List (Int×Int)):Int:=(List.zipWith (·*·) (fo ns (gY ns)) (fo ms (gY ms))).sum
theorem qN {ns:List (Int×Int)} {n:Int×Int} (h:n∈ns):n.2∣gY ns:=DG (aD.mpr ⟨n,h,rfl⟩)
theorem ED {σ:St} {H:Hp} {Q:VK} {K:PySem.W.Frag} {ta:TA} (h:ta σ H fun vs H1=>∃(l1 l2:Addr) (xs ys:List V),vs=[.ref l1,.ref l2]/\bV K H1 l1 xs/\bV K H1 l2 ys/\ys.length=xs.length /\
 ∀L ts H',aL H1 H'->H1 L=none->H' L=some (.lst ts)->Paired (MO H') (xs.zip ys) ts->Q (.ref L) H'):Dc K ta σ H Q:=h
theorem Qk {m b:Int} (hb:0 < b) {k:Nat} (h:Sz k b):Sz k (g m b):=h.le (by
 have h1:(g m b).natAbs=Int.gcd m b:=by unfold g;simp
 rw[h1];exact mX (by lia) (by have:=fg (a:=m) (b:=b);exact eI.mpr this |> fun z=>by simpa using z))
theorem KI {ts us:List Int} {i:Nat} {pq:V×V} (h:((ts.map V.int).zip (us.map V.int))[i]?=some pq):∃t u,ts[i]?=some t/\us[i]?=some u/\pq=(.int t,.int u):=by
 rw[Ox,aN,aN] at h;obtain ⟨h1,h2⟩:=h;cases e1:ts[i]? with
 | none=>rw[e1] at h1;cases h1
 | some t =>
  cases e2:us[i]? with
  | none=>rw[e2] at h2;cases h2
  | some u =>
   rw[e1] at h1;rw[e2] at h2;refine ⟨t,u,rfl,rfl,?_⟩;cases pq;simp at h1 h2;rw[h1,h2]
def GU (K:PySem.W.Frag):Sp:=fun vs H Q _=>∃x n,vs=[x]/\DZ K H x n/\yC n/\∀H',aL H H'->Q (.bl true) H'
def A5 (K:PySem.W.Frag):Sp:=fun vs H Q _=>∃(p:Addr) (ns:List (Int×Int)),vs=[.ref p,.int ns.length]/\CY K H p ns/\ns.length<=1000/\(∀n∈ns,yC n)/\∀H',aL H H'->Q (.bl true) H'
theorem yW {X:Cx} {a:Expr} {ta:TE} {pos:Pos} {c:Str} {T:String} {p p2:Pos} (hg:Gl X "isinstance") (hm:X.mg "isinstance"=none) (hb:bootBuiltins c=some (.type T)) (hmc:X.mg c=none) (ha:PE X a ta) (hgc:Gl X c:=by rfl) (hn:c≠"__name__":=by decide)
  (hd:(c == ("__debug__":Str))=false:=by decide) (he:starEach [a,.Name c p2] X.env=[(false,eval a X.env),(false,eval (.Name c p2) X.env)]:=by rfl)
  (hpl:(backTo pos (starEach [.Name c p2] X.env)).any (·.1)=false:=by rfl) (he2:starEach [.Name c p2] X.env=[(false,eval (.Name c p2) X.env)]:=by rfl):PE X (.Call (.Name "isinstance" p) [a,.Name c p2] [] pos) (PX (Dt X.K T) ta):=by
 intro pins s σ H Q I h;refine wpAny_Call_Name_kw (kR I hg hm PyProof.Rows.boot_isinstance ?_);have hA:PA X [a,.Name c p2] (sV ta (sV (tC (.ty T)) Ef)):=ae ha (ae (FC hgc hmc hb rfl hn hd) ai he2) (by rw[he,he2])
 have hq:sV ta (sV (tC (.ty T)) Ef) σ H (fun vs H1=>∃x,vs=[x,.ty T]/\Dt X.K T x H1 Q):=by
  show ta σ H fun x H1=>∃x',[x,V.ty T]=[x',V.ty T]/\Dt X.K T x' H1 Q
  have e:(fun x H1=>∃x',[x,V.ty T]=[x',V.ty T]/\Dt X.K T x' H1 Q)=fun x H1=>Dt X.K T x H1 Q:=by
   funext x H1;apply propext;constructor
   ·rintro ⟨x',e,q⟩;cases e;exact q
   ·intro q;exact ⟨x,rfl,q⟩
  rw[e];exact h
 refine PyProof.Rows.callWith_builtin1 (fP (hA pos pins s σ H _ I hq) fun us s1 ⟨vs,H1,I1,r1,x,e,q1⟩=>?_) (by rw[he,he2]) hpl;subst e;obtain ⟨u,w',rfl,ru,rt⟩:=vals2 r1;cases rt;rcases q1 with ⟨t,bb,ty,ek,q⟩ | ⟨ad,xs,bb,rfl,hs,ek,q⟩
 ·exact Bj I1 ru ty ek fun tk=>⟨.bl bb,H1,I1.tok tk,rfl,q⟩
 ·cases ru;obtain ⟨its,_,⟨o,g1,g2,_⟩,_⟩:=I1.tuple hs;exact dB PySem.W.kitx_tuple I1.kIn ⟨o,g1,g2⟩ ek (fun z=>nomatch z) fun tk=>⟨.bl bb,H1,I1.tok tk,rfl,q⟩
theorem Jh {H:Hp} {Q:VK} {l:Addr} {k:Nat} {x:V} (h:H l=some (.lst [x])) (hk:k<=1000) (q:∀p H',aL H H'->H p=none->H' p=some (.lst (List.replicate k x))->Q (.ref p) H'):Pc (.ref l) (.int k) H Q :=
 ⟨l,k,[x],rfl,rfl,h,by lia,by lia,bp (bK (by simp;lia)),fun p hp=>q p _ (aL.new hp) hp (by rw[aK];simp)⟩
theorem Og {xs:List V} {k:Nat} (h:k<=xs.length):uY xs none (some (k:Int))=xs.take k:=by
 unfold uY;rw[HT.Dm,HT.yU,nU h];simp
theorem vN {α β:Type} {F:α->β->Prop} {x:α} {y:β} (h:F x y):∀m:Nat,Paired F (List.replicate m x) (List.replicate m y)
 | 0=>.nil
 | m+1=>.cons h (vN h m)
theorem fv {n a:Nat} (h:a < n):Ii n (a:Int)=some a:=by
 unfold Ii;rw[if_pos (by lia),if_pos (by lia),Int.toNat_natCast]
theorem Kl {xs:List V} {k:Nat}:uY xs none (some (k:Int))=xs.take k:=by
 by_cases h:k<=xs.length
 ·exact Og h
 ·unfold uY;rw[HT.Dm,HT.yU,Nat.min_eq_right (by lia),aI (by simp),aI (by lia)];rfl
theorem tx {α β:Type} {F:α->β->Prop}:∀{l1:List α} {l2:List β} (_:Paired F l1 l2) (k:Nat),Paired F (l1.take k) (l2.take k)
 | _,_,.nil,k=>by simp;exact .nil
 | _,_,.cons h r,0=>.nil
 | _,_,.cons h r,k+1=>.cons h (tx r k)
def LB (K:PySem.W.Frag):List V->Hp->VK->Prop:=fun xs H Q=>∃p ys,xs=[.ref p]/\(bV K H p ys\/oI K H p ys)/\∀l,H l=none->Q (.ref l) (upd H l (.lst ys))
theorem p9 {X:Cx} (K:PySem.W.Frag) (hK:X.K=K):vC X (.type "list") (LB K):=by subst hK;exact ke
theorem aL.none {H H':Hp} {l:Addr} (s:aL H H') (h:H' l=Option.none):H l=Option.none:=by
 cases e:H l with
 | none=>rfl
 | some o=>have:=s _ _ e;rw[h] at this;cases this
def MQ (K:PySem.W.Frag) (H:Hp) (p:Addr) (rows:List (List (Int×Int))):Prop:=∃xs,H p=some (.lst xs)/\Paired (fun ns x=>∃q,x=V.ref q/\CY K H q ns) rows xs
theorem ID {b:Int} (h:b.natAbs<=1000000):Sz 20 b:=bA h (by decide)
theorem cV.none {H H':Hp} {b l:Addr} (u:cV b H H') (B:ig H' b) (h:H' l=Option.none):H l=Option.none:=by
 cases e:H l with
 | none=>rfl
 | some o =>
  by_cases z:l=b
  ·obtain ⟨_,_,_,_,_,e2,_⟩:=B;rw[<- z,h] at e2;cases e2
  ·have:=u.1 l o e z;rw[h] at this;cases this
def Ep (K:PySem.W.Frag):Sp:=fun vs H Q _=>∃(p:Addr) (rows:List (List (Int×Int))) (m:Nat),vs=[.ref p,.int rows.length,.int m]/\MQ K H p rows/\rows.length<=1000/\m<=1000/\(∀ns∈rows,ns.length=m/\∀n∈ns,yC n)/\∀H',aL H H'->Q (.bl true) H'
end L2
namespace Nm
def nm (q:Rat):Int×Int:=(q.num,(q.den:Int))
theorem j6 (q:Rat):0 < (nm q).2:=by have:=q.den_pos;show 0 < (q.den:Int);lia
theorem Cn (q:Rat):Int.gcd (nm q).1 (nm q).2=1:=q.reduced
theorem NV {p q:Rat} (h:nm p=nm q):p=q:=by
 have h1:p.num=q.num:=congrArg Prod.fst h;have h2:(p.den:Int)=q.den:=congrArg Prod.snd h;exact Rat.ext h1 (by lia)
theorem rh (q : Rat) : (q.num : Rat) = q * (q.den : Rat) := by
  have h := Rat.num_divInt_den q;rw [Rat.divInt_eq_div] at h
  have hd : ((q.den : Int) : Rat) ≠ 0 := by
    intro z;have z := yF.mp z;have := q.den_pos
    lia
  have e : ((q.den : Int) : Rat) = (q.den : Rat) := aM _
  calc (q.num : Rat) = (q.num : Rat) / ((q.den : Int) : Rat) * ((q.den : Int) : Rat) := (Rat.div_mul_cancel hd).symm
    _ = q * (q.den : Rat) := by rw [h, e]
theorem Ph {a b:Int} {q:Rat} (hb:0 < b) (hg:Int.gcd a b=1) (e:q*(b:Rat)=(a:Rat)):(a,b)=nm q:=by
 have h1:a*(q.den:Int)=q.num*b:=by
  apply dN.mp;rw[aQ,aQ,<- e,rh,aM];grind
 obtain ⟨e1,e2⟩:=uniq hb (j6 q) hg (Cn q) h1;exact Prod.ext e1 e2
theorem rn {t b:Int} {q:Rat} (hb:0 < b) (e:q*(b:Rat)=(t:Rat)):(lo t b,hi t b)=nm q:=by
 refine Ph (Cu hb) (Ag (by lia)) ?_;have h:=Ah t b;have hb':(b:Rat)≠0:=fun z=>by have:=yF.mp z;lia
 have h2:((lo t b:Int):Rat)*(b:Rat)=(t:Rat)*((hi t b:Int):Rat):=by rw[<- aQ,h,aQ]
 rw[<- e] at h2;have h3:(q*((hi t b:Int):Rat) - ((lo t b:Int):Rat))*(b:Rat)=0:=by grind
 rcases AE.mp h3 with h4 | h4
 ·grind
 ·exact absurd h4 hb'
def Fr (M V:Nat) (q:Rat):Prop:=∃z:Int,q*(M:Rat)=(z:Rat)/\z.natAbs<=V*M
theorem Fr.mono {M V V':Nat} {q:Rat} (h:Fr M V q) (l:V<=V'):Fr M V' q:=by obtain ⟨z,e,b⟩:=h;exact ⟨z,e,ah b (aA _ l)⟩
theorem Fr.scale {M V:Nat} {q:Rat} (h:Fr M V q) (k:Nat):Fr (M*k) V q:=by
 obtain ⟨z,e,b⟩:=h;refine ⟨z*k,?_,?_⟩
 ·rw[eC,aQ,<- e,aM,Rat.mul_assoc]
 ·rw[cF,bM,<- cw];exact aA _ b
theorem Fr.scaleL {M V:Nat} {q:Rat} (h:Fr M V q) (k:Nat):Fr (k*M) V q:=by rw[bU];exact h.scale k
theorem Fr.dvd {M N V:Nat} {q:Rat} (h:Fr M V q) (d:M∣N):Fr N V q:=by obtain ⟨k,rfl⟩:=d;exact h.scale k
theorem Fr.add {M V W:Nat} {p q:Rat} (h:Fr M V p) (h':Fr M W q):Fr M (V+W) (p+q):=by
 obtain ⟨z,e,b⟩:=h;obtain ⟨z',e',b'⟩:=h';refine ⟨z+z',by rw[AF,<- e,<- e',Rat.add_mul],?_⟩;rw[Nat.add_mul];have:=Int.natAbs_add_le z z'
 lia
theorem Fr.neg {M V:Nat} {q:Rat} (h:Fr M V q):Fr M V (-q):=by
 obtain ⟨z,e,b⟩:=h;exact ⟨-z,by rw[dm,<- e,Rat.neg_mul],by rw[pV];exact b⟩
theorem Fr.mul {M N V W : Nat} {p q : Rat} (h : Fr M V p) (h' : Fr N W q) : Fr (M * N) (V * W) (p * q) := by
  obtain ⟨z, e, b⟩ := h;obtain ⟨z', e', b'⟩ := h';refine ⟨z * z', ?_, ?_⟩
  · rw [eC, aQ, <- e, <- e']; grind
  · rw [cF]
    calc z.natAbs * z'.natAbs ≤ (V * M) * (W * N) := aE b b'
      _ = V * W * (M * N) := by rw [cw, Nat.mul_left_comm M, <- cw]
theorem Fr.zero {M V:Nat}:Fr M V 0:=⟨0,by simp,by simp⟩
theorem Fr.int {M V:Nat} {i:Int} (h:i.natAbs<=V):Fr M V (i:Rat):=⟨i*M,by rw[aQ,aM],by rw[cF,bM];exact aA _ h⟩
theorem Fr.one {M V:Nat} (h:1<=V):Fr M V 1:=Fr.int (i:=1) h
theorem Fr.den {M V:Nat} {q:Rat} (h:Fr M V q):(q.den:Int)∣(M:Int):=by
 obtain ⟨z,e,b⟩:=h
 have h1:q.num*(M:Int)=z*(q.den:Int):=by
  apply dN.mp;rw[aQ,aQ,<- e,rh,aM,aM];grind
 have h2:(q.den:Int)∣q.num*(M:Int):=⟨z,by rw[h1,fz]⟩;exact rB (by rw[mH];exact Cn q) h2
theorem Fr.den_le {M V:Nat} {q:Rat} (h:Fr M V q) (hM:0 < M):q.den<=M:=mX hM (yJ.mp h.den)
theorem Fr.num_le {M V:Nat} {q:Rat} (h:Fr M V q) (hM:0 < M):q.num.natAbs<=V*M:=by
 have hd:=h.den;obtain ⟨z,e,b⟩:=h;obtain ⟨k,hk⟩:=yJ.mp hd;have hk0:k≠0:=fun z=>by rw[z,Nat.mul_zero] at hk;lia
 have h1:z=q.num*(k:Int):=by
  apply dN.mp;rw[aQ,<- e,rh,aM,hk,eC];grind
 rw[h1] at b;exact ah (pZ (by lia)) b
theorem Fr.own (q:Rat) {V:Nat} (h:q.num.natAbs<=V):Fr q.den V q:=⟨q.num,(rh q).symm,ah h (cJ _ q.den_pos)⟩
theorem Fr.sz {M V k j:Nat} {q:Rat} (h:Fr M V q) (hM:0 < M) (h1:M<=2^k) (h2:V<=2^j):Sz (j+k+1) (nm q).1/\Sz (k+1) (nm q).2:=by
 constructor
 ·show q.num.natAbs < 2^(j+k+1)
  have h3:=h.num_le hM;have h4:V*M<=2^j*2^k:=aE h2 h1;rw[fw,aO];have:=Nat.two_pow_pos (j+k);rw[aO] at this
  lia
 ·show (q.den:Int).natAbs < 2^(k+1)
  have h3:=h.den_le hM;rw[bM,fw];have:=Nat.two_pow_pos k
  lia
theorem Fr.sum {M V:Nat}:∀{l:List Rat},(∀x∈l,Fr M V x)->Fr M (l.length*V) l.sum
 | [],_=>by simp;exact Fr.zero
 | x :: r,h=>by
  rw[List.sum_cons,ba,dr,zj];exact (h x (.head _)).add (Fr.sum fun y hy=>h y (.tail _ hy))
def dW (xs ys:List Rat):Rat:=(List.zipWith (·*·) xs ys).sum
theorem Fr.dot {M N V W : Nat} {xs ys : List Rat} (h : ∀ x ∈ xs, Fr M V x) (h' : ∀ y ∈ ys, Fr N W y) : Fr (M * N) (xs.length * (V * W)) (dW xs ys) := by
  have q := Fr.sum (M := M * N) (V := V * W) (l := List.zipWith (· * ·) xs ys) fun z hz => by
    obtain ⟨i, hi, e⟩ := cz hz;rw [kz] at e;rw [<- e];exact (h _ (aT _)).mul (h' _ (aT _))
  exact q.mono (aA _ (by rw [ck]; lia))
theorem HY (xs ys:List Rat):dW xs ys=dW ys xs:=by
 unfold dW;rw[List.zipWith_comm];congr 2;funext a b;exact dC ..
theorem yX : ∀ {bs : List Int} {m M : Int}, 0 < m → m ∣ M → (∀ b ∈ bs, 0 < b /\ b ∣ M) → xV bs m ∣ M
  | [], _, _, _, h, _ => h
  | b :: r, m, M, hm, h, hb => by
    have b1 := hb b dk;refine yX (bs := r) (wM hm b1.1) ?_ fun c hc => hb c (bP _ hc)
    have gp : 0 < g m b := Ap (by lia);have e1 := Ai m b;have e2 := xX m b;obtain ⟨u, hu⟩ := h;obtain ⟨v, hv⟩ := b1.2
    have h3 : lo m b * u = hi m b * v := by
      apply vF (show g m b ≠ 0 by lia)
      calc lo m b * u * g m b = lo m b * g m b * u := by rw [dJ, fz u, <- dJ]
        _ = m * u := by rw [e1]
        _ = M := hu.symm
        _ = b * v := hv
        _ = hi m b * g m b * v := by rw [e2]
        _ = hi m b * v * g m b := by rw [dJ, fz (g m b), <- dJ]
    have h4 : hi m b ∣ lo m b * u := ⟨v, h3⟩;have h5 : hi m b ∣ u := rB (by rw [mH]; exact Ag (by lia)) h4;obtain ⟨w, hw⟩ := h5;refine ⟨w, ?_⟩;show M = m * hi m b * w
    rw [hu, hw, dJ]
theorem Cy {a b:Int} {k:Nat} (hb:0 < b) (d:a∣b) (h:Sz k b):Sz k a:=h.le (mX (by lia) (eI.mpr d))
end Nm
namespace Nm
def Dr (W:Nat) (x:Rat):Prop:=x.num.natAbs<=W/\x.den<=W
def we:List Nat->Nat
 | []=>1
 | a :: r=>a*we r
theorem xN:∀{l:List Nat},(∀a∈l,0 < a)->0 < we l
 | [],_=>Nat.one_pos
 | a :: r,h=>bY (h a (.head _)) (xN fun b hb=>h b (.tail _ hb))
theorem xO:∀{l:List Nat} {a:Nat},a∈l->a∣we l
 | b :: r,a,h=>by
  rcases aG.mp h with rfl | h
  ·exact Nat.dvd_mul_right ..
  ·exact Nat.dvd_trans (xO h) (Im ..)
theorem zP {k:Nat}:∀{l:List Nat},(∀a∈l,a<=2^k)->we l<=2^(k*l.length)
 | [],_=>by simp [we]
 | a :: r,h=>by
  rw[ba,Nat.mul_succ,aO,bU (2^(k*r.length))];exact aE (h a (.head _)) (zP fun b hb=>h b (.tail _ hb))
def GF (M V:Nat) (rows:List (List Rat)):Prop:=∀xs∈rows,∀x∈xs,Fr M V x
def Ot (c n i:Nat) (rows:List (List Rat)):Prop:=∃M,0 < M/\M<=2^(i*(c*n+2))/\GF M (2^(20+2*i)) rows
theorem N9 {c n:Nat}:Ot c n 0 []:=⟨1,by decide,by simp,fun _ h=>nomatch h⟩
theorem Oa (c n i:Nat):(i+1)*(c*n+2)=i*(c*n+2)+(c*n+2):=dr ..
theorem LS {c n i:Nat} {rows:List (List Rat)} {xs:List Rat} (h:Ot c n i rows) (hl:xs.length=n) (hd:∀x∈xs,Dr (2^c) x) (hc:c<=20):Ot c n (i+1) (rows++[xs]):=by
 obtain ⟨M,h0,h1,h2⟩:=h
 have dp:0 < we (xs.map (·.den)):=xN fun a ha=>by
  obtain ⟨x,_,rfl⟩:=aD.mp ha;exact x.den_pos
 have dl:we (xs.map (·.den))<=2^(c*n):=by
  have:=zP (k:=c) (l:=xs.map (·.den)) fun a ha=>by
   obtain ⟨x,hx,rfl⟩:=aD.mp ha;exact (hd x hx).2
  rwa [ao,hl] at this
 refine ⟨M*we (xs.map (·.den)),bY h0 dp,?_,fun ys hy x hx=>?_⟩
 ·rw[Oa,aO];exact aE h1 (ah dl (aj (by decide) (by lia)))
 ·rcases ax.mp hy with hy | hy
  ·exact ((h2 ys hy x hx).scale _).mono (aj (by decide) (by lia))
  ·have e:ys=xs:=by simpa using hy
   subst e;have f:Fr x.den (2^c) x:=Fr.own x (hd x hx).1;have g:=(f.dvd (xO (aD.mpr ⟨x,hx,rfl⟩))).scaleL M;exact g.mono (aj (by decide) (by lia))
def bC (rows:List (List Rat)) (w:Nat):List (List Rat):=(List.range w).map fun j=>rows.map fun xs=>xs.getD j 0
theorem cy {rows:List (List Rat)} {w:Nat}:(bC rows w).length=w:=by simp [bC]
theorem kB {rows:List (List Rat)} {w:Nat}:∀ys∈bC rows w,ys.length=rows.length:=fun ys hy=>by
 obtain ⟨j,_,rfl⟩:=aD.mp hy;exact ao ..
theorem getD_map {α:Type} {l:List α} {f:α->Rat} {i:Nat} (h:i < l.length):(l.map f).getD i 0=f l[i]:=by
 rw[aa,aN,ag h];rfl
theorem Gy {rows:List (List Rat)} {w:Nat} (h:∀xs∈rows,xs.length=w):bC (bC rows w) rows.length=rows:=by
 apply dD
 ·exact cy
 ·intro i h1 h2;have e:(bC (bC rows w) rows.length)[i]=(bC rows w).map fun xs=>xs.getD i 0:=by simp [bC]
  rw[e];have hw:=h rows[i] (aT h2);apply dD
  ·rw[ao,cy,hw]
  ·intro j h3 h4;rw[fG];have e2:(bC rows w)[j]'(by rw[cy];lia)=rows.map fun xs=>xs.getD j 0:=by simp [bC]
   rw[e2,getD_map h2,aa,ag h4];rfl
end Nm
namespace L2
open PySem PySem.Spec PyProof.Rows Nm
theorem cV.sqt {K:PySem.W.Frag} {H H':Hp} {b a:Addr} {xs:List V} (u:cV b H H') (B:ig H b) (h:oI K H a xs):oI K H' a xs:=by
 rcases h with (h | ⟨o,h⟩) | h
 ·exact .inl (.inl (u.tup B h))
 ·exact .inl (.inr ⟨o,u.other (fun z=>by obtain ⟨_,_,_,_,_,e,_⟩:=B;rw[z,e] at h;cases h) h⟩)
 ·exact .inr h
theorem II {K:PySem.W.Frag} {H:Hp} {a l:Addr} {xs ys:List V} {o:HO} (h:oI K H a xs) (hl:H l=some (.lst ys)):oI K (upd H l o) a xs:=by
 rcases h with (h | ⟨o,h⟩) | h
 ·exact .inl (.inl (by rw[bu fun z=>by rw[z,hl] at h;cases h];exact h))
 ·exact .inl (.inr ⟨o,by rw[bu fun z=>by rw[z,hl] at h;cases h];exact h⟩)
 ·exact .inr h
def cB (K:PySem.W.Frag) (H:Hp) (q:Rat) (x:V):Prop:=DZ K H x (nm q)
section
variable {K:PySem.W.Frag} {H H':Hp} {q:Rat} {x:V} {b l p:Addr} {qs:List Rat}
theorem cB.same (h:cB K H q x) (e:aL H H'):cB K H' q x:=e.num h
theorem cB.upto (h:cB K H q x) (u:cV b H H') (B:ig H b):cB K H' q x:=by obtain ⟨p,e,s⟩:=h;exact ⟨p,e,u.sqt B s⟩
theorem cB.updL {ys:List V} {o:HO} (h:cB K H q x) (hl:H l=some (.lst ys)):cB K (upd H l o) q x:=by obtain ⟨p,e,s⟩:=h;exact ⟨p,e,II s hl⟩
theorem cB.mk {r:Addr} {a c:Int} (h:H r=some (.tup [.int a,.int c])) (e:(a,c)=nm q):cB K H q (.ref r):=⟨r,rfl,by rw[<- e];exact oI.of h⟩
def cR (K:PySem.W.Frag) (H:Hp) (p:Addr) (qs:List Rat):Prop:=∃xs,H p=some (.lst xs)/\Paired (cB K H) qs xs
theorem cR.same (h:cR K H p qs) (e:aL H H'):cR K H' p qs:=by obtain ⟨xs,g,r⟩:=h;exact ⟨xs,e _ _ g,Paired.imp' (fun _ _ z=>z.same e) r⟩
theorem cR.upto (h:cR K H p qs) (u:cV b H H') (B:ig H b) (n:p≠b):cR K H' p qs:=by obtain ⟨xs,g,r⟩:=h;exact ⟨xs,u.other n g,Paired.imp' (fun _ _ z=>z.upto u B) r⟩
theorem cR.updL {ys:List V} {o:HO} (h:cR K H p qs) (hl:H l=some (.lst ys)) (n:p≠l):cR K (upd H l o) p qs:=by obtain ⟨xs,g,r⟩:=h;exact ⟨xs,by rw[bu n];exact g,Paired.imp' (fun _ _ z=>z.updL hl) r⟩
theorem tz {α β γ:Type} {F:α->β->Prop} {f:γ->α}:∀{l:List γ} {l2:List β},Paired (fun c x=>F (f c) x) l l2->Paired F (l.map f) l2
 | _,_,.nil=>.nil
 | _,_,.cons r t=>.cons r (tz t)
theorem cR.rowK (h:cR K H p qs):CY K H p (qs.map nm):=by obtain ⟨xs,g,r⟩:=h;exact ⟨xs,g,tz (F:=fun n x=>DZ K H x n) r⟩
def dq (K:PySem.W.Frag) (H0 H:Hp) (qs:List Rat) (x:V):Prop:=∃q,x=V.ref q/\H0 q=none/\cR K H q qs
def bO (K:PySem.W.Frag) (H0 H:Hp) (p:Addr) (rows:List (List Rat)):Prop:=∃xs,H p=some (.lst xs)/\Paired (dq K H0 H) rows xs/\V.ref p∉xs
theorem oU {H0:Hp} {K:PySem.W.Frag} {p:Addr} {rows:List (List Rat)} {ys:List V} (h:∃H2,H2 p=none/\Paired (dq K H0 H2) rows ys):V.ref p∉ys:=fun hm=>by
 obtain ⟨H2,e,pr⟩:=h;obtain ⟨qs,_,q,z,_,xs,g,_⟩:=dF pr hm;cases z;rw[e] at g;cases g
variable {H0:Hp} {rows:List (List Rat)}
theorem dq.same (h:dq K H0 H qs x) (e:aL H H'):dq K H0 H' qs x:=by obtain ⟨q,a,b,c⟩:=h;exact ⟨q,a,b,c.same e⟩
theorem dq.upto (h:dq K H0 H qs x) (u:cV b H H') (B:ig H b) (nb:H0 b≠none):dq K H0 H' qs x:=by obtain ⟨q,a,c,d⟩:=h;exact ⟨q,a,c,d.upto u B fun z=>nb (by rw[<- z];exact c)⟩
theorem dq.weak (h:dq K H0 H qs x) {H1:Hp} (e:aL H1 H0):dq K H1 H qs x:=by obtain ⟨q,a,b,c⟩:=h;exact ⟨q,a,e.none b,c⟩
theorem bO.same (h:bO K H0 H p rows) (e:aL H H'):bO K H0 H' p rows:=by obtain ⟨xs,g,r,n⟩:=h;exact ⟨xs,e _ _ g,Paired.imp' (fun _ _ z=>z.same e) r,n⟩
theorem bO.upto (h:bO K H0 H p rows) (u:cV b H H') (B:ig H b) (n:p≠b) (nb:H0 b≠none):bO K H0 H' p rows:=by obtain ⟨xs,g,r,nn⟩:=h;exact ⟨xs,u.other n g,Paired.imp' (fun _ _ z=>z.upto u B nb) r,nn⟩
theorem bO.weak (h:bO K H0 H p rows) {H1:Hp} (e:aL H1 H0):bO K H1 H p rows:=by obtain ⟨xs,g,r,n⟩:=h;exact ⟨xs,g,Paired.imp' (fun _ _ z=>z.weak e) r,n⟩
theorem bO.gridK (h:bO K H0 H p rows):MQ K H p (rows.map (List.map nm)):=by obtain ⟨xs,g,r,_⟩:=h;exact ⟨xs,g,tz (F:=fun ns x=>∃q,x=V.ref q/\CY K H q ns) (Paired.imp' (fun _ _ ⟨q,a,_,c⟩=>⟨q,a,c.rowK⟩) r)⟩
end
def JP:Kind Rat:=Pl.via nm (fun _ _ e=>NV e) (fun K H x q=>cB K H q x) id
def Bi:Kind (List Rat):=Pn JP
def JQ:Kind (List (List Rat)):=Pn Bi
theorem cR.kind {K:PySem.W.Frag} {H:Hp} {p:Addr} {qs:List Rat} (h:cR K H p qs):Bi.R K H (.ref p) qs:=by obtain ⟨xs,g,q⟩:=h;exact ⟨p,xs,rfl,bV.of g,q⟩
theorem bO.kind {K:PySem.W.Frag} {H0 H:Hp} {p:Addr} {rows:List (List Rat)} (h:bO K H0 H p rows):JQ.R K H (.ref p) rows:=by obtain ⟨xs,g,q,_⟩:=h;exact ⟨p,xs,rfl,bV.of g,Paired.imp' (fun _ _ ⟨q,a,_,c⟩=>by rw[a];exact c.kind) q⟩
def uf (x:Rat):Prop:=Sz 4000 (nm x).1/\Sz 4000 (nm x).2
def Fits (l:List Rat):Prop:=∃M V:Nat,0 < M/\M<=2^900/\V<=2^900/\∀x∈l,Fr M V x
theorem Fits.szn {l:List Rat} (h:Fits l) {x:Rat} (hx:x∈l):uf x:=by
 obtain ⟨M,V,h0,h1,h2,h3⟩:=h;obtain ⟨a,b⟩:=(h3 x hx).sz h0 h1 h2;exact ⟨a.mono (by decide),b.mono (by decide)⟩
theorem Fits.ok {l:List Rat} (h:Fits l) {x:Rat} (hx:x∈l):yC (nm x):=⟨j6 x,Cn x,(h.szn hx).1.mono (by decide),(h.szn hx).2.mono (by decide)⟩
theorem EY {M V:Nat} {x:Rat} (h0:0 < M) (h1:M<=2^1800) (h2:V<=2^1810) (h:Fr M V x):uf x:=by
 obtain ⟨a,b⟩:=h.sz h0 h1 h2;exact ⟨a.mono (by decide),b.mono (by decide)⟩
theorem IC {x:Rat} (h:uf x):yC (nm x):=⟨j6 x,Cn x,h.1.mono (by decide),h.2.mono (by decide)⟩
def vI (K:PySem.W.Frag) (f:Rat->Rat->Rat):Sp:=fun vs H Q _=>∃(u v:V) (x y:Rat),vs=[u,v]/\cB K H x u/\cB K H y v/\uf x/\uf y/\∀r H',aL H H'->cB K H' (f x y) (.ref r)->Q (.ref r) H'
section
variable {K:PySem.W.Frag} {vs:List V} {H:Hp} {Q:VK} {E:XK}
theorem EI {f:Rat->Rat->Rat} {F:Int->Int->Int->Int->Int} (hf:∀x y:Rat,(f x y)*(((nm x).2*(nm y).2:Int):Rat)=((F (nm x).1 (nm x).2 (nm y).1 (nm y).2:Int):Rat)) (h:vI K f vs H Q E):Fs K F vs H Q E:=by
 obtain ⟨u,v,x,y,rfl,⟨p,rfl,hp⟩,⟨q,rfl,hq⟩,⟨s1,s2⟩,⟨s3,s4⟩,k⟩:=h;refine ⟨p,q,_,_,_,_,rfl,hp,hq,j6 x,j6 y,s1,s2,s3,s4,fun r H' s g=>k r H' s (cB.mk g ?_)⟩;exact rn (sP (j6 x) (j6 y)) (hf x y)
theorem vP (x:Rat):(((nm x).1:Int):Rat)=x*(((nm x).2:Int):Rat):=by
 show (x.num:Rat)=x*(((x.den:Nat):Int):Rat)
 rw[rh,aM]
theorem Gh (h:vI K (fun x y=>x+y) vs H Q E):Fs K MK vs H Q E:=EI (fun x y=>by
 unfold MK;rw[AF,aQ,aQ,aQ,vP,vP];grind) h
theorem Fp (h:vI K (fun x y=>x - y) vs H Q E):Fs K Kb vs H Q E:=EI (fun x y=>by
 unfold Kb;rw[Rat.intCast_sub,aQ,aQ,aQ,vP,vP];grind) h
theorem FD (h:vI K (fun x y=>x*y) vs H Q E):Fs K Ka vs H Q E:=EI (fun x y=>by
 unfold Ka;rw[aQ,aQ,vP,vP];grind) h
end
def E9 (M:Int) (ns:List (Int×Int)):Prop:=0 < M/\Sz 4400 M/\∀n∈ns,0 < n.2/\n.2∣M/\Sz 4400 n.1
theorem E9.bot {M:Int} {ns:List (Int×Int)} (h:E9 M ns):0 < gY ns/\Sz 4400 (gY ns):=by
 have hb:∀b∈ns.map (·.2),0 < b/\b∣M:=fun b hb=>by
  obtain ⟨n,hn,rfl⟩:=aD.mp hb;exact ⟨(h.2.2 n hn).1,(h.2.2 n hn).2.1⟩
 exact ⟨Ak (by decide) fun b q=>(hb b q).1,Cy h.1 (yX (by decide) (Int.one_dvd _) hb) h.2.1⟩
def M9 (K:PySem.W.Frag):Sp:=fun vs H Q _=>∃(p:Addr) (bs:List Int) (M:Int),vs=[.ref p]/\bV K H p (bs.map V.int)/\0 < M/\Sz 4400 M/\(∀b∈bs,0 < b/\b∣M)/\Q (.int (xV bs 1)) H
def Na (K:PySem.W.Frag):Sp:=fun vs H Q _=>∃(p:Addr) (ns:List (Int×Int)) (M:Int),vs=[.ref p]/\CY K H p ns/\ns.length<=1000/\E9 M ns/\∀H',aL H H'->Q (.int (gY ns)) H'
def IK (K:PySem.W.Frag):Sp:=fun vs H Q _=>∃(p:Addr) (ns:List (Int×Int)) (M:Int) (B:Int),vs=[.ref p,.int B]/\CY K H p ns/\ns.length<=1000/\E9 M ns/\0 < B/\Sz 4400 B /\
 ∀r H',H r=none->aL H H'->H' r=some (.lst ((fo ns B).map V.int))->Q (.ref r) H'
theorem C9 {M:Int} {ns:List (Int×Int)} {B t:Int} (h:E9 M ns) (hB:0 < B) (sB:Sz 4400 B) (ht:t∈fo ns B):Sz 8800 t:=by
 obtain ⟨n,hn,rfl⟩:=aD.mp ht;have hp:=h.2.2 n hn
 have sq:Sz 4400 (B / n.2):=sB.le (by
  rw[Oy (by lia)];exact Nat.div_le_self ..)
 exact (hp.2.2.mul sq).mono (by lia)
theorem sT {x:Rat} {B:Int} (h:(nm x).2∣B):(((nm x).1*(B / (nm x).2):Int):Rat)=x*(B:Rat):=by
 obtain ⟨k,rfl⟩:=h;have hp:=j6 x;rw[Int.mul_ediv_cancel_left _ (by lia),aQ,aQ,vP];grind
theorem DL {B C : Int} : ∀ {xs ys : List Rat}, (∀ x ∈ xs, (nm x).2 ∣ B) → (∀ y ∈ ys, (nm y).2 ∣ C) → (((List.zipWith (· * ·) (fo (xs.map nm) B) (fo (ys.map nm) C)).sum : Int) : Rat) = dW xs ys * ((B : Rat) * (C : Rat))
  | [], ys, _, _ => by simp [fo, dW]
  | x :: xs, [], _, _ => by simp [fo, dW]
  | x :: xs, y :: ys, h1, h2 => by
    have ih := DL (B := B) (C := C) (xs := xs) (ys := ys) (fun z hz => h1 z (.tail _ hz)) (fun z hz => h2 z (.tail _ hz));have e1 := sT (h1 x (.head _));have e2 := sT (h2 y (.head _));have e3 : (List.zipWith (· * ·) (fo ((x :: xs).map nm) B) (fo ((y :: ys).map nm) C)).sum = ((nm x).1 * (B / (nm x).2)) * ((nm y).1 * (C / (nm y).2)) + (List.zipWith (· * ·) (fo (xs.map nm) B) (fo (ys.map nm) C)).sum := rfl;have e4 : dW (x :: xs) (y :: ys) = x * y + dW xs ys := rfl;rw [e3, e4, AF, aQ, ih, e1, e2];grind
theorem L4 {xs ys:List Rat} (h1:0 < gY (xs.map nm)) (h2:0 < gY (ys.map nm)):(lo (Kh (xs.map nm) (ys.map nm)) (gY (xs.map nm)*gY (ys.map nm)),hi (Kh (xs.map nm) (ys.map nm)) (gY (xs.map nm)*gY (ys.map nm)))=nm (dW xs ys):=by
 refine rn (sP h1 h2) ?_;unfold Kh;rw[DL (fun x hx=>qN (aD.mpr ⟨x,hx,rfl⟩)) (fun x hx=>qN (aD.mpr ⟨x,hx,rfl⟩)),aQ]
def IJ (K:PySem.W.Frag):Sp:=fun vs H Q _=>∃(p:Addr) (w:Nat) (H0:Hp) (rows:List (List Rat)),vs=[.ref p,.int w]/\bO K H0 H p rows/\rows.length<=1000/\w<=1000/\(∀xs∈rows,xs.length=w) /\
 ∀r H',H r=none->aL H H'->bO K H H' r (bC rows w)->Q (.ref r) H'
def Eo (K:PySem.W.Frag):Sp:=fun vs H Q _=>∃(b:Addr) (w:Nat),vs=[.ref b,.int w]/\ig H b/\1<=w/\w<=1000000/\∀r x H',Dr (max w 6) x->cB K H' x (.ref r)->ig H' b->cV b H H'->Q (.ref r) H'
def IX (K:PySem.W.Frag):Sp:=fun vs H Q _=>∃(b:Addr) (m w:Nat),vs=[.ref b,.int m,.int w]/\ig H b/\m<=1000/\1<=w/\w<=1000000 /\
 ∀r xs H',H r=none->cR K H' r xs->xs.length=m->(∀x∈xs,Dr (max w 6) x)->ig H' b->cV b H H'->Q (.ref r) H'
def IP (K:PySem.W.Frag):Sp:=fun vs H Q _=>∃(p q:Addr) (xs ys:List Rat),vs=[.ref p,.ref q]/\cR K H p xs/\cR K H q ys/\ys.length=xs.length/\xs.length<=1000/\(∀x∈xs,uf x)/\(∀y∈ys,uf y) /\
 ∀r H',H r=none->aL H H'->cR K H' r (List.zipWith (fun x y=>x+y) xs ys)->Q (.ref r) H'
def Nb (K:PySem.W.Frag):Sp:=fun vs H Q _=>∃(u:V) (q:Addr) (c:Rat) (ys:List Rat),vs=[u,.ref q]/\cB K H c u/\uf c/\cR K H q ys/\ys.length<=1000/\(∀y∈ys,uf y) /\
 ∀r H',H r=none->aL H H'->cR K H' r (ys.map fun y=>c*y)->Q (.ref r) H'
def Et (K:PySem.W.Frag):Sp:=fun vs H Q _=>∃(p:Addr) (H0:Hp) (rows:List (List Rat)),vs=[.ref p]/\bO K H0 H p rows/\rows.length<=1000/\(∀xs∈rows,xs.length<=1000)/\∀r H',H r=none->aL H H'->bO K H H' r rows->Q (.ref r) H'
section
variable {K:PySem.W.Frag} {a:Addr} {xs:List V} {g:TG} {tf:TT} {te:TE} {Q:VK} {σ₀:St} {H:Hp} {α β:Type}
theorem gD {as:List α} {F:Hp->α->V->Prop} (G:Hp->β->V->Prop) (f:α->β) (hx:H a=some (.lst xs)) (pf:Paired (F H) as xs) (hl:as.length<=1000)
  (hF:∀{H H' c x},F H c x->aL H H'->F H' c x) (hG:∀{H H' c x},G H c x->aL H H'->G H' c x)
  (hs:∀(i:Nat) c x H' NY NN,as[i]?=some c->aL H H'->F H' c x->(∀y H2,aL H' H2->G H2 (f c) y->NY y H2)->sU σ₀ g tf te x H' NY NN)
  (hd:∀ys H' p,H p=none->aL H H'->H' p=some (.lst ys)->Paired (G H') (as.map f) ys->(∃H2,H2 p=none/\Paired (G H2) (as.map f) ys)->Q (.ref p) H'):uw (Me K a) σ₀ g tf te Q H:=by
 have lx:=pf.length;refine fE (K:=K) (xs:=xs) (fun i ys H'=>aL H H'/\Paired (G H') ((as.take i).map f) ys) (bp (bK (by lia))) ⟨aL.refl _,.nil⟩ (fun i ys H' _ ⟨s,_⟩=>bV.of (s _ _ hx)) ?_ ?_
 ·rintro i x ys H' hx' hlen ⟨s,pr⟩;obtain ⟨c,ec,hc⟩:=cH pf hx';refine hs i c x H' _ _ ec s (hF hc s) fun y H2 s2 gy=>⟨s.trans s2,?_⟩
  rw[take_snoc ec,fh];exact b6 (Paired.imp' (fun _ _ z=>hG z s2) pr) (.cons gy .nil)
 ·rintro ys H' hy ⟨s,pr⟩ p hp;rw[aI (by lia)] at pr;exact hd ys _ p (s.none hp) (s.trans (aL.new hp)) aK (Paired.imp' (fun _ _ z=>hG z (aL.new hp)) pr) ⟨H',hp,pr⟩
theorem gC {n:Nat} (G:Hp->β->V->Prop) (f:Nat->β) (hl:n<=1000) (hG:∀{H H' c x},G H c x->aL H H'->G H' c x)
  (hs:∀(i:Nat) H' NY NN,i < n->aL H H'->(∀y H2,aL H' H2->G H2 (f i) y->NY y H2)->sU σ₀ g tf te (.int i) H' NY NN)
  (hd:∀ys H' p,H p=none->aL H H'->H' p=some (.lst ys)->Paired (G H') ((List.range n).map f) ys->(∃H2,H2 p=none/\Paired (G H2) ((List.range n).map f) ys)->Q (.ref p) H'):uw (D4 0 n) σ₀ g tf te Q H:=by
 refine rJ (fun i ys H'=>aL H H'/\Paired (G H') ((List.range i).map f) ys) (bp (bK (by lia))) ⟨aL.refl _,.nil⟩ ?_ ?_
 ·rintro i ys H' hi hlen ⟨s,pr⟩;rw[zm];refine hs i H' _ _ hi s fun y H2 s2 gy=>⟨s.trans s2,?_⟩
  rw[AG,fh];exact b6 (Paired.imp' (fun _ _ z=>hG z s2) pr) (.cons gy .nil)
 ·rintro ys H' hy ⟨s,pr⟩ p hp;exact hd ys _ p (s.none hp) (s.trans (aL.new hp)) aK (Paired.imp' (fun _ _ z=>hG z (aL.new hp)) pr) ⟨H',hp,pr⟩
theorem Ia {n:Nat} {b:Addr} (G:Hp->β->V->Prop) (C:β->Prop) (hB:ig H b) (hl:n<=1000) (hG:∀{H' H'' c x},G H' c x->cV b H' H''->ig H' b->G H'' c x)
  (hs:∀(i:Nat) H' NY NN,i < n->cV b H H'->ig H' b->(∀y c H2,cV b H' H2->ig H2 b->C c->G H2 c y->NY y H2)->sU σ₀ g tf te (.int i) H' NY NN)
  (hd:∀ys cs H' p,H p=none->cV b H H'->ig H' b->H' p=some (.lst ys)->cs.length=n->(∀c∈cs,C c)->Paired (G H') cs ys->(∃H2,H2 p=none/\Paired (G H2) cs ys)->Q (.ref p) H'):uw (D4 0 n) σ₀ g tf te Q H:=by
 refine rJ (fun i ys H'=>cV b H H'/\ig H' b/\∃cs,cs.length=i/\(∀c∈cs,C c)/\Paired (G H') cs ys) (bp (bK (by lia))) ⟨(aL.refl _).upto,hB,[],rfl,(fun _ z=>nomatch z),.nil⟩ ?_ ?_
 ·rintro i ys H' hi hlen ⟨u,B,cs,lc,hc,pr⟩;rw[zm];refine hs i H' _ _ hi u B fun y c H2 u2 B2 cc gy=>⟨u.trans u2,B2,cs++[c],by simp [lc],CN hc cc,b6 (Paired.imp' (fun _ _ z=>hG z u2 B) pr) (.cons gy .nil)⟩
 ·rintro ys H' hy ⟨u,B,cs,lc,hc,pr⟩ p hp;have s:aL H' (upd H' p (.lst ys)):=aL.new hp;exact hd ys cs _ p (u.none B hp) (u.same s) (B.same s) aK lc hc (Paired.imp' (fun _ _ z=>hG z s.upto B) pr) ⟨H',hp,pr⟩
end
section
variable {X:Cx}
theorem fM {n:Nat} {g:TG} {tb:TS} {D:Ends} {σ:St} {H:Hp} (Pv:Nat->St->Hp->Prop) (h0:Pv 0 σ H)
  (hs:∀(i:Nat) σ H,i < n->Pv i σ H->g (.int i) σ H fun σ2 H2=>tb { D with nx:=Pv (i+1),ct:=Pv (i+1),bk:=D.nx } σ2 H2) (hd:∀σ H,Pv n σ H->D.nx σ H) :
  ∃W:Nat->Nat->St->Hp->Prop,(∃m,W 0 m σ H)/\∀i m σ H,W i m σ H →
   ((D4 0 n).stop i H/\D.nx σ H)\/((D4 0 n).go i H/\∃N:St->Hp->Prop,(∀σ' H',N σ' H'->∃m',m' < m/\W (i+1) m' σ' H')/\∀x H',(D4 0 n).yld i H x H'->g x σ H' fun σ2 H2=>tb { D with nx:=N,ct:=N,bk:=D.nx } σ2 H2) :=
 Bl (lo:=0) Pv h0 (fun i σ H hi p=>by rw[zm];exact hs i σ H hi p) hd
theorem qL:vC X (.type "int") (fun xs H Q=>∃b:Bool,xs=[.bl b]/\Q (.int (if b=true then 1 else 0)) H):=by
 intro pins s σ H xs us Q I r h;obtain ⟨b,rfl,q⟩:=h;obtain ⟨u,rfl,ru⟩:=vals1 r;cases ru;exact call_int_bool ⟨.int _,H,I.tok _,⟨_,rfl⟩,q⟩
theorem Jq {st:Stmt}:PS X st (fun _ _ _=>False):=fun _ _ _ _ _ _ h=>h.elim
end
theorem JJ {t b:Int} {W:Nat} (hb:0 < b) (h1:t.natAbs<=W) (h2:b.natAbs<=W):∃q:Rat,(lo t b,hi t b)=nm q/\Dr W q/\q*(b:Rat)=(t:Rat):=by
 have hb':(b:Rat)≠0:=fun z=>by have:=yF.mp z;lia
 have e:(t:Rat) / (b:Rat)*(b:Rat)=t:=Rat.div_mul_cancel hb';have h:=rn hb e;refine ⟨_,h,⟨?_,?_⟩,e⟩
 ·have:=congrArg Prod.fst h;have z:=lo_le (t:=t) (b:=b) (by lia);show ((nm ((t:Rat) / (b:Rat))).1).natAbs<=W
  rw[<- this];exact ah z h1
 ·have:=congrArg Prod.snd h;have z:=MI (t:=t) (b:=b) (by lia);have hd:(((t:Rat) / (b:Rat)).den:Int)=hi t b:=this.symm;have hp:=Cu (t:=t) hb
  lia
theorem JR {K:PySem.W.Frag} {H:Hp} {qs:List Rat} {xs:List V} (h:Paired (cB K H) qs xs) {j:Nat} (hj:j < qs.length):∃v,E6 xs (j:Int)=some v/\cB K H (qs.getD j 0) v:=by
 have hl:=h.length;refine ⟨xs[j]'(by lia),gN (by simp),?_⟩;have:=kN h (i:=j) hj (by lia);rwa [aa,ag hj]
theorem Bn {xs ys:List Rat} {i:Nat} (h1:i < xs.length) (h2:i < ys.length):dW (xs.take (i+1)) (ys.take (i+1))=dW (xs.take i) (ys.take i)+xs.getD i 0*ys.getD i 0:=by
 have e1:xs[i]?=some (xs.getD i 0):=by rw[aa,ag h1];rfl
 have e2:ys[i]?=some (ys.getD i 0):=by rw[aa,ag h2];rfl
 unfold dW;rw[take_snoc e1,take_snoc e2,List.zipWith_append (by simp;lia),List.sum_append];simp [zh]
theorem getD_mem {xs:List Rat} {i:Nat} (h:i < xs.length):xs.getD i 0∈xs:=by
 rw[aa,ag h];exact aT h
theorem Gv {xs ys:List Rat} (h:ys.length=xs.length):List.zipWith (fun x y=>x+y) xs ys=(List.range xs.length).map fun i=>xs.getD i 0+ys.getD i 0:=by
 apply Gu;intro i;rw[cU,aN];by_cases hi:i < xs.length
 ·rw[iT hi,ag hi,ag (show i < ys.length by lia)];simp [aa,ag hi,ag (show i < ys.length by lia)]
 ·rw[aS (show (List.range xs.length).length<=i by simp;lia),aS (show xs.length<=i by lia)];rfl
theorem dq.updL {K:PySem.W.Frag} {H0 H:Hp} {qs:List Rat} {x:V} {l:Addr} {ys:List V} {o:HO} (h:dq K H0 H qs x) (hl:H l=some (.lst ys)) (nl:H0 l≠none):dq K H0 (upd H l o) qs x:=by obtain ⟨q,a,b,c⟩:=h;exact ⟨q,a,b,c.updL hl fun z=>nl (by rw[<- z];exact b)⟩
theorem ig.at {H:Hp} {b:Addr} (B:ig H b):H b≠none:=by obtain ⟨_,_,_,_,_,e,_⟩:=B;rw[e];simp
theorem Inner.at {H:Hp} {b q:Addr} (B:ig H b) (i:Inner H b q):H q≠none:=by
 obtain ⟨q',i',xs,e⟩:=B.inner;rw[<- Inner.inj i' i,e];simp
theorem h9 {α β:Type} {F:α->β->Prop} {l1:List α} {l2:List β} {i:Nat} (h:Paired F l1 l2) (hi:i < l1.length):∃x y,l1[i]?=some x/\l2[i]?=some y/\x∈l1/\F x y:=by
 have hl:=h.length;exact ⟨l1[i],l2[i]'(by lia),by simp,by simp,aT _,kN h hi (by lia)⟩
section
variable {α β:Type} [DecidableEq α] [DecidableEq β] (k1:Kind α) (k2:Kind β)
theorem xB {X:Cx} {pins:List (Addr×Obj)} {σ:St} {H:Hp} {s:Shared} {A:Around} (I:Inv X pins σ H s) (h1:A.units+k1.d < cLine) (h2:A.units+k2.d < cLine) {x y z w:V} {us ws:List Value} {a b:α×β}
  (rx:cL [x,y] us) (ry:cL [z,w] ws) (a1:k1.R X.K H x a.1) (a2:k2.R X.K H y a.2) (b1:k1.R X.K H z b.1) (b2:k2.R X.K H w b.2) :
  ∀j (h1:j < us.toArray.size) (h2:j < ws.toArray.size),SeqAt.EqAt A s us.toArray[j] ws.toArray[j] (if j=0 then decide (a.1=b.1) else decide (a.2=b.2)):=fun j l1 l2=>by
 obtain ⟨u1,u2,rfl,r1,r2⟩:=vals2 rx;obtain ⟨w1,w2,rfl,q1,q2⟩:=vals2 ry;have hj:j < 2:=by simpa using l1
 rcases dh j 1 with h | h
 ·have e:j=0:=by lia
  subst e;exact k1.eq (A:=A) I r1 q1 a1 b1 h1
 ·have e:j=1:=by lia
  subst e;exact k2.eq (A:=A) I r2 q2 a2 b2 h2
theorem BM {a b:α×β}:(List.range 2).all (fun j=>if j=0 then decide (a.1=b.1) else decide (a.2=b.2))=decide (a=b):=by
 have e:List.range 2=[0,1]:=rfl;rw[e];simp only[OG,List.all_nil,Bool.and_true,if_true,Nat.one_ne_zero,if_false];rw[<- Bool.decide_and];exact decide_eq_decide.mpr ⟨fun ⟨h1,h2⟩=>Prod.ext h1 h2,fun h=>by rw[h];exact ⟨rfl,rfl⟩⟩
def MC:Kind (α×β) where
 R:=fun K H x a=>∃p u v,x=.ref p/\oI K H p [u,v]/\k1.R K H u a.1/\k2.R K H v a.2
 d:=max k1.d k2.d+1
 inj:=fun {X pins σ H s x a b} I h1 h2=>by
  obtain ⟨p,u,v,rfl,hp,a1,a2⟩:=h1;obtain ⟨q,u',v',e,hq,b1,b2⟩:=h2;cases e;have e:=I.tuple_inj hp hq;cases e;exact Prod.ext (k1.inj I a1 b1) (k2.inj I a2 b2)
 rc:=fun {X pins σ H s x y v u a b A} I rx ry h1 h2 hA=>by
  obtain ⟨p,x1,x2,rfl,hp,a1,a2⟩:=h1;obtain ⟨q,y1,y2,rfl,hq,b1,b2⟩:=h2;cases rx;cases ry;obtain ⟨us,r1,t1,_⟩:=I.tuple hp;obtain ⟨ws,r2,t2,_⟩:=I.tuple hq;have l1:=r1.length;have l2:=r2.length;have z:=SeqAt.RcAt.tuples (A:=A) (e:=fun j=>if j=0 then decide (a.1=b.1) else decide (a.2=b.2)) (show s.heap.IsTuple p us.toArray from t1) (show s.heap.IsTuple q ws.toArray from t2) (by lia) (xB k1 k2 (A:=A.in1) I (by show A.units+1+k1.d < cLine;lia) (by show A.units+1+k2.d < cLine;lia) r1 r2 a1 a2 b1 b2);have e1:us.toArray.size=2:=by rw[aJ,<- l1];rfl
  have e2:ws.toArray.size=2:=by rw[aJ,<- l2];rfl
  rw[e1,e2,pU,BM] at z;simpa using z
 ne:=fun {X pins σ H s x y v u a b A} I rx ry h1 h2 hA=>by
  obtain ⟨p,x1,x2,rfl,hp,a1,a2⟩:=h1;obtain ⟨q,y1,y2,rfl,hq,b1,b2⟩:=h2;cases rx;cases ry;obtain ⟨us,r1,t1,_⟩:=I.tuple hp;obtain ⟨ws,r2,t2,_⟩:=I.tuple hq;have l1:=r1.length;have l2:=r2.length;have z:=SeqAt.RcNeAt.tuples (A:=A) (e:=fun j=>if j=0 then decide (a.1=b.1) else decide (a.2=b.2)) (show s.heap.IsTuple p us.toArray from t1) (show s.heap.IsTuple q ws.toArray from t2) (by lia) (xB k1 k2 (A:=A.in1) I (by show A.units+1+k1.d < cLine;lia) (by show A.units+1+k2.d < cLine;lia) r1 r2 a1 a2 b1 b2);have e1:us.toArray.size=2:=by rw[aJ,<- l1];rfl
  have e2:ws.toArray.size=2:=by rw[aJ,<- l2];rfl
  rw[e1,e2,pU,BM] at z;simpa using z
 eq:=fun {X pins σ H s x y v u a b A} I rx ry h1 h2 hA=>by
  obtain ⟨p,x1,x2,rfl,hp,a1,a2⟩:=h1;obtain ⟨q,y1,y2,rfl,hq,b1,b2⟩:=h2;cases rx;cases ry;by_cases e:p=q
  ·subst e;have e:=I.tuple_inj hp hq;cases e;have e2:a=b:=Prod.ext (k1.inj I a1 b1) (k2.inj I a2 b2);rw[decide_eq_true e2];exact SeqAt.EqAt.same _
  ·obtain ⟨us,r1,t1,_⟩:=I.tuple hp;obtain ⟨ws,r2,t2,_⟩:=I.tuple hq;have l1:=r1.length;have l2:=r2.length;have z:=SeqAt.RcAt.tuples (A:=A) (e:=fun j=>if j=0 then decide (a.1=b.1) else decide (a.2=b.2)) (show s.heap.IsTuple p us.toArray from t1) (show s.heap.IsTuple q ws.toArray from t2) (by lia) (xB k1 k2 (A:=A.in1) I (by show A.units+1+k1.d < cLine;lia) (by show A.units+1+k2.d < cLine;lia) r1 r2 a1 a2 b1 b2);have e1:us.toArray.size=2:=by rw[aJ,<- l1];rfl
   have e2:ws.toArray.size=2:=by rw[aJ,<- l2];rfl
   rw[e1,e2,pU,BM] at z;exact .of_refs e (by simpa using z)
end
theorem CJ {i j:Int} (h1:-(2^64) < i) (h2:i < 2^64):kv i j:=.inl (.inl ⟨h1,h2⟩)
theorem FZ {i j:Int} (h1:-(2^64) < j) (h2:j < 2^64):kv i j:=.inl (.inr ⟨h1,h2⟩)
def OB (K : PySem.W.Frag) (l : Addr) : It :=
  ⟨fun i H => ∃ xs x, bV K H l xs /\ xs[i]? = some x,
   fun i H v H' => ∃ p x, v = .ref p /\ H p = none /\ H' = upd H p (.tup [.int i, x]) /\ ∀ xs, bV K H l xs → xs[i]? = some x,
   fun i H => ∃ xs, bV K H l xs /\ xs.length ≤ i⟩
def tnE (e it l:Addr) (i:Nat) (h:Heap):Prop:=(∃old,IsEnum h e it i old)/\h.IsListIter it l i
theorem GA {P:Program} {w:World} {K:PySem.W.Frag} {elts:List Expr} {kk:Nat} {tpos:Pos} (e it l:Addr) (hei:e≠it):Turn P w K (.Tuple elts kk tpos) (OB K l) [e,it] e (tnE e it l) where
 mem:=by simp
 obj:=fun i h st b hb=>by
  obtain ⟨⟨old,he⟩,⟨o1,g1,c1,d1⟩⟩:=st;simp only[aG,aZ,or_false] at hb;rcases hb with rfl | rfl
  ·exact ⟨_,he,fun v q=>nomatch q⟩
  ·exact ⟨o1,g1,fun v q=>by rw[d1] at q;cases q⟩
 keep:=fun i h h' st k=>by
  obtain ⟨⟨old,he⟩,h1⟩:=st;exact ⟨⟨old,k e (by simp) _ he⟩,h1.at fun o q=>k it (by simp) o q⟩
 item:=by
  intro X hP hw hK hc i pins s σ H E I hf st hg;subst hP hw hK;obtain ⟨⟨old,he⟩,h1⟩:=st;obtain ⟨xs,x,qx,ex⟩:=hg;obtain ⟨us,rx,px,_⟩:=I.list qx;obtain ⟨u,eu,ru⟩:=rx.get ex;refine wpAny_pyNext_enum_item he h1 px.isList (x:=u) (by simpa using eu) hei fun h' a1 a2 a3 a4 hk=>?_
  refine ⟨_,rfl,wpAny_letOwnedTupleGo_enum a1 fun h'' he'' hs=>?_⟩;have hT0:H s.heap.objs.size=none:=I.hok.fresh (av _);have ene:s.heap.objs.size≠e:=Gn (Heap.lt_size he)
  have up:∀b o,b∉[e,it]->s.heap.get? b=some o->h''.get? b=some o:=fun b o hb q=>by
   simp only[aG,aZ,or_false,not_or] at hb;exact (hs.2 b hb.1).trans (hk b o hb.1 hb.2 q)
  have tup:h''.get? s.heap.objs.size=some { cls:=.type "tuple",data:=.seq #[.int i s.toks,u] }:=(hs.2 _ ene).trans a3;have I1:Inv X pins σ H { s with heap:=h'',toks:=s.toks+1 }:=I.moved (g':=s.gens) (d':=s.drawn) (t':=s.toks+1) (ch:=[e,it]) hf up I.bare;have fT:kX X pins H s.heap.objs.size:=I.fpOk (av _) hT0;have I2:=I1.track (o:=.tup [.int i,x]) fT ⟨jO rfl,[.int i s.toks,u],.cons ⟨_,rfl⟩ (.cons ru .nil),⟨_,tup,rfl,_,rfl⟩⟩;refine ⟨.ref s.heap.objs.size,_,I2,rfl,⟨_,x,rfl,hT0,rfl,fun xs' q=>by rw[I.list_inj q qx];exact ex⟩,?_,fun b hb=>?_⟩
  ·exact ⟨⟨_,by simpa using he''⟩,a2.at fun o q=>(hs.2 _ hei.symm).trans q⟩
  ·rw[bu]
   ·exact (hf b hb).1
   ·obtain ⟨o1,g1,_⟩:=h1;simp only[aG,aZ,or_false] at hb;rcases hb with rfl | rfl
    ·exact ene.symm
    ·exact b7 (Heap.lt_size g1)
 done:=by
  intro X hP hw hK hc i pins s σ H E I hf st hg;subst hP hw hK;obtain ⟨⟨old,he⟩,h1⟩:=st;obtain ⟨xs,qx,hend⟩:=hg;obtain ⟨us,rx,px,_⟩:=I.list qx;have lx:=rx.length;refine wpAny_pyNext_enum_end (I.ok.hd hc) he h1 px.isList (by simp;lia) fun h' hk=>⟨rfl,?_⟩
  exact I.moved (g':=s.gens) (d':=s.drawn) (t':=s.toks) (ch:=[e,it]) hf (fun b o hb q=>hk b o (fun z=>hb (by simp [z])) q) I.bare
 self:=fun _ _ _ _ _ st h=>let ⟨⟨_,he⟩,_⟩:=st;wpAny_pyIter_enum he h
section
variable {X:Cx}
def MH (K:PySem.W.Frag) (ta:TA):TI:=fun σ H R=>ta σ H fun vs H1=>∃l,vs=[.ref l]/\(∃xs,bV K H1 l xs)/\R (OB K l) H1
theorem LI {a:Expr} {ta:TA} {p pos tpos:Pos} {elts:List Expr} {kk:Nat} (hg:Gl X "enumerate") (hm:X.mg "enumerate"=none) (ha:PA X [a] ta) (hs:starEach [a] X.env=[(false,eval a X.env)]:=by rfl) :
  PI X (.Tuple elts kk tpos) (.Call (.Name "enumerate" p) [a] [] pos) (MH X.K ta):=by
 intro pins s σ H R I h;refine Call_ (kR I hg hm boot_enumerate (PyProof.Rows.callWith_type1 (fP (ha pos pins s σ H _ I h) fun us s1 ⟨vs,H1,I1,r1,q1⟩=>?_) (by rw[hs];rfl) rfl));obtain ⟨l,e,⟨xs,qx⟩,q⟩:=q1;subst e;obtain ⟨u,rfl,ru⟩:=vals1 r1;cases ru;obtain ⟨us,rx,px,_⟩:=I1.list qx;refine call_enumerate_list px.isList fun h' a1 a2 a3 hk=>wpAny_pyIter_enum a1 ?_
 have I2:Inv X pins σ H1 { s1 with heap:=h' }:=I1.kept (t':=s1.toks) hk;refine ⟨_,[s1.heap.objs.size+1,s1.heap.objs.size],_,_,H1,rfl,I2,GA (s1.heap.objs.size+1) s1.heap.objs.size l (Nat.succ_ne_self _),⟨⟨_,a1⟩,a2⟩,fun b hb=>?_,q⟩
 have hb':s1.heap.objs.size<=b:=by
  simp only[aG,aZ,or_false] at hb;rcases hb with rfl | rfl <;> first | exact sN _ | exact av _
 exact I1.fpOk hb' (I1.hok.fresh hb')
end
theorem Jm {K:PySem.W.Frag} {ta:TA} {R:It->Hp->Prop} {σ:St} {H:Hp} (h:ta σ H fun vs H1=>∃l,vs=[.ref l]/\(∃xs,bV K H1 l xs)/\R (OB K l) H1):MH K ta σ H R:=h
theorem J8 {K:PySem.W.Frag} {l:Addr} {xs:List V} {g:TG} {tb:TS} {D:Ends} {σ:St} {H:Hp} (Pv:Nat->St->Hp->Prop) (h0:Pv 0 σ H) (hl:∀i σ H,i<=xs.length->Pv i σ H->bV K H l xs)
  (hs:∀i x σ H p,xs[i]?=some x->Pv i σ H->H p=none->g (.ref p) σ (upd H p (.tup [.int i,x])) fun σ2 H2=>tb { D with nx:=Pv (i+1),ct:=Pv (i+1),bk:=D.nx } σ2 H2) (hd:∀σ H,Pv xs.length σ H->D.nx σ H) :
  ∃W:Nat->Nat->St->Hp->Prop,(∃m,W 0 m σ H)/\∀i m σ H,W i m σ H →
   ((OB K l).stop i H/\D.nx σ H)\/((OB K l).go i H/\∃N:St->Hp->Prop,(∀σ' H',N σ' H'->∃m',m' < m/\W (i+1) m' σ' H')/\∀x H',(OB K l).yld i H x H'->g x σ H' fun σ2 H2=>tb { D with nx:=N,ct:=N,bk:=D.nx } σ2 H2):=by
 refine ⟨fun i m σ H=>m=xs.length - i/\i<=xs.length/\Pv i σ H,⟨xs.length,by simp,aY _,h0⟩,?_⟩;rintro i m σ H ⟨rfl,hi,p⟩;have q1:=hl i σ H hi p;by_cases hlt:i < xs.length
 ·refine .inr ⟨⟨xs,xs[i],q1,by simp [hlt]⟩,Pv (i+1),fun σ' H' p'=>⟨xs.length - (i+1),by lia,rfl,hlt,p'⟩,fun x H' y=>?_⟩;obtain ⟨r,x',rfl,hr,rfl,e1⟩:=y;exact hs i x' σ _ r (e1 xs q1) p hr
 ·have e:i=xs.length:=by lia
  subst e;exact .inl ⟨⟨xs,q1,av _⟩,hd σ H p⟩
section
variable {X:Cx}
theorem FA (K:PySem.W.Frag) {e:Expr} {f:Str} {pos:Pos} {ta:TE} (he:PE X e ta) (hb:attributeBase e f X.env (eval e X.env)=eval e X.env) (hK:X.K=K:=by rfl):PE X (.Attribute e f pos) (M4 K ta f):=by subst hK;exact fD he hb
end
theorem NF {K:PySem.W.Frag} {ta:TE} {f:Str} {σ:St} {H:Hp} {Q:VK} (h:ta σ H fun x H1=>∃a C dx fs v,x=.ref a/\H1 a=some (.ins C dx fs)/\Ig K C/\kr K C f/\fs.lookup f=some v/\Q v H1):M4 K ta f σ H Q:=h
theorem Lh {K:PySem.W.Frag} {ta tv:TE} {f:Str} {D:Ends} {σ:St} {H:Hp} (h:tv σ H fun y H1=>ta σ H1 fun x H2=>∃a C dx fs,x=.ref a/\H2 a=some (.ins C dx fs)/\Ig K C/\kr K C f/\fs.length < 1000 /\
 D.nx σ (upd H2 a (.ins C dx (cm f y fs)))):O0 K ta tv f D σ H:=h
theorem Ll {C:Addr} {m:Str} {sp:Sp} {E:XK} {ta:TE} {t:TA} {σ:St} {H:Hp} {Q:VK} (h:ta σ H fun x H1=>∃a dx fs,x=.ref a/\H1 a=some (.ins C dx fs)/\fs.lookup m=none /\
 t σ H1 fun vs H2=>sp (x :: vs) H2 Q E):IA C m sp [] E ta t σ H Q:=by
 have e:(fun (x:V) H1=>∃a dx fs,x=.ref a/\H1 a=some (.ins C dx fs)/\fs.lookup m=none/\t σ H1 fun vs H2=>sp (x :: (vs++[])) H2 Q E)=fun x H1=>∃a dx fs,x=.ref a/\H1 a=some (.ins C dx fs)/\fs.lookup m=none/\t σ H1 fun vs H2=>sp (x :: vs) H2 Q E:=by
  funext x H1;simp only[sR]
 show ta σ H (fun (x:V) H1=>∃a dx fs,x=.ref a/\H1 a=some (.ins C dx fs)/\fs.lookup m=none/\t σ H1 fun vs H2=>sp (x :: (vs++[])) H2 Q E)
 rw[e];exact h
theorem Lm {C:Addr} {sp:Sp} {E:XK} {t:TA} {σ:St} {H:Hp} {Q:VK} (h:t σ H fun vs H1=>∀x dx,H1 x=none->H1 dx=none->dx≠x →
 sp (.ref x :: vs) (upd (upd H1 dx (.own x)) x (.ins C dx [])) (fun v H2=>v=.non/\Q (.ref x) H2) E):Mp C sp [] E t σ H Q:=by
 have e:(fun vs (H1:Hp)=>∀x dx,H1 x=none->H1 dx=none->dx≠x->sp (.ref x :: (vs++[])) (upd (upd H1 dx (.own x)) x (.ins C dx [])) (fun v H2=>v=.non/\Q (.ref x) H2) E)=fun vs H1=>∀x dx,H1 x=none->H1 dx=none->dx≠x->sp (.ref x :: vs) (upd (upd H1 dx (.own x)) x (.ins C dx [])) (fun v H2=>v=.non/\Q (.ref x) H2) E:=by
  funext vs H1;simp only[sR]
 show t σ H (fun vs (H1:Hp)=>∀x dx,H1 x=none->H1 dx=none->dx≠x->sp (.ref x :: (vs++[])) (upd (upd H1 dx (.own x)) x (.ins C dx [])) (fun v H2=>v=.non/\Q (.ref x) H2) E)
 rw[e];exact h
def C2 (x:Addr) (H H':Hp):Prop:=∀b o,H b=some o->b≠x->H' b=some o
theorem C2.upd {x:Addr} {H:Hp} {o:HO}:C2 x H (L2.upd H x o):=fun b u h n=>by rw[bu n];exact h
def vB (H:Hp) (x:Addr):Prop:=∃C dx fs,H x=some (.ins C dx fs)
section
variable {K:PySem.W.Frag} {H H' H0:Hp} {q:Rat} {v:V} {x p:Addr} {qs:List Rat} {rows:List (List Rat)}
theorem cB.exc (h:cB K H q v) (e:C2 x H H') (hx:vB H x):cB K H' q v:=by
 obtain ⟨C,dx,fs,hx⟩:=hx;obtain ⟨r,er,s⟩:=h;refine ⟨r,er,?_⟩;rcases s with (h | ⟨o,h⟩) | h
 ·exact .inl (.inl (e _ _ h fun z=>by rw[z,hx] at h;cases h))
 ·exact .inl (.inr ⟨o,e _ _ h fun z=>by rw[z,hx] at h;cases h⟩)
 ·exact .inr h
theorem cR.exc (h:cR K H p qs) (e:C2 x H H') (hx:vB H x):cR K H' p qs:=by
 obtain ⟨xs,g,r⟩:=h;have hx':=hx;obtain ⟨C,dx,fs,hx⟩:=hx;exact ⟨xs,e _ _ g (fun z=>by rw[z,hx] at g;cases g),Paired.imp' (fun _ _ z=>z.exc e hx') r⟩
theorem dq.exc (h:dq K H0 H qs v) (e:C2 x H H') (hx:vB H x):dq K H0 H' qs v:=by obtain ⟨q,a,b,c⟩:=h;exact ⟨q,a,b,c.exc e hx⟩
theorem bO.exc (h:bO K H0 H p rows) (e:C2 x H H') (hx:vB H x):bO K H0 H' p rows:=by
 obtain ⟨xs,g,r,n⟩:=h;have hx':=hx;obtain ⟨C,dx,fs,hx⟩:=hx;exact ⟨xs,e _ _ g (fun z=>by rw[z,hx] at g;cases g),Paired.imp' (fun _ _ z=>z.exc e hx') r,n⟩
end
def mI (a b c:Addr) (n i o:Nat):List (Str×V):=cm "outs" (.int o) (cm "look" (.ref c) (cm "ins" (.int i) (cm "put" (.ref b) (cm "states" (.int n) (cm "move" (.ref a) [])))))
section
variable {a b c:Addr} {n i o:Nat}
theorem IE:(mI a b c n i o).lookup ("outs":Str)=some (.int o):=by
 unfold mI;rw[bw,if_pos rfl]
theorem IG:(mI a b c n i o).lookup ("look":Str)=some (.ref c):=by
 unfold mI;rw[bw,if_neg (by decide +kernel),bw,if_pos rfl]
theorem Fm:(mI a b c n i o).lookup ("ins":Str)=some (.int i):=by
 unfold mI;rw[bw,if_neg (by decide +kernel),bw,if_neg (by decide +kernel),bw,if_pos rfl]
theorem yT:(mI a b c n i o).lookup ("put":Str)=some (.ref b):=by
 unfold mI;rw[bw,if_neg (by decide +kernel),bw,if_neg (by decide +kernel),bw,if_neg (by decide +kernel),bw,if_pos rfl]
theorem oq:(mI a b c n i o).lookup ("states":Str)=some (.int n):=by
 unfold mI;rw[bw,if_neg (by decide +kernel),bw,if_neg (by decide +kernel),bw,if_neg (by decide +kernel),bw,if_neg (by decide +kernel),bw,if_pos rfl]
theorem zA:(mI a b c n i o).lookup ("move":Str)=some (.ref a):=by
 unfold mI;rw[bw,if_neg (by decide +kernel),bw,if_neg (by decide +kernel),bw,if_neg (by decide +kernel),bw,if_neg (by decide +kernel),bw,if_neg (by decide +kernel),bw,if_pos rfl]
theorem IF {m:Str} (h1:¬m="outs") (h2:¬m="look") (h3:¬m="ins") (h4:¬m="put") (h5:¬m="states") (h6:¬m="move"):(mI a b c n i o).lookup m=none:=by
 unfold mI;rw[bw,if_neg h1,bw,if_neg h2,bw,if_neg h3,bw,if_neg h4,bw,if_neg h5,bw,if_neg h6];rfl
theorem GB:(mI a b c n i o).lookup ("moved":Str)=none:=IF (by decide +kernel) (by decide +kernel) (by decide +kernel) (by decide +kernel) (by decide +kernel) (by decide +kernel)
theorem Eg:(mI a b c n i o).lookup ("turned":Str)=none:=IF (by decide +kernel) (by decide +kernel) (by decide +kernel) (by decide +kernel) (by decide +kernel) (by decide +kernel)
end
theorem d9 {k:Str} {v:V}:∀{l:List (Str×V)},(cm k v l).length<=l.length+1
 | []=>av _
 | (x,y) :: r=>by
  unfold cm
  split
  ·simp
  ·have:=d9 (k:=k) (v:=v) (l:=r);simp only[ba]
   lia
structure jq (mv pt lk:List (List Rat)):Prop where
 n8:mv.length<=8
 i4:pt.length<=4
 o4:lk.length<=4
 mw:∀xs∈mv,xs.length=mv.length
 pw:∀xs∈pt,xs.length=mv.length
 lw:∀xs∈lk,xs.length=mv.length
def vA (mv pt lk:List (List Rat)):Prop:=∃M V:Nat,0 < M/\M<=2^800/\V<=2^400/\GF M V mv/\GF M V pt/\GF M V lk
def oH (K:PySem.W.Frag) (H0 H:Hp) (C p:Addr) (mv pt lk:List (List Rat)):Prop:=∃dx a b c,H p=some (.ins C dx (mI a b c mv.length pt.length lk.length))/\H0 a=none/\H0 b=none/\H0 c=none/\bO K H0 H a mv/\bO K H0 H b pt/\bO K H0 H c lk
section
variable {K:PySem.W.Frag} {H H' H0 H1:Hp} {C p b:Addr} {mv pt lk:List (List Rat)}
theorem oH.same (h:oH K H0 H C p mv pt lk) (e:aL H H'):oH K H0 H' C p mv pt lk:=by obtain ⟨dx,a,b,c,g,n1,n2,n3,g1,g2,g3⟩:=h;exact ⟨dx,a,b,c,e _ _ g,n1,n2,n3,g1.same e,g2.same e,g3.same e⟩
theorem oH.upto (h:oH K H0 H C p mv pt lk) (u:cV b H H') (B:ig H b) (nb:H0 b≠none):oH K H0 H' C p mv pt lk:=by
 obtain ⟨dx,a,b',c,g,n1,n2,n3,g1,g2,g3⟩:=h;refine ⟨dx,a,b',c,u.other (fun z=>by obtain ⟨_,_,_,_,_,e,_⟩:=B;rw[z,e] at g;cases g) g,n1,n2,n3,g1.upto u B (fun z=>nb (by rw[<- z];exact n1)) nb,g2.upto u B (fun z=>nb (by rw[<- z];exact n2)) nb,g3.upto u B (fun z=>nb (by rw[<- z];exact n3)) nb⟩
theorem oH.weak (h:oH K H0 H C p mv pt lk) (e:aL H1 H0):oH K H1 H C p mv pt lk:=by obtain ⟨dx,a,b,c,g,n1,n2,n3,g1,g2,g3⟩:=h;exact ⟨dx,a,b,c,g,e.none n1,e.none n2,e.none n3,g1.weak e,g2.weak e,g3.weak e⟩
theorem vA.fits (h:vA mv pt lk) {l:List Rat} (hl:∀x∈l,(∃xs∈mv,x∈xs)\/(∃xs∈pt,x∈xs)\/(∃xs∈lk,x∈xs)\/x=0):Fits l:=by
 obtain ⟨M,V,h0,h1,h2,h3,h4,h5⟩:=h;refine ⟨M,V,h0,ah h1 (aj (by decide) (by decide)),ah h2 (aj (by decide) (by decide)),fun x hx=>?_⟩;rcases hl x hx with ⟨xs,a,b⟩ | ⟨xs,a,b⟩ | ⟨xs,a,b⟩ | rfl
 ·exact h3 xs a x b
 ·exact h4 xs a x b
 ·exact h5 xs a x b
 ·exact Fr.zero
theorem vA.turn (h:vA mv pt lk):vA (bC mv mv.length) lk pt:=by
 obtain ⟨M,V,h0,h1,h2,h3,h4,h5⟩:=h;refine ⟨M,V,h0,h1,h2,fun ys hy y hy'=>?_,h5,h4⟩;obtain ⟨j,_,rfl⟩:=aD.mp hy;obtain ⟨xs,hx,rfl⟩:=aD.mp hy';by_cases hj:j < xs.length
 ·rw[aa,ag hj];exact h3 xs hx _ (aT hj)
 ·rw[aa,aS (by lia)];exact Fr.zero
theorem jq.turn (h:jq mv pt lk):jq (bC mv mv.length) lk pt:=⟨by rw[cy];exact h.n8,h.o4,h.i4,fun xs hx=>by rw[kB xs hx,cy],fun xs hx=>by rw[cy];exact h.lw xs hx,fun xs hx=>by rw[cy];exact h.pw xs hx⟩
end
def GC:Sp:=fun vs H Q _=>∃i:Int,vs=[.int i]/\Q (.bl true) H
def GS (K:PySem.W.Frag):Sp:=fun vs H Q _=>∃x n,vs=[x]/\DZ K H x n/\yC n/\∀H',aL H H'->Q (.bl true) H'
def KR:Sp:=fun vs H Q _=>∃(p:Addr) (xs:List V) (a m:Int),vs=[.ref p,.int a,.int m]/\H p=some (.lst xs)/\(xs.length:Int)<=m/\Q .non H
def K2 (K:PySem.W.Frag):Sp:=fun vs H Q _=>∃(p:Addr) (H0:Hp) (rows:List (List Rat)) (w:Nat),vs=[.ref p,.int w]/\bO K H0 H p rows/\rows.length<=1000/\w<=1000/\(∀xs∈rows,xs.length=w/\∀x∈xs,yC (nm x))/\∀r H',H r=none->aL H H'->bO K H H' r rows->Q (.ref r) H'
def OC (rows:List (List Rat)):Prop:=∀xs∈rows,∀x∈xs,yC (nm x)
def KW (K:PySem.W.Frag) (C:Addr):Sp:=fun vs H Q _=>∃(x dx p q r:Addr) (Hb H0 H1 H2:Hp) (mv pt lk:List (List Rat)),vs=[.ref x,.ref p,.ref q,.ref r]/\Hb x=none/\Hb dx=none/\dx≠x/\H=upd (upd Hb dx (.own x)) x (.ins C dx []) /\
 bO K H0 Hb p mv/\bO K H1 Hb q pt/\bO K H2 Hb r lk/\jq mv pt lk/\OC mv/\OC pt/\OC lk/\∀H',aL Hb H'->oH K Hb H' C x mv pt lk->Q .non H'
def kQ (mv pt:List (List Rat)) (st pu:List Rat):List Rat:=List.zipWith (fun line col=>dW (line++col) (st++pu)) mv (bC pt mv.length)
def Ej (K:PySem.W.Frag) (C:Addr):Sp:=fun vs H Q _=>∃(x:Addr) (H0:Hp) (mv pt lk:List (List Rat)),vs=[.ref x]/\oH K H0 H C x mv pt lk/\jq mv pt lk/\vA mv pt lk /\
 ∀r H',H r=none->aL H H'->oH K H H' C r (bC mv mv.length) lk pt->Q (.ref r) H'
theorem vA.ok {mv pt lk:List (List Rat)} (h:vA mv pt lk):OC mv/\OC pt/\OC lk :=
 ⟨fun xs hx x hx'=>(h.fits (l:=xs) fun y hy=>.inl ⟨xs,hx,hy⟩).ok hx',fun xs hx x hx'=>(h.fits (l:=xs) fun y hy=>.inr (.inl ⟨xs,hx,hy⟩)).ok hx',fun xs hx x hx'=>(h.fits (l:=xs) fun y hy=>.inr (.inr (.inl ⟨xs,hx,hy⟩))).ok hx'⟩
def fN (K:PySem.W.Frag) (A:Addr->Prop) (H:Hp) (n:Nat) (C:Rat->Prop) (x:V):Prop:=∃q qs,x=V.ref q/\A q/\cR K H q qs/\qs.length=n/\∀y∈qs,C y
section
variable {K:PySem.W.Frag} {A A':Addr->Prop} {H H' H0:Hp} {n:Nat} {C C':Rat->Prop} {x v:V} {q b l p:Addr} {xs zs:List V} {y:Rat} {o:HO}
theorem fN.same (h:fN K A H n C x) (e:aL H H'):fN K A H' n C x:=by obtain ⟨q,qs,a,c,r,z⟩:=h;exact ⟨q,qs,a,c,r.same e,z⟩
theorem fN.upto (h:fN K A H n C x) (u:cV b H H') (B:ig H b) (nb:¬A b):fN K A H' n C x:=by obtain ⟨q,qs,a,c,r,z⟩:=h;exact ⟨q,qs,a,c,r.upto u B (fun e=>nb (by rw[<- e];exact c)),z⟩
theorem fN.other (h:fN K A H n C x) (hl:H l=some (.lst zs)) (nl:¬A l):fN K A (upd H l o) n C x:=by obtain ⟨q,qs,a,c,r,z⟩:=h;exact ⟨q,qs,a,c,r.updL hl (fun e=>nl (by rw[<- e];exact c)),z⟩
theorem fN.weak (h:fN K A H n C x) (w:∀q,A q->A' q) (wc:∀y,C y->C' y):fN K A' H n C' x:=by obtain ⟨q,qs,a,c,r,l,z⟩:=h;exact ⟨q,qs,a,w q c,r,l,fun y hy=>wc y (z y hy)⟩
theorem vL {α β:Type} {F:α->β->Prop} {a:α} {b:β} (h:F a b):∀{l1:List α} {l2:List β} (j:Nat),Paired F l1 l2->Paired F (l1.set j a) (l2.set j b)
 | _,_,_,.nil=>.nil
 | _,_,0,.cons _ t=>.cons h t
 | _,_,j+1,.cons r t=>.cons r (vL h j t)
theorem fN.put (h:fN K A H n C x) (hq:H q=some (.lst zs)) (hv:cB K H y v) (hc:C y) (j:Nat):fN K A (upd H q (.lst (zs.set j v))) n C x:=by
 obtain ⟨q1,qs,rfl,a,⟨zs1,g1,pr⟩,l1,c1⟩:=h;by_cases e:q1=q
 ·subst e;rw[hq] at g1;cases g1;refine ⟨q1,qs.set j y,rfl,a,⟨_,aK,vL (hv.updL hq) j (Paired.imp' (fun _ _ z=>z.updL hq) pr)⟩,by rw[eF];exact l1,fun z hz=>?_⟩;rcases cx hz with hz | rfl
  ·exact c1 z hz
  ·exact hc
 ·exact ⟨q1,qs,rfl,a,⟨zs1,by rw[bu e];exact g1,Paired.imp' (fun _ _ z=>z.updL hq) pr⟩,l1,c1⟩
theorem fN.at (h:fN K A H n C x):∃q zs qs,x=V.ref q/\A q/\H q=some (.lst zs)/\zs.length=n/\Paired (cB K H) qs zs/\qs.length=n/\∀y∈qs,C y:=by obtain ⟨q,qs,a,c,⟨zs,g,pr⟩,l,z⟩:=h;exact ⟨q,zs,qs,a,c,g,by rw[<- pr.length];exact l,pr,l,z⟩
end
theorem tV {W:Nat} {i:Int} (h:i.natAbs<=W) (hW:1<=W):Dr W (i:Rat):=⟨h,hW⟩
def PM (K:PySem.W.Frag) (A:Addr->Prop) (H:Hp) (n:Nat) (C:Rat->Prop) (p:Addr) (m:Nat):Prop:=∃us,H p=some (.lst us)/\us.length=m/\¬A p/\∀x∈us,fN K A H n C x
structure D3 (A:Addr->Prop) (m p l b q0:Addr):Prop where
 am:¬A m
 ap:¬A p
 al:¬A l
 ab:¬A b
 aq:¬A q0
 mb:m≠b
 pb:p≠b
 lb:l≠b
 mp:m≠p
 ml:m≠l
 mq:m≠q0
theorem FQ {M:Nat} {z:Int} (h:z.natAbs<=2):Fr 1 2 (z:Rat):=Fr.int h
theorem Cw {M W:Nat} {a c:Rat} {z:Int} (hz:z.natAbs<=2) (ha:Fr M W a) (hc:Fr M W c):Fr M (3*W) (a+(z:Rat)*c):=by
 have h:=(FQ (M:=M) hz).mul hc;rw[xo] at h;exact (ha.add h).mono (by lia)
theorem BO {z:Int} (h:z.natAbs<=1000):uf (z:Rat):=EY (M:=1) (V:=1000) (by decide) (cE) (ah (show 1000<=2^10 by decide) (aj (by decide) (by decide))) (Fr.int h)
theorem zz {M W:Nat} {c:Rat} {z:Int} (hz:z.natAbs<=2) (hc:Fr M W c) (h0:0 < M) (h1:M<=2^800) (hW:W<=2^140):uf ((z:Rat)*c):=by
 have h:=(FQ (M:=M) hz).mul hc;rw[xo] at h;refine EY h0 (ah h1 (aj (by decide) (by decide))) (ah (aP 2 hW) ?_) h;rw[show 2*2^140=2^141 by rw[fw,bU]];exact aj (by decide) (by decide)
def iU (A:Addr->Prop) (b m:Addr) (H H':Hp):Prop:=∀c u,H c=some u->c≠b->¬A c->c≠m->H' c=some u
theorem iU.same {A:Addr->Prop} {b m:Addr} {H H1 H2:Hp} (h:iU A b m H H1) (s:aL H1 H2):iU A b m H H2:=fun c u e n1 n2 n3=>s _ _ (h c u e n1 n2 n3)
theorem iU.upto {A:Addr->Prop} {b m:Addr} {H H1 H2:Hp} (h:iU A b m H H1) (s:cV b H1 H2):iU A b m H H2:=fun c u e n1 n2 n3=>s.1 _ _ (h c u e n1 n2 n3) n1
theorem iU.upd {A:Addr->Prop} {b m q:Addr} {H H1:Hp} {o:HO} (h:iU A b m H H1) (hq:A q\/q=m):iU A b m H (L2.upd H1 q o):=fun c u e n1 n2 n3=>by
 rw[bu]
 ·exact h c u e n1 n2 n3
 ·rintro rfl;rcases hq with hq | hq
  ·exact n2 hq
  ·exact n3 hq
theorem iU.new {A:Addr->Prop} {b m r:Addr} {H H1:Hp} (h:iU A b m H H1) (hA:∀q,H q=none->A q) (B:ig H1 b) (hm:H1 m≠none) (hr:H1 r=none):A r:=by
 by_cases z:A r
 ·exact z
 ·cases e:H r with
  | none=>exact hA r e
  | some u =>
   have:=h r u e (fun y=>B.at (by rw[<- y];exact hr)) z (fun y=>hm (by rw[<- y];exact hr));rw[hr] at this;cases this
structure Gk (K:PySem.W.Frag) (A:Addr->Prop) (n:Nat) (C:Rat->Prop) (r p b q0:Addr) (us:List V) (H0 H:Hp):Prop where
 gr:H r=some (.lst us)
 ru:∀x∈us,fN K A H n C x
 rp:fN K A H n C (.ref p)
 bag:ig H b
 inn:Inner H b q0
 up:cV b H0 H
section
variable {K:PySem.W.Frag} {A:Addr->Prop} {n:Nat} {C:Rat->Prop} {r p b q0:Addr} {us:List V} {H0 H H':Hp} {y:Rat} {v:V}
theorem Gk.same (h:Gk K A n C r p b q0 us H0 H) (e:aL H H'):Gk K A n C r p b q0 us H0 H':=⟨e _ _ h.gr,fun x hx=>(h.ru x hx).same e,h.rp.same e,h.bag.same e,(e.upto (p:=b)).2 _ h.inn,h.up.same e⟩
theorem Gk.upto (h:Gk K A n C r p b q0 us H0 H) (u:cV b H H') (B:ig H' b) (nb:¬A b) (rb:r≠b):Gk K A n C r p b q0 us H0 H':=⟨u.other rb h.gr,fun x hx=>(h.ru x hx).upto u h.bag nb,h.rp.upto u h.bag nb,B,u.2 _ h.inn,h.up.trans u⟩
theorem Gk.put (h:Gk K A n C r p b q0 us H0 H) (ap:A p) (nr:¬A r) (nb:¬A b) (nq:¬A q0) (hp:H0 p=none) (hv:cB K H y v) (hc:C y) (j:Nat):∃zs,H p=some (.lst zs)/\zs.length=n/\Gk K A n C r p b q0 us H0 (upd H p (.lst (zs.set j v))):=by
 obtain ⟨q,zs,qs,e,a,g,l,_⟩:=h.rp.at;cases e;have ne:∀{z},¬A z->z≠p:=fun h e=>h (by rw[e];exact ap)
 exact ⟨zs,g,l,by rw[bu (ne nr)];exact h.gr,fun x hx=>(h.ru x hx).put g hv hc j,h.rp.put g hv hc j,h.bag.upd h.inn (ne nb).symm (ne nq).symm,h.inn.upd (ne nb).symm,h.up.after hp⟩
end
theorem zK {K:PySem.W.Frag} {A:Addr->Prop} {H:Hp} {n:Nat} {C:Rat->Prop} {us:List V} (h:∀x∈us,fN K A H n C x):∃rows:List (List Rat),Paired (fun qs x=>∃q,x=V.ref q/\A q/\cR K H q qs) rows us/\rows.length=us.length/\∀qs∈rows,qs.length=n/\∀y∈qs,C y:=by
 induction us with
 | nil=>exact ⟨[],.nil,rfl,fun _ z=>nomatch z⟩
 | cons u us ih =>
  obtain ⟨rows,pr,l,hr⟩:=ih fun x hx=>h x (.tail _ hx)
  obtain ⟨q,qs,e,a,r,l1,c⟩:=h u (.head _);refine ⟨qs :: rows,.cons ⟨q,e,a,r⟩ pr,by simp [l],fun zs hz=>?_⟩;rcases aG.mp hz with rfl | hz
  ·exact ⟨l1,c⟩
  ·exact hr zs hz
theorem EB {K:PySem.W.Frag} {A:Addr->Prop} {H:Hp} {n:Nat} {C:Rat->Prop} {us:List V} {rows:List (List Rat)} (pr:Paired (fun qs x=>∃q,x=V.ref q/\A q/\cR K H q qs) rows us) (h:∀qs∈rows,qs.length=n/\∀y∈qs,C y):∀x∈us,fN K A H n C x:=fun x hx=>by
 obtain ⟨qs,hq,q,e,a,r⟩:=dF pr hx;exact ⟨q,qs,e,a,r,(h qs hq).1,(h qs hq).2⟩
theorem Bm {n:Nat}:∀{rows:List (List Rat)},(∀xs∈rows,xs.length=n)->rows.flatten.length=rows.length*n
 | [],_=>by simp
 | xs :: rows,h=>by
  rw[gW,aw,h xs (.head _),Bm fun ys hy=>h ys (.tail _ hy),ba,dr,zj]
theorem Ld {c n:Nat} {rows:List (List Rat)} (h:∀qs∈rows,qs.length=n/\∀y∈qs,Dr (2^c) y):∃M:Nat,0 < M/\M<=2^(c*(rows.length*n))/\∀qs∈rows,∀y∈qs,Fr M (2^c) y:=by
 have fl:rows.flatten.length=rows.length*n:=Bm fun ys hy=>(h ys hy).1
 have hm:∀a∈rows.flatten.map (·.den),0 < a/\a<=2^c:=fun a ha=>by
  obtain ⟨y,hy,rfl⟩:=aD.mp ha;obtain ⟨qs,hq,hy⟩:=yI.mp hy;exact ⟨y.den_pos,((h qs hq).2 y hy).2⟩
 refine ⟨we (rows.flatten.map (·.den)),xN fun a ha=>(hm a ha).1,?_,fun qs hq y hy=>?_⟩
 ·have:=zP (k:=c) (l:=rows.flatten.map (·.den)) fun a ha=>(hm a ha).2
  rwa [ao,fl] at this
 ·exact (Fr.own y ((h qs hq).2 y hy).1).dvd (xO (aD.mpr ⟨y,yI.mpr ⟨qs,hq,hy⟩,rfl⟩))
theorem kS {K:PySem.W.Frag} {A:Addr->Prop} {H H0:Hp} {n m:Nat} {C:Rat->Prop} {p:Addr} (h:PM K A H n C p m) (w:∀q,A q->H0 q=none):∃rows,bO K H0 H p rows/\rows.length=m/\∀qs∈rows,qs.length=n/\∀y∈qs,C y:=by
 obtain ⟨us,g,l,a,r⟩:=h;obtain ⟨rows,pr,lr,hr⟩:=zK r;refine ⟨rows,⟨us,g,Paired.imp' (fun _ _ ⟨q,e,aq,rq⟩=>⟨q,e,w q aq,rq⟩) pr,fun hm=>?_⟩,by rw[lr,l],hr⟩;obtain ⟨q,_,e,aq,_⟩:=r _ hm;cases e;exact a aq
theorem iU.trans {A:Addr->Prop} {b m:Addr} {H H1 H2:Hp} (h:iU A b m H H1) (h':iU A b m H1 H2):iU A b m H H2:=fun c u e n1 n2 n3=>h' c u (h c u e n1 n2 n3) n1 n2 n3
theorem EC {K:PySem.W.Frag} {A:Addr->Prop} {H0 H:Hp} {n:Nat} {C:Rat->Prop} {us:List V} {rows:List (List Rat)} (pr:Paired (dq K H0 H) rows us) (h:∀qs∈rows,qs.length=n/\∀y∈qs,C y) (w:∀q,V.ref q∈us->H0 q=none->H q≠none->A q):∀x∈us,fN K A H n C x:=fun x hx=>by
 obtain ⟨qs,hq,q,e,a,r⟩:=dF pr hx;subst e;exact ⟨q,qs,rfl,w q hx a (by obtain ⟨_,g,_⟩:=r;rw[g];simp),r,(h qs hq).1,(h qs hq).2⟩
def GI:Sp:=fun vs H Q _=>∃b,vs=[.ref b]/\ig H b/\∀r (n i o w:Nat) H',H' r=some (.tup [.int n,.int i,.int o,.int w])->n<=5->i<=4->o<=4->(w=4\/w=9\/(w=1000000/\n<=2))->(n=5->i<=2/\o<=2)->ig H' b->cV b H H'->Q (.ref r) H'
def ko (K:PySem.W.Frag) (H0 H:Hp) (r:Addr) (mv pt lk:List (List Rat)):Prop:=∃m p l,H r=some (.tup [.ref m,.ref p,.ref l])/\H0 m=none/\H0 p=none/\H0 l=none/\bO K H0 H m mv/\bO K H0 H p pt/\bO K H0 H l lk
section
variable {K:PySem.W.Frag} {H H' H0 H1:Hp} {r b:Addr} {mv pt lk:List (List Rat)}
theorem ko.same (h:ko K H0 H r mv pt lk) (e:aL H H'):ko K H0 H' r mv pt lk:=by obtain ⟨m,p,l,g,n1,n2,n3,g1,g2,g3⟩:=h;exact ⟨m,p,l,e _ _ g,n1,n2,n3,g1.same e,g2.same e,g3.same e⟩
theorem ko.upto (h:ko K H0 H r mv pt lk) (u:cV b H H') (B:ig H b) (nb:H0 b≠none):ko K H0 H' r mv pt lk:=by
 obtain ⟨m,p,l,g,n1,n2,n3,g1,g2,g3⟩:=h;exact ⟨m,p,l,u.tup B g,n1,n2,n3,g1.upto u B (fun z=>nb (by rw[<- z];exact n1)) nb,g2.upto u B (fun z=>nb (by rw[<- z];exact n2)) nb,g3.upto u B (fun z=>nb (by rw[<- z];exact n3)) nb⟩
theorem ko.weak (h:ko K H0 H r mv pt lk) (e:∀q,H0 q=none->H1 q=none):ko K H1 H r mv pt lk:=by
 obtain ⟨m,p,l,g,n1,n2,n3,⟨x1,y1,z1,w1⟩,⟨x2,y2,z2,w2⟩,⟨x3,y3,z3,w3⟩⟩:=h;exact ⟨m,p,l,g,e _ n1,e _ n2,e _ n3,⟨x1,y1,Paired.imp' (fun _ _ ⟨q,a,b,c⟩=>⟨q,a,e _ b,c⟩) z1,w1⟩,⟨x2,y2,Paired.imp' (fun _ _ ⟨q,a,b,c⟩=>⟨q,a,e _ b,c⟩) z2,w2⟩,⟨x3,y3,Paired.imp' (fun _ _ ⟨q,a,b,c⟩=>⟨q,a,e _ b,c⟩) z3,w3⟩⟩
end
def Ek (K:PySem.W.Frag) (C:Addr):Sp:=fun vs H Q _=>∃(r:Addr) (H0:Hp) (mv pt lk:List (List Rat)),vs=[.ref r]/\ko K H0 H r mv pt lk/\jq mv pt lk/\vA mv pt lk/\∀x H',H x=none->aL H H'->oH K H H' C x mv pt lk->Q (.ref x) H'
theorem Kg {as bs xs ys:List Rat} (h:as.length=xs.length):dW (as++bs) (xs++ys)=dW as xs+dW bs ys:=by
 unfold dW;rw[List.zipWith_append h,List.sum_append]
theorem HL {mv pt:List (List Rat)} {st pu:List Rat}:(kQ mv pt st pu).length=mv.length:=by unfold kQ;rw[ck,cy];lia
def oJ (k j:Nat) (l:List Rat):Prop:=∃M V:Nat,0 < M/\M<=2^k/\V<=2^j/\∀x∈l,Fr M V x
section
variable {k j k' j':Nat} {l xs ys:List Rat} {x y:Rat}
theorem oJ.szn (h:oJ k j l) (hx:x∈l) (hk:k+j<=3950:=by decide):uf x:=by
 obtain ⟨M,V,h0,h1,h2,h3⟩:=h;obtain ⟨a,b⟩:=(h3 x hx).sz h0 h1 h2;exact ⟨a.mono (by lia),b.mono (by lia)⟩
theorem oJ.rowM (h:oJ k j l) (hk:k+j<=4200:=by decide):∃M,E9 M (l.map nm):=by
 obtain ⟨M,V,h0,h1,h2,h3⟩:=h;refine ⟨M,by lia,?_,fun n hn=>?_⟩
 ·show ((M:Nat):Int).natAbs < 2^4400
  rw[bM];exact bA h1 (dP (by decide) (by lia))
 ·obtain ⟨x,hx,rfl⟩:=aD.mp hn;obtain ⟨a,_⟩:=(h3 x hx).sz h0 h1 h2;exact ⟨j6 x,(h3 x hx).den,a.mono (by lia)⟩
theorem oJ.one (h:oJ k j l) (hx:x∈l):oJ k j [x]:=by
 obtain ⟨M,V,h0,h1,h2,h3⟩:=h;exact ⟨M,V,h0,h1,h2,fun y hy=>by rw[bW.mp hy];exact h3 x hx⟩
theorem Kf (h:oJ k j xs) (h':oJ k' j' ys) (hl:xs.length<=1000) (i:Nat) (hk:(k+k')+(j+j')<=3930:=by decide):uf (dW (xs.take i) (ys.take i)):=by
 obtain ⟨M,V,h0,h1,h2,h3⟩:=h;obtain ⟨N,W,k0,k1,k2,k3⟩:=h'
 have e:1000*(V*W)<=2^(10+(j+j')):=by
  rw[aO 2 10];exact aE (by decide) (ah (aE h2 k2) (by rw[<- aO];exact av _))
 obtain ⟨a,b⟩:=((Fr.dot (fun x hx=>h3 x (cC hx)) (fun y hy=>k3 y (cC hy))).mono (aA _ (show (xs.take i).length<=1000 by rw[dn];lia))).sz (bY h0 k0) (ah (aE h1 k1) (by rw[<- aO];exact av _)) e;exact ⟨a.mono (by lia),b.mono (by lia)⟩
theorem JB (hx:oJ k j [x]) (hy:oJ k' j' [y]) (hk:(k+k')+(j+j')<=3930:=by decide):uf (x*y):=by
 obtain ⟨M,V,h0,h1,h2,h3⟩:=hx;obtain ⟨N,W,k0,k1,k2,k3⟩:=hy;obtain ⟨a,b⟩:=((h3 x (.head _)).mul (k3 y (.head _))).sz (bY h0 k0) (ah (aE h1 k1) (by rw[<- aO];exact av _)) (ah (aE h2 k2) (by rw[<- aO];exact av _));exact ⟨a.mono (by lia),b.mono (by lia)⟩
def yg (xs ys:List Rat):Prop:=∃k j k' j':Nat,oJ k j xs/\oJ k' j' ys/\(k+k')+(j+j')<=3930
theorem yg.sys (h:oJ 400 120 xs) (h':oJ 1500 1800 ys):yg xs ys:=⟨_,_,_,_,h,h',by decide⟩
end
def D9 (mv pt lk:List (List Rat)):Prop:=∃M V:Nat,0 < M/\M<=2^400/\V<=2^120/\GF M V mv/\GF M V pt/\GF M V lk
section
variable {mv pt lk:List (List Rat)}
theorem D9.fits (h:D9 mv pt lk) {l:List Rat} (hl:∀x∈l,(∃xs∈mv,x∈xs)\/(∃xs∈pt,x∈xs)\/(∃xs∈lk,x∈xs)\/x=0):oJ 400 120 l:=by
 obtain ⟨M,V,h0,h1,h2,g1,g2,g3⟩:=h;refine ⟨M,V,h0,h1,h2,fun x hx=>?_⟩;rcases hl x hx with ⟨xs,a,b⟩ | ⟨xs,a,b⟩ | ⟨xs,a,b⟩ | rfl
 ·exact g1 xs a x b
 ·exact g2 xs a x b
 ·exact g3 xs a x b
 ·exact Fr.zero
theorem D9.sf (h:D9 mv pt lk):vA mv pt lk:=by obtain ⟨M,V,a,b,c,d⟩:=h;exact ⟨M,V,a,ah b (aj (by decide) (by decide)),ah c (aj (by decide) (by decide)),d⟩
end
def Fq (K:PySem.W.Frag):Sp:=fun vs H Q _=>∃(p q:Addr) (xs ys:List Rat),vs=[.ref p,.ref q]/\cR K H p xs/\cR K H q ys/\ys.length=xs.length/\xs.length<=1000/\yg xs ys /\
 ∀r H',aL H H'->cB K H' (dW xs ys) (.ref r)->Q (.ref r) H'
def KY (K:PySem.W.Frag):Sp:=fun vs H Q _=>∃(p q:Addr) (H0:Hp) (rows:List (List Rat)) (ys:List Rat),vs=[.ref p,.ref q]/\bO K H0 H p rows/\cR K H q ys/\rows.length<=1000/\ys.length<=1000/\(∀xs∈rows,xs.length=ys.length/\yg xs ys) /\
 ∀r H',H r=none->aL H H'->cR K H' r (rows.map fun xs=>dW xs ys)->Q (.ref r) H'
def GO (K:PySem.W.Frag) (C:Addr):Sp:=fun vs H Q _=>∃(x p q:Addr) (H0:Hp) (mv pt lk:List (List Rat)) (st pu:List Rat),vs=[.ref x,.ref p,.ref q]/\oH K H0 H C x mv pt lk/\jq mv pt lk/\D9 mv pt lk/\cR K H p st/\cR K H q pu/\st.length=mv.length/\pu.length=pt.length/\oJ 1500 1800 (st++pu) /\
 ∀r H',H r=none->aL H H'->cR K H' r (kQ mv pt st pu)->Q (.ref r) H'
def BQ (mv pt:List (List Rat)) (st:List Rat) (pus:List (List Rat)) (k:Nat):List Rat:=(pus.take k).foldl (kQ mv pt) st
def pB (mv pt:List (List Rat)) (st:List Rat) (pus:List (List Rat)):List (List Rat):=(List.range (pus.length+1)).map (BQ mv pt st pus)
section
variable {mv pt lk pus:List (List Rat)} {st:List Rat} {k:Nat}
theorem zB {pu:List Rat} (h:pus[k]?=some pu):BQ mv pt st pus (k+1)=kQ mv pt (BQ mv pt st pus k) pu:=by
 unfold BQ;rw[take_snoc h,List.foldl_append];rfl
theorem vZ (h:st.length=mv.length):∀{k:Nat},k<=pus.length->(BQ mv pt st pus k).length=mv.length
 | 0,_=>h
 | k+1,hk=>by rw[zB (ag (show k < pus.length by lia)),HL]
theorem vS:(pB mv pt st pus).length=pus.length+1:=by unfold pB;rw[ao,cD]
theorem uL (h:k<=pus.length):(pB mv pt st pus)[k]?=some (BQ mv pt st pus k):=by
 unfold pB;rw[aN,iT (by lia)];rfl
def D6 (mv pt:List (List Rat)) (st:List Rat) (pus:List (List Rat)):Prop:=∀k,k<=pus.length->∃N W:Nat,0 < N/\N<=2^1500/\W<=2^1800/\(∀x∈BQ mv pt st pus k,Fr N W x)/\∀xs∈pus,∀x∈xs,Fr N W x
theorem D6.both (h:D6 mv pt st pus) (hk:k<=pus.length) {pu:List Rat} (hp:pu∈pus):oJ 1500 1800 (BQ mv pt st pus k++pu):=by
 obtain ⟨N,W,a,b,c,d,e⟩:=h k hk;exact ⟨N,W,a,b,c,fun x hx=>(ax.mp hx).elim (d x) (e pu hp x)⟩
theorem D6.state (h:D6 mv pt st pus) (hk:k<=pus.length):oJ 1500 1800 (BQ mv pt st pus k):=by
 obtain ⟨N,W,a,b,c,d,e⟩:=h k hk;exact ⟨N,W,a,b,c,d⟩
theorem yS {M W:Nat} {rows:List (List Rat)} {w:Nat} (h:GF M W rows):GF M W (bC rows w):=fun ys hy y hy'=>by
 obtain ⟨j,_,rfl⟩:=aD.mp hy;obtain ⟨xs,hx,rfl⟩:=aD.mp hy';rw[aa];cases e:xs[j]? with
 | none=>exact Fr.zero
 | some z=>exact h xs hx z (ay e)
end
def yf (K:PySem.W.Frag) (H:Hp) (l:Addr) (H':Hp) (xs:List Rat) (x:V):Prop:=∃q,x=.ref q/\H q=none/\q≠l/\cR K H' q xs
section
variable {K:PySem.W.Frag} {H H' H2:Hp} {l:Addr} {xs:List Rat} {x:V}
theorem yf.same (h:yf K H l H' xs x) (e:aL H' H2):yf K H l H2 xs x:=by obtain ⟨q,a,b,c,d⟩:=h;exact ⟨q,a,b,c,d.same e⟩
theorem yf.upd {ys:List V} {o:HO} (h:yf K H l H' xs x) (hl:H' l=some (.lst ys)):yf K H l (upd H' l o) xs x:=by obtain ⟨q,a,b,c,d⟩:=h;exact ⟨q,a,b,c,d.updL hl c⟩
theorem yf.rowF (h:yf K H l H' xs x):dq K H H' xs x:=by obtain ⟨q,a,b,_,d⟩:=h;exact ⟨q,a,b,d⟩
theorem Ho {o:HO} (e:aL H H') (n:H l=none):aL H (upd H' l o):=fun b u h=>by
 rw[bu (fun z=>by rw[z,n] at h;cases h)];exact e b u h
theorem zL:∀{rows:List (List Rat)} {ys:List V},Paired (yf K H l H') rows ys->V.ref l∉ys
 | _,_,.nil=>by simp
 | _,_,.cons ⟨q,a,_,c,_⟩ r=>by
  intro hm;rcases aG.mp hm with e | hm
  ·rw[a] at e;cases e;exact c rfl
  ·exact zL r hm
end
def Es (K:PySem.W.Frag) (C:Addr):Sp:=fun vs H Q _=>∃(x s p:Addr) (H0 H1:Hp) (mv pt lk pus:List (List Rat)) (st:List Rat),vs=[.ref x,.ref s,.ref p]/\oH K H0 H C x mv pt lk/\jq mv pt lk/\D9 mv pt lk/\cR K H s st/\st.length=mv.length/\bO K H1 H p pus/\pus.length<=100/\(∀xs∈pus,xs.length=pt.length)/\D6 mv pt st pus /\
 ∀r H',H r=none->aL H H'->bO K H H' r (pB mv pt st pus)->Q (.ref r) H'
theorem HX {c:Nat} {l:List Rat} (h:∀x∈l,Dr (2^c) x) (hc:c<=20):∃B:Nat,0 < B/\B<=2^(c*l.length+2)/\∀x∈l,Fr B (2^22) x:=by
 obtain ⟨M,h0,h1,h2⟩:=LS (c:=c) (n:=l.length) (i:=0) (rows:=[]) N9 rfl h hc;refine ⟨M,h0,?_,h2 l (by simp)⟩;rw[Nat.zero_add,xo] at h1;exact h1
theorem tT {i:Nat}:∀{pus:List (List Rat)},(∀xs∈pus,xs.length=i)->pus.flatten.length=pus.length*i
 | [],_=>by simp
 | x :: r,h=>by
  rw[gW,aw,h x (.head _),tT (fun xs hx=>h xs (.tail _ hx)),ba,dr]
  lia
theorem OY {i:Int} (h:i=0\/i=1):Fr 1 1 (i:Rat):=Fr.int (by rcases h with rfl | rfl <;> decide)
theorem vb {α β:Type} {F:α->β->Prop}:∀{l1:List α} {l2:List β} (_:Paired F l1 l2) (k:Nat),Paired F (l1.drop k) (l2.drop k)
 | _,_,h,0=>h
 | _,_,.nil,_+1=>.nil
 | _,_,.cons _ r,k+1=>vb r k
theorem L6 {xs:List V} {t n:Nat} (h:t+n<=xs.length):uY xs (some (t:Int)) (some ((t:Int)+(n:Int)))=(xs.drop t).take n:=by
 unfold uY;rw[show ((t:Int)+(n:Int))=((t+n:Nat):Int) by lia,HT.yU,HT.yU,nU (show t<=xs.length by lia),nU h,PU]
end L2
namespace L2
abbrev ic:=Nat->Rat
def AJ (F:List ic->Rat) (r:Nat):List ic->List ic->Rat->Rat
 | _,[],_=>0
 | pre,v :: post,s=>s*v r*F (pre++post)+AJ F r (pre++[v]) post (-s)
def jI:List Nat->List ic->Rat
 | [],[]=>1
 | [],_ :: _=>0
 | r :: rs,vs=>AJ (fun ws=>jI rs ws) r [] vs 1
theorem CA {a b:List ic} {x:ic}:jI [] (a++x :: b)=0:=by
 cases a <;> rfl
theorem Co {F:List ic->Rat} {r:Nat} {f g h:ic} {x y:Rat} (hF:∀a b,F (a++h :: b)=x*F (a++f :: b)+y*F (a++g :: b)):∀(b p q:List ic) (s:Rat),AJ F r (p++h :: q) b s=x*AJ F r (p++f :: q) b s+y*AJ F r (p++g :: q) b s
 | [],p,q,s=>by simp only[AJ,ji,zh]
 | v :: b,p,q,s=>by
  have i1:=hF p (q++b);have i2:=Co (r:=r) hF b p (q++[v]) (-s);simp only[AJ,cb,eP] at i1 i2 ⊢;rw[i1,i2];grind
theorem FH {F:List ic->Rat} {r:Nat} {f g h:ic} {x y:Rat} (hF:∀a b,F (a++h :: b)=x*F (a++f :: b)+y*F (a++g :: b)) (hr:h r=x*f r+y*g r):∀(a pre b:List ic) (s:Rat),AJ F r pre (a++h :: b) s=x*AJ F r pre (a++f :: b) s+y*AJ F r pre (a++g :: b) s
 | [],pre,b,s=>by
  have i2:=Co (r:=r) hF b pre [] (-s);simp only[AJ,cW] at i2 ⊢;rw[i2,hr];grind
 | v :: a,pre,b,s=>by
  have i1:=hF (pre++a) b;have i2:=FH hF hr a (pre++[v]) b (-s);simp only[AJ,cb,eP] at i1 i2 ⊢;rw[i1,i2];grind
theorem tU {f g h:ic} {x y:Rat}:∀{rs:List Nat},(∀r∈rs,h r=x*f r+y*g r)->∀a b,jI rs (a++h :: b)=x*jI rs (a++f :: b)+y*jI rs (a++g :: b)
 | [],_,a,b=>by rw[CA,CA,CA];grind
 | r :: rs,hr,a,b=>FH (fun a b=>tU (fun r' h'=>hr r' (.tail _ h')) a b) (hr r (.head _)) a [] b 1
theorem Ke {f h:ic} {rs:List Nat} (hr:∀r∈rs,h r=f r) (a b:List ic):jI rs (a++h :: b)=jI rs (a++f :: b):=by
 rw[tU (f:=f) (g:=f) (x:=1) (y:=0) (fun r h'=>by rw[hr r h'];grind) a b];grind
theorem FU {h:ic} {rs:List Nat} (hr:∀r∈rs,h r=0) (a b:List ic):jI rs (a++h :: b)=0:=by
 rw[tU (f:=h) (g:=h) (x:=0) (y:=0) (fun r h'=>by rw[hr r h'];grind) a b];grind
theorem FI {F:List ic->Rat} {r:Nat} {x:ic} (hF:∀a b,F (a++x :: x :: b)=0):∀(b p q:List ic) (s:Rat),AJ F r (p++x :: x :: q) b s=0
 | [],p,q,s=>rfl
 | v :: b,p,q,s=>by
  have i1:=hF p (q++b);have i2:=FI (r:=r) hF b p (q++[v]) (-s);simp only[AJ,cb,eP] at i1 i2 ⊢;rw[i1,i2];grind
theorem FJ {F:List ic->Rat} {r:Nat} {x:ic} (hF:∀a b,F (a++x :: x :: b)=0):∀(a pre b:List ic) (s:Rat),AJ F r pre (a++x :: x :: b) s=0
 | [],pre,b,s=>by
  have i2:=FI (r:=r) hF b pre [] (- -s);simp only[AJ,cW,cb,eP] at i2 ⊢;rw[i2];grind
 | v :: a,pre,b,s=>by
  have i1:=hF (pre++a) b;have i2:=FJ (r:=r) hF a (pre++[v]) b (-s);simp only[AJ,cb,eP] at i1 i2 ⊢;rw[i1,i2];grind
theorem Ar {x:ic}:∀{rs:List Nat} (a b:List ic),jI rs (a++x :: x :: b)=0
 | [],a,b=>CA
 | r :: rs,a,b=>FJ (fun a b=>Ar a b) a [] b 1
theorem LY {x y:ic} {rs:List Nat} (a b:List ic):jI rs (a++x :: y :: b)=- jI rs (a++y :: x :: b):=by
 have hr:∀r∈rs,(fun r=>1*x r+1*y r) r=1*x r+1*y r:=fun _ _=>rfl
 have h0:=Ar (x:=fun r=>1*x r+1*y r) (rs:=rs) a b;have h1:=tU hr a ((fun r=>1*x r+1*y r) :: b);have h2:=tU hr (a++[x]) b;have h3:=tU hr (a++[y]) b;have h4:=Ar (x:=x) (rs:=rs) a b;have h5:=Ar (x:=y) (rs:=rs) a b;simp only[cb,eP,cW] at h0 h1 h2 h3 h4 h5;rw[h1,h2,h3,h4,h5] at h0;grind
theorem CC {x:ic} {rs:List Nat}:∀(b a c:List ic),jI rs (a++x :: (b++x :: c))=0
 | [],a,c=>Ar a c
 | y :: b,a,c=>by
  have:=CC (x:=x) (rs:=rs) b (a++[y]) c;simp only[cb,eP,cW] at this;rw[eP,LY,this];rfl
def bQ:Nat->(Nat->Rat)->Rat
 | 0,_=>0
 | k+1,f=>bQ k f+f k
theorem br {f g:Nat->Rat}:∀{k:Nat},(∀j,j < k->f j=g j)->bQ k f=bQ k g
 | 0,_=>rfl
 | k+1,h=>by
  show bQ k f+f k=bQ k g+g k
  rw[br fun j hj=>h j (by lia),h k (by lia)]
theorem sW {f g:Nat->Rat}:∀{k:Nat},bQ k (fun j=>f j+g j)=bQ k f+bQ k g
 | 0=>by show (0:Rat)=0+0;grind
 | k+1=>by
  show bQ k (fun j=>f j+g j)+_=(bQ k f+f k)+(bQ k g+g k)
  rw[sW];grind
theorem dE {f:Nat->Rat} {c:Rat}:∀{k:Nat},bQ k (fun j=>c*f j)=c*bQ k f
 | 0=>by show (0:Rat)=c*0;grind
 | k+1=>by
  show bQ k (fun j=>c*f j)+_=c*(bQ k f+f k)
  rw[dE];grind
theorem dG {f:Nat->Rat}:∀{k:Nat},(∀j,j < k->f j=0)->bQ k f=0
 | 0,_=>rfl
 | k+1,h=>by
  show bQ k f+f k=0
  rw[dG fun j hj=>h j (by lia),h k (by lia)];grind
theorem iY {f:Nat->Rat} {i:Nat}:∀{k:Nat},i < k->(∀j,j < k->j≠i->f j=0)->bQ k f=f i
 | k+1,hi,h=>by
  show bQ k f+f k=f i
  by_cases e:i=k
  ·subst e;rw[dG fun j hj=>h j (by lia) (by lia)];grind
  ·rw[iY (by lia) fun j hj=>h j (by lia),h k (by lia) (fun z=>e z.symm)];grind
theorem kC {f:Nat->Nat->Rat} {m:Nat}:∀{k:Nat},bQ k (fun i=>bQ m (f i))=bQ m (fun j=>bQ k fun i=>f i j)
 | 0=>(dG fun _ _=>rfl).symm
 | k+1=>by
  show bQ k (fun i=>bQ m (f i))+bQ m (f k)=bQ m (fun j=>bQ k (fun i=>f i j)+f k j)
  rw[kC,sW]
theorem Cz {rs:List Nat} {W:ic} {v:Nat->ic} {c:Nat->Rat} (a b:List ic):∀{k:Nat} {W:ic},(∀r∈rs,W r=bQ k fun j=>c j*v j r)->jI rs (a++W :: b)=bQ k fun j=>c j*jI rs (a++v j :: b)
 | 0,W,h=>FU h a b
 | k+1,W,h=>by
  rw[tU (f:=fun r=>bQ k fun j=>c j*v j r) (g:=v k) (x:=1) (y:=c k) (fun r hr=>by rw[h r hr];show bQ k _+_=_;grind) a b,Cz a b (k:=k) (W:=fun r=>bQ k fun j=>c j*v j r) fun r _=>rfl];show _=bQ k _+_
  grind
end L2
namespace L2
open Nm
def mY (f:Nat->Nat):Nat->List Nat
 | 0=>[]
 | k+1=>f k :: mY f k
def iX (v:Nat->ic):Nat->List ic
 | 0=>[]
 | k+1=>v k :: iX v k
def D8 (v:Nat->ic) (i:Nat):Nat->List ic
 | 0=>[]
 | k+1=>if k<=i then [] else v k :: D8 v i k
theorem tm {f:Nat->Nat}:∀{k:Nat},(mY f k).length=k
 | 0=>rfl
 | k+1=>by show (mY f k).length+1=_;rw[tm]
theorem cw_len {v:Nat->ic}:∀{k:Nat},(iX v k).length=k
 | 0=>rfl
 | k+1=>by show (iX v k).length+1=_;rw[cw_len]
theorem mU {f:Nat->Nat} {r:Nat}:∀{k:Nat},r∈mY f k->∃t,t < k/\r=f t
 | k+1,h=>by
  rcases aG.mp h with h | h
  ·exact ⟨k,by lia,h⟩
  ·obtain ⟨t,a,b⟩:=mU h;exact ⟨t,by lia,b⟩
theorem zM {f g:Nat->Nat}:∀{k:Nat},(∀j,j < k->f j=g j)->mY f k=mY g k
 | 0,_=>rfl
 | k+1,h=>by
  show f k :: mY f k=g k :: mY g k
  rw[h k (by lia),zM fun j hj=>h j (by lia)]
theorem cw_congr {f g:Nat->ic}:∀{k:Nat},(∀j,j < k->f j=g j)->iX f k=iX g k
 | 0,_=>rfl
 | k+1,h=>by
  show f k :: iX f k=g k :: iX g k
  rw[h k (by lia),cw_congr fun j hj=>h j (by lia)]
theorem cw_mem {v:Nat->ic} {j:Nat}:∀{k:Nat},j < k->v j∈iX v k
 | k+1,h=>by
  by_cases e:j=k
  ·subst e;exact .head _
  ·exact .tail _ (cw_mem (by lia))
theorem cw_in {v:Nat->ic} {x:ic}:∀{k:Nat},x∈iX v k->∃t,t < k/\x=v t
 | k+1,h=>by
  rcases aG.mp h with h | h
  ·exact ⟨k,by lia,h⟩
  ·obtain ⟨t,a,b⟩:=cw_in h;exact ⟨t,by lia,b⟩
theorem Kk {v:Nat->ic} {i j:Nat} (h1:i < j):∀{k:Nat},j < k->v j∈D8 v i k
 | k+1,h=>by
  show v j∈if k<=i then [] else v k :: D8 v i k
  rw[if_neg (by lia)];by_cases e:j=k
  ·subst e;exact .head _
  ·exact .tail _ (Kk h1 (by lia))
theorem Bo {v:Nat->ic} {i:Nat} {x:ic}:∀{k:Nat},x∈D8 v i k->∃t,t < k/\x=v t
 | k+1,h=>by
  have h:x∈if k<=i then [] else v k :: D8 v i k:=h
  split at h
  ·cases h
  ·rcases aG.mp h with h | h
   ·exact ⟨k,by lia,h⟩
   ·obtain ⟨t,a,b⟩:=Bo h;exact ⟨t,by lia,b⟩
theorem cw_split {v:Nat->ic} {i:Nat}:∀{k:Nat},i < k->iX v k=D8 v i k++v i :: iX v i
 | k+1,h=>by
  show v k :: iX v k=(if k<=i then [] else v k :: D8 v i k)++_
  by_cases e:i=k
  ·subst e;rw[if_pos (av _)];rfl
  ·rw[if_neg (by lia),cw_split (k:=k) (i:=i) (by lia)];rfl
theorem xZ {rs:List Nat} {v:Nat->ic} {c:Nat->Rat} {W:ic} {k i:Nat} (hi:i < k) (hW:∀r∈rs,W r=bQ k fun j=>c j*v j r):jI rs (D8 v i k++W :: iX v i)=c i*jI rs (iX v k):=by
 rw[Cz (v:=v) (c:=c) (W:=W) _ _ hW,iY hi fun j hj ne=>?_,cw_split hi];rcases dh j i with h | h
 ·obtain ⟨s,t,e⟩:=Eb (cw_mem (v:=v) h);rw[e,CC];grind
 ·obtain ⟨s,t,e⟩:=Eb (Kk (v:=v) (show i < j by lia) hj);have:=CC (x:=v j) (rs:=rs) t s (iX v i);rw[e,cb,eP,this];grind
theorem Of {rs:List Nat} {v:Nat->ic} {c:Nat->Rat} {W:ic} {k:Nat} (hW:∀r∈rs,W r=bQ k fun j=>c j*v j r):jI rs (W :: iX v k)=0:=by
 have:=Cz (v:=v) (c:=c) (W:=W) [] (iX v k) hW;rw[cW] at this;rw[this];refine dG fun j hj=>?_
 obtain ⟨s,t,e⟩:=Eb (cw_mem (v:=v) hj);have:=CC (x:=v j) (rs:=rs) s [] t;rw[cW] at this;rw[e,cW,this];grind
theorem HW {rs:List Nat} {v:Nat->ic} {c:Nat->Rat} {W:ic} {k i:Nat} {s:Rat} (hi:i∉rs) (h1:W i=bQ k (fun j=>c j*v j i)+s) (hW:∀r∈rs,W r=bQ k fun j=>c j*v j r):jI (i :: rs) (W :: iX v k)=s*jI rs (iX v k):=by
 have e:=tU (rs:=i :: rs) (h:=W) (f:=fun r=>bQ k fun j=>c j*v j r) (g:=fun r=>if r=i then 1 else 0) (x:=1) (y:=s) (fun r hr=>by
  rcases aG.mp hr with rfl | hr
  ·rw[h1,if_pos rfl];grind
  ·rw[hW r hr,if_neg (fun z=>hi (by rw[<- z];exact hr))];grind) [] (iX v k)
 rw[cW,cW,cW,Of (c:=c) fun r _=>rfl] at e
 have e2:jI (i :: rs) ((fun r=>if r=i then (1:Rat) else 0) :: iX v k)=jI rs (iX v k):=by
  show 1*(if i=i then (1:Rat) else 0)*jI rs ([]++iX v k)+AJ (fun ws=>jI rs ws) i ([]++[fun r=>if r=i then (1:Rat) else 0]) (iX v k) (-1)=_
  have hF:∀a b,(fun ws=>jI rs ws) (a++(fun r=>if r=i then (1:Rat) else 0) :: b)=0*(fun ws=>jI rs ws) (a++(fun r=>if r=i then (1:Rat) else 0) :: b)+0*(fun ws=>jI rs ws) (a++(fun r=>if r=i then (1:Rat) else 0) :: b):=fun a b=>by
   have:=FU (h:=fun r=>if r=i then (1:Rat) else 0) (rs:=rs) (fun r hr=>if_neg fun z=>hi (by rw[<- z];exact hr)) a b
   dsimp only
   rw[this];grind
  have:=Co (r:=i) hF (iX v k) [] [] (-1);rw[this,if_pos rfl,cW];grind
 rw[e2] at e;rw[e];grind
theorem JI {F:List ic->Rat} {r B W:Nat}:∀{post pre:List ic} {s:Rat},(∀ws,(∀w∈ws,w∈pre++post)->ws.length+1=(pre++post).length->Fr 1 B (F ws))->(∀w∈post,Fr 1 W (w r))->Fr 1 1 s->Fr 1 (post.length*(W*B)) (AJ F r pre post s)
 | [],pre,s,_,_,_=>by show Fr 1 _ 0;exact Fr.zero
 | v :: post,pre,s,hF,hw,hs=>by
  have t1:Fr 1 (W*B) (s*v r*F (pre++post)):=by
   have:=(hs.mul (hw v (.head _))).mul (hF (pre++post) (fun w h=>by
    rcases ax.mp h with h | h
    ·exact sO _ h
    ·exact bR _ (.tail _ h)) (by simp only[aw,ba];lia))
   simpa using this
  have t2:=JI (F:=F) (r:=r) (B:=B) (W:=W) (post:=post) (pre:=pre++[v]) (s:=-s) (fun ws h h'=>hF ws (fun w hw=>by simpa using h w hw) (by simpa using h')) (fun w h=>hw w (.tail _ h)) (by simpa using hs.neg);exact (t1.add t2).mono (by rw[ba,dr];lia)
theorem yu {W N:Nat}:∀{rs:List Nat} {vs:List ic},vs.length<=N->(∀v∈vs,∀r∈rs,Fr 1 W (v r))->Fr 1 ((N*W)^rs.length) (jI rs vs)
 | [],[],_,_=>by show Fr 1 1 1;exact (Fr.int (i:=1) (by decide))
 | [],_ :: _,_,_=>by show Fr 1 _ 0;exact Fr.zero
 | r :: rs,vs,hl,h=>by
  have:=JI (F:=fun ws=>jI rs ws) (r:=r) (B:=(N*W)^rs.length) (W:=W) (post:=vs) (pre:=[]) (s:=1) (fun ws h1 h2=>yu (by rw[cW] at h2;lia) fun v hv r' hr'=>h v (by simpa using h1 v hv) r' (.tail _ hr')) (fun w hw=>h w hw r (.head _)) (Fr.int (i:=1) (by decide));refine this.mono ?_;rw[ba,fw,bU ((N*W)^rs.length),cw N];exact aA _ hl
structure xv (a:Nat->Nat->Rat) (m k:Nat) (pm p:Nat->Nat) (l:Nat->Nat->Rat) (d:Rat):Prop where
 inj:∀i j,i < m->j < m->pm i=pm j->i=j
 rng:∀i,i < m->pm i < m
 km:k<=m
 d0:d≠0
 det:d=jI (mY pm k) (iX (fun j r=>a r (p j)) k)
 eqs:∀i,i < m->∀c,d*a (pm i) c=bQ k (fun j=>a (pm i) (p j)*l j c)+if i < k then 0 else l i c
 unit:∀i,i < m->∀j,j < k->l i (p j)=if i=j then d else 0
section
variable {a l:Nat->Nat->Rat} {m k:Nat} {pm p:Nat->Nat} {d:Rat}
theorem xv.start (h:∀i,i < m->pm i=i):xv a m 0 pm p a 1 where
 inj i j hi hj e:=by rw[h i hi,h j hj] at e;exact e
 rng i hi:=by rw[h i hi];exact hi
 km:=aY _
 d0:=by decide
 det:=rfl
 eqs i hi c:=by
  rw[h i hi,if_neg (by lia)];show 1*a i c=0+a i c
  grind
 unit i _ j hj:=absurd hj (by lia)
theorem xv.coef (B:xv a m k pm p l d) {i c:Nat} (hi:i < m):a (pm i) c=bQ k (fun j=>(l j c / d)*a (pm i) (p j))+if i < k then 0 else l i c / d:=by
 have h:=B.eqs i hi c;have d0:=B.d0
 have e:bQ k (fun j=>(l j c / d)*a (pm i) (p j))=(1 / d)*bQ k (fun j=>a (pm i) (p j)*l j c):=by
  rw[<- dE];exact br fun j _=>by grind
 rw[e]
 split at h
 ·rw[if_pos (by assumption)];grind
 ·rw[if_neg (by assumption)];grind
theorem xv.old (B:xv a m k pm p l d) {i c:Nat} (hi:i < k):l i c=jI (mY pm k) (D8 (fun j r=>a r (p j)) i k++(fun r=>a r c) :: iX (fun j r=>a r (p j)) i):=by
 have km:=B.km;have d0:=B.d0;rw[xZ (v:=fun j r=>a r (p j)) (c:=fun j=>l j c / d) hi fun r hr=>?_,<- B.det]
 ·grind
 ·obtain ⟨t,ht,rfl⟩:=mU hr;have:=B.coef (i:=t) (c:=c) (by lia);rw[if_pos ht] at this;rw[this];grind
theorem xv.new (B:xv a m k pm p l d) {i c:Nat} (h1:k<=i) (hi:i < m):l i c=jI (pm i :: mY pm k) ((fun r=>a r c) :: iX (fun j r=>a r (p j)) k):=by
 have km:=B.km;have d0:=B.d0
 have hn:pm i∉mY pm k:=fun hm=>by
  obtain ⟨t,ht,e⟩:=mU hm;have:=B.inj i t hi (by lia) e
  lia
 have e1:a (pm i) c=bQ k (fun j=>(l j c / d)*a (pm i) (p j))+l i c / d:=by
  have:=B.coef (i:=i) (c:=c) hi;rwa [if_neg (by lia)] at this
 have e2:∀r∈mY pm k,a r c=bQ k (fun j=>(l j c / d)*a r (p j)):=fun r hr=>by
  obtain ⟨t,ht,rfl⟩:=mU hr;have:=B.coef (i:=t) (c:=c) (by lia);rw[if_pos ht] at this;rw[this];grind
 rw[HW (v:=fun j r=>a r (p j)) (c:=fun j=>l j c / d) (W:=fun r=>a r c) (s:=l i c / d) hn e1 e2,<- B.det];grind
theorem xv.fr {W N:Nat} (B:xv a m k pm p l d) (hN:k < N) (hW:1<=W) (ha:∀i,i < m->∀c,Fr 1 W (a i c)) {i c:Nat} (hi:i < m):Fr 1 ((N*W)^(k+1)) (l i c):=by
 have km:=B.km;have mono:∀t,t<=k+1->(N*W)^t<=(N*W)^(k+1):=fun t ht=>aj (bY (by lia) hW) ht
 have ha':∀r∈mY pm k,∀c,Fr 1 W (a r c):=fun r hr c=>by
  obtain ⟨t,ht,rfl⟩:=mU hr;exact ha _ (B.rng t (by lia)) c
 by_cases h:i < k
 ·rw[B.old h];refine (yu (W:=W) (N:=N) ?_ ?_).mono (mono _ (by rw[tm];lia))
  ·have:=congrArg List.length (cw_split (v:=fun j r=>a r (p j)) h);rw[aw,ba,cw_len] at this;rw[aw,ba]
   lia
  ·intro v hv r hr;rcases ax.mp hv with hv | hv
   ·obtain ⟨t,_,rfl⟩:=Bo hv;exact ha' r hr _
   ·rcases aG.mp hv with rfl | hv
    ·exact ha' r hr _
    ·obtain ⟨t,_,rfl⟩:=cw_in hv;exact ha' r hr _
 ·rw[B.new (by lia) hi];refine (yu (W:=W) (N:=N) ?_ ?_).mono (mono _ (by rw[ba,tm];lia))
  ·rw[ba,cw_len]
   lia
  ·intro v hv r hr
   have hr':∀c,Fr 1 W (a r c):=fun c=>by
    rcases aG.mp hr with rfl | hr
    ·exact ha _ (B.rng i hi) c
    ·exact ha' r hr c
   rcases aG.mp hv with rfl | hv
   ·exact hr' _
   ·obtain ⟨t,_,rfl⟩:=cw_in hv;exact hr' _
theorem xv.dfr {W N:Nat} (B:xv a m k pm p l d) (hN:k<=N) (ha:∀i,i < m->∀c,Fr 1 W (a i c)):Fr 1 ((N*W)^k) d:=by
 have km:=B.km;rw[B.det]
 have:=yu (W:=W) (N:=N) (rs:=mY pm k) (vs:=iX (fun j r=>a r (p j)) k) (by rw[cw_len];exact hN) fun v hv r hr=>by
  obtain ⟨t,ht,rfl⟩:=mU hr;obtain ⟨t',_,rfl⟩:=cw_in hv;exact ha _ (B.rng t (by lia)) _
 rwa [tm] at this
def ky (k t i:Nat):Nat:=if i=k then t else if i=t then k else i
theorem uZ {k t m i:Nat} (hk:k < m) (ht:t < m) (hi:i < m):ky k t i < m:=by
 unfold ky
 split
 ·exact ht
 ·split
  ·exact hk
  ·exact hi
theorem M6 {k t i j:Nat} (h:ky k t i=ky k t j):i=j:=by
 unfold ky at h
 split at h <;> split at h <;> (try split at h) <;> (try split at h) <;> lia
theorem vH {k t i:Nat} (h:k<=t) (hi:i < k):ky k t i=i:=by
 unfold ky;rw[if_neg (by lia),if_neg (by lia)]
theorem vX {k t i:Nat} (h:k<=t) (hi:k<=i):k<=ky k t i:=by
 unfold ky
 split
 ·exact h
 ·split <;> lia
theorem xv.swap (B:xv a m k pm p l d) {t:Nat} (h:k<=t) (ht:t < m):xv a m k (fun i=>pm (ky k t i)) p (fun i=>l (ky k t i)) d where
 inj i j hi hj e:=M6 (B.inj _ _ (uZ (by lia) ht hi) (uZ (by lia) ht hj) e)
 rng i hi:=B.rng _ (uZ (by lia) ht hi)
 km:=B.km
 d0:=B.d0
 det:=by rw[B.det,zM (f:=pm) (g:=fun i=>pm (ky k t i)) fun j hj=>by rw[vH h hj]]
 eqs i hi c:=by
  have e:=B.eqs (ky k t i) (uZ (by lia) ht hi) c;have e1:bQ k (fun j=>a (pm (ky k t i)) (p j)*l (ky k t j) c)=bQ k (fun j=>a (pm (ky k t i)) (p j)*l j c):=br fun j hj=>by rw[vH h hj]
  rw[e1];by_cases hk:i < k
  ·rw[vH h hk] at e ⊢;exact e
  ·rw[if_neg hk];rw[if_neg (by have:=vX h (show k<=i by lia);lia)] at e;exact e
 unit i hi j hj:=by
  rw[B.unit _ (uZ (by lia) ht hi) j hj];by_cases hk:i < k
  ·rw[vH h hk]
  ·have:=vX h (show k<=i by lia);rw[if_neg (by lia),if_neg (by lia)]
theorem xv.step (B:xv a m k pm p l d) {c0:Nat} (hk:k < m) (h0:l k c0≠0):xv a m (k+1) pm (fun j=>if j=k then c0 else p j) (fun i c=>if i=k then l k c else (l k c0*l i c - l i c0*l k c) / d) (l k c0) where
 inj:=B.inj
 rng:=B.rng
 km:=hk
 d0:=h0
 det:=by
  rw[B.new (av _) hk];show _=jI (pm k :: mY pm k) ((fun r=>a r (if k=k then c0 else p k)) :: iX _ k)
  rw[if_pos rfl];congr 2;exact cw_congr fun j hj=>by rw[if_neg (show j≠k by lia)]
 eqs i hi c:=by
  have d0:=B.d0;have e1:=B.eqs i hi c;have e2:=B.eqs i hi c0;show l k c0*a (pm i) c=(bQ k _+_)+_
  have s1:bQ k (fun j=>a (pm i) (if j=k then c0 else p j)*(if j=k then l k c else (l k c0*l j c - l j c0*l k c) / d))=(l k c0 / d)*bQ k (fun j=>a (pm i) (p j)*l j c)+(- l k c / d)*bQ k (fun j=>a (pm i) (p j)*l j c0):=by
   rw[<- dE,<- dE,<- sW];refine br fun j hj=>?_
   rw[if_neg (show j≠k by lia),if_neg (show j≠k by lia)];grind
  rw[s1];simp only[if_true];generalize bQ k (fun j=>a (pm i) (p j)*l j c)=S1 at e1 ⊢;generalize bQ k (fun j=>a (pm i) (p j)*l j c0)=S2 at e2 ⊢;rcases kx i k with h | h | h
  ·rw[if_pos h] at e1 e2;rw[if_pos (by lia)];grind
  ·subst h;rw[if_neg (by lia)] at e1 e2;rw[if_pos (by lia)];grind
  ·rw[if_neg (by lia)] at e1 e2;rw[if_neg (by lia),if_neg (by lia)];grind
 unit i hi j hj:=by
  have d0:=B.d0;by_cases e:j=k
  ·subst e;simp only[if_true];by_cases ei:i=j
   ·rw[if_pos ei,if_pos ei]
   ·rw[if_neg ei,if_neg ei];grind
  ·have hj':j < k:=by lia
   rw[if_neg e];by_cases ei:i=k
   ·rw[if_pos ei,B.unit k hk j hj',if_neg (by lia),if_neg (by lia)]
   ·rw[if_neg ei,B.unit i hi j hj',B.unit k hk j hj',if_neg (show k≠j by lia)]
    split
    ·grind
    ·grind
end
def eU (m:Nat) (a:Nat->Nat->Rat) (x:Nat->Rat):Prop:=∃w:Nat->Rat,∀c,x c=bQ m fun t=>w t*a t c
section
variable {m m' k n:Nat} {a b:Nat->Nat->Rat} {x y:Nat->Rat}
theorem eU.row {i:Nat} (hi:i < m):eU m a (a i):=⟨fun t=>if t=i then 1 else 0,fun c=>by
 rw[iY hi fun j _ ne=>by dsimp only;rw[if_neg ne];grind]
 dsimp only
 rw[if_pos rfl];grind⟩
theorem eU.lin (α β:Rat) (hx:eU m a x) (hy:eU m a y):eU m a fun c=>α*x c+β*y c:=by
 obtain ⟨w,hw⟩:=hx;obtain ⟨v,hv⟩:=hy;refine ⟨fun t=>α*w t+β*v t,fun c=>?_⟩
 dsimp only
 rw[hw c,hv c,<- dE,<- dE,<- sW];exact br fun j _=>by grind
theorem eU.congr (h:∀c,x c=y c) (hx:eU m a x):eU m a y:=by obtain ⟨w,hw⟩:=hx;exact ⟨w,fun c=>by rw[<- h c];exact hw c⟩
theorem eU.trans (h:∀t,t < m'->eU m a (b t)) (hx:eU m' b x):eU m a x:=by
 obtain ⟨v,hv⟩:=hx
 have h2:∀t,∃w:Nat->Rat,t < m'->∀c,b t c=bQ m fun s=>w s*a s c:=fun t=>by
  by_cases ht:t < m'
  ·obtain ⟨w,hw⟩:=h t ht;exact ⟨w,fun _=>hw⟩
  ·exact ⟨fun _=>0,fun z=>absurd z ht⟩
 have hc:=Classical.axiomOfChoice h2;obtain ⟨w,hw⟩:=hc;refine ⟨fun s=>bQ m' fun t=>v t*w t s,fun c=>?_⟩;rw[hv c];have e1:bQ m' (fun t=>v t*b t c)=bQ m' (fun t=>bQ m fun s=>v t*(w t s*a s c)):=br fun t ht=>by rw[hw t ht c,<- dE]
 rw[e1,kC];refine br fun s _=>?_
 have:bQ m' (fun t=>v t*w t s)*a s c=a s c*bQ m' (fun t=>v t*w t s):=dC ..;rw[this,<- dE];exact br fun t _=>by grind
theorem eU.zero (h:∀c,x c=0):eU m a x:=⟨fun _=>0,fun c=>by rw[h c,dG fun _ _=>by grind]⟩
end
structure DY (m n:Nat) (a:Nat->Nat->Rat) (k:Nat) (p:Nat->Nat) (R:Nat->Nat->Rat):Prop where
 inc:∀i j,i < j->j < k->p i < p j
 low:∀j,j < k->p j < n
 unit:∀i,i < k->∀j,j < k->R i (p j)=if i=j then 1 else 0
 lead:∀i,i < k->∀c,c < p i->R i c=0
 span:∀i,i < m->eU k R (a i)
 back:∀i,i < k->eU m a (R i)
section
variable {m m' k k' n:Nat} {a a' R R':Nat->Nat->Rat} {p p':Nat->Nat} {x:Nat->Rat}
theorem DY.coef (h:DY m n a k p R) (hx:eU k R x) (c:Nat):x c=bQ k fun j=>x (p j)*R j c:=by
 obtain ⟨w,hw⟩:=hx;rw[hw c];refine br fun j hj=>?_
 rw[hw (p j),iY hj fun t ht ne=>by rw[h.unit t ht j hj,if_neg ne];grind,h.unit j hj j hj,if_pos rfl];grind
theorem DY.lead_in (h:DY m n a k p R) (hx:eU k R x) {c:Nat} (h1:x c≠0) (h0:∀c',c' < c->x c'=0):∃j,j < k/\p j=c:=by
 refine Classical.byContradiction fun hn=>h1 ?_
 rw[h.coef hx c];refine dG fun j hj=>?_
 rcases kx (p j) c with z | z | z
 ·rw[h0 _ z];grind
 ·exact absurd ⟨j,hj,z⟩ hn
 ·rw[h.lead j hj c z];grind
theorem inc_le (h1:∀i j,i < j->j < k->p i < p j) (h2:∀i j,i < j->j < k'->p' i < p' j) (hs:∀j,j < k'->∃i,i < k/\p i=p' j):∀{j:Nat},j < k'->∀{i:Nat},i < k->p i=p' j->j<=i
 | 0,_,_,_,_=>aY _
 | j+1,hj,i,hi,e=>by
  obtain ⟨i0,hi0,e0⟩:=hs j (by lia);have:=inc_le h1 h2 hs (j:=j) (by lia) hi0 e0;have lt:=h2 j (j+1) (by lia) hj;rcases kx i0 i with z | z | z
  ·lia
  ·subst z;lia
  ·have:=h1 i i0 z hi0;lia
theorem JS (h1:∀i j,i < j->j < k->p i < p j) {i j:Nat} (h:i<=j) (hj:j < k):p i<=p j:=by
 rcases dh i j with z | z
 ·exact bp (h1 i j z hj)
 ·have:i=j:=by lia
  rw[this];exact av _
theorem FO (h1:∀i j,i < j->j < k->p i < p j) (h2:∀i j,i < j->j < k'->p' i < p' j) (hs:∀j,j < k'->∃i,i < k/\p i=p' j):k'<=k/\∀j,j < k'->p j<=p' j:=by
 refine ⟨?_,fun j hj=>?_⟩
 ·rcases oj k' with z | z
  ·lia
  ·obtain ⟨i,hi,e⟩:=hs (k' - 1) (by lia);have:=inc_le h1 h2 hs (j:=k' - 1) (by lia) hi e
   lia
 ·obtain ⟨i,hi,e⟩:=hs j hj;rw[<- e];exact JS h1 (inc_le h1 h2 hs hj hi e) hi
theorem DY.uniq (h:DY m n a k p R) (h':DY m' n a' k' p' R') (s1:∀i,i < m->eU m' a' (a i)) (s2:∀i,i < m'->eU m a (a' i)):k=k'/\(∀j,j < k->p j=p' j)/\∀i,i < k->∀c,R i c=R' i c:=by
 have x1:∀i,i < k->eU k' R' (R i):=fun i hi=>eU.trans (fun t ht=>h'.span t ht) (eU.trans s1 (h.back i hi))
 have x2:∀i,i < k'->eU k R (R' i):=fun i hi=>eU.trans (fun t ht=>h.span t ht) (eU.trans s2 (h'.back i hi))
 have y1:∀j,j < k->∃i,i < k'/\p' i=p j:=fun j hj=>h'.lead_in (x1 j hj) (by rw[h.unit j hj j hj,if_pos rfl];decide) (h.lead j hj)
 have y2:∀j,j < k'->∃i,i < k/\p i=p' j:=fun j hj=>h.lead_in (x2 j hj) (by rw[h'.unit j hj j hj,if_pos rfl];decide) (h'.lead j hj)
 obtain ⟨z1,w1⟩:=FO h'.inc h.inc y1;obtain ⟨z2,w2⟩:=FO h.inc h'.inc y2;have ek:k=k':=Nat.le_antisymm z1 z2;subst ek;have ep:∀j,j < k->p j=p' j:=fun j hj=>Nat.le_antisymm (w2 j hj) (w1 j hj)
 refine ⟨rfl,ep,fun i hi c=>?_⟩;rw[h.coef (x2 i hi) c,iY hi fun j hj ne=>by rw[ep j hj,h'.unit i hi j hj,if_neg (fun z=>ne z.symm)];grind,ep i hi,h'.unit i hi i hi,if_pos rfl];grind
end
structure lA (a:Nat->Nat->Rat) (m k P:Nat) (p:Nat->Nat) (l:Nat->Nat->Rat) (d:Rat):Prop where
 km:k<=m
 d0:d≠0
 unit:∀i,i < m->∀j,j < k->l i (p j)=if i=j then d else 0
 inc:∀i j,i < j->j < k->p i < p j
 low:∀j,j < k->p j < P
 zero:∀i,k<=i->i < m->∀c,c < P->l i c=0
 lead:∀j,j < k->∀c,c < p j->l j c=0
 there:∀i,i < m->eU m l (a i)
 back:∀i,i < m->eU m a (l i)
section
variable {m k n P:Nat} {a l l':Nat->Nat->Rat} {p:Nat->Nat} {d d':Rat}
theorem lA.start:lA a m 0 0 p a 1 where
 km:=aY _
 d0:=by decide
 unit _ _ j hj:=absurd hj (by lia)
 inc _ j _ hj:=absurd hj (by lia)
 low j hj:=absurd hj (by lia)
 zero _ _ _ c hc:=absurd hc (by lia)
 lead j hj:=absurd hj (by lia)
 there i hi:=eU.row hi
 back i hi:=eU.row hi
theorem lA.skip (E:lA a m k P p l d) (h:∀i,k<=i->i < m->l i P=0):lA a m k (P+1) p l d :=
 ⟨E.km,E.d0,E.unit,E.inc,fun j hj=>Nat.lt_succ_of_lt (E.low j hj),fun i h1 h2 c hc=>by
  by_cases e:c=P
  ·rw[e];exact h i h1 h2
  ·exact E.zero i h1 h2 c (by lia),E.lead,E.there,E.back⟩
theorem OV {k t i:Nat}:ky k t (ky k t i)=i:=by
 unfold ky
 split
 ·split <;> (try split) <;> lia
 ·split
  ·rw[if_pos rfl];lia
  ·rfl
theorem lA.swap (E:lA a m k P p l d) {t:Nat} (h:k<=t) (ht:t < m):lA a m k P p (fun i=>l (ky k t i)) d where
 km:=E.km
 d0:=E.d0
 unit i hi j hj:=by
  rw[E.unit _ (uZ (by lia) ht hi) j hj];by_cases hk:i < k
  ·rw[vH h hk]
  ·have:=vX h (show k<=i by lia);rw[if_neg (by lia),if_neg (by lia)]
 inc:=E.inc
 low:=E.low
 zero i h1 h2 c hc:=E.zero _ (vX h h1) (uZ (by lia) ht h2) c hc
 lead j hj c hc:=by rw[vH h hj];exact E.lead j hj c hc
 there i hi:=eU.trans (fun s hs=>eU.congr (fun c=>by rw[OV]) (eU.row (a:=fun i=>l (ky k t i)) (i:=ky k t s) (uZ (by lia) ht hs))) (E.there i hi)
 back i hi:=E.back _ (uZ (by lia) ht hi)
theorem lA.step (E : lA a m k P p l d) (hk : k < m) (h0 : d' ≠ 0) (unit' : ∀ i, i < m → ∀ j, j < k + 1 → l' i (if j = k then P else p j) = if i = j then d' else 0)
    (hl : ∀ i, i < m → ∃ β γ : Rat, β ≠ 0 /\ (i = k → γ = 0) /\ ∀ c, l' i c = β * l i c + γ * l k c) : lA a m (k + 1) (P + 1) (fun j => if j = k then P else p j) l' d' where
  km := hk
  d0 := h0
  unit := unit'
  inc i j hij hj := by
    by_cases e : j = k
    · rw [if_pos e, if_neg (by lia)];exact E.low i (by lia)
    · rw [if_neg e, if_neg (by lia)];exact E.inc i j hij (by lia)
  low j hj := by
    by_cases e : j = k
    · rw [if_pos e]; lia
    · rw [if_neg e];exact Nat.lt_succ_of_lt (E.low j (by lia))
  zero i h1 h2 c hc := by
    by_cases e : c = P
    · have := unit' i h2 k (by lia);rw [if_pos rfl, if_neg (by lia)] at this;rw [e]; exact this
    · obtain ⟨β, γ, _, _, q⟩ := hl i h2;rw [q c, E.zero i (by lia) h2 c (by lia), E.zero k (av _) hk c (by lia)];grind
  lead j hj c hc := by
    have km := E.km;obtain ⟨β, γ, _, _, q⟩ := hl j (by lia);by_cases e : j = k
    · rw [if_pos e] at hc;rw [q c, e, E.zero k (av _) hk c hc];grind
    · rw [if_neg e] at hc;have := E.low j (by lia);rw [q c, E.lead j (by lia) c hc, E.zero k (av _) hk c (by lia)];grind
  there i hi := by
    refine eU.trans (fun s hs => ?_) (E.there i hi);obtain ⟨β, γ, b0, _, q⟩ := hl s hs;obtain ⟨βk, γk, bk0, gk, qk⟩ := hl k hk;have g0 := gk rfl;refine eU.congr (fun c => ?_) (eU.lin (1 / β) (-(γ / β) / βk) (eU.row (a := l') hs) (eU.row (a := l') hk));rw [q c, qk c, g0];grind
  back i hi := by
    obtain ⟨β, γ, _, _, q⟩ := hl i hi;exact eU.congr (fun c => (q c).symm) (eU.lin β γ (E.back i hi) (E.back k hk))
theorem lA.done (E:lA a m k n p l d) (ha:∀i,i < m->∀c,n<=c->a i c=0):DY m n a k p (fun i c=>l i c / d) where
 inc:=E.inc
 low:=E.low
 unit i hi j hj:=by
  have d0:=E.d0;have km:=E.km;rw[E.unit i (by lia) j hj]
  split
  ·grind
  ·grind
 lead i hi c hc:=by
  rw[E.lead i hi c hc];grind
 span i hi:=by
  have d0:=E.d0;refine eU.trans (fun s hs=>?_) (E.there i hi);by_cases z:s < k
  ·refine eU.congr (fun c=>?_) (eU.lin d 0 (eU.row (a:=fun i c=>l i c / d) z) (eU.row (a:=fun i c=>l i c / d) z));grind
  ·refine eU.zero fun c=>?_
   by_cases hc:c < n
   ·exact E.zero s (by lia) hs c hc
   ·obtain ⟨w,hw⟩:=E.back s hs;rw[hw c,dG fun t ht=>by rw[ha t ht c (by lia)];grind]
 back i hi:=by
  have km:=E.km;have d0:=E.d0;refine eU.congr (fun c=>?_) (eU.lin (1 / d) 0 (E.back i (by lia)) (E.back i (by lia)));grind
end
def d6 (ls:List (List Int)) (i c:Nat):Rat:=(((ls.getD i []).getD c 0:Int):Rat)
def cv (rows:List (List Rat)) (i c:Nat):Rat:=(rows.getD i []).getD c 0
def qV (ls:List (List Int)) (k t:Nat):List (List Int):=(ls.set k (ls.getD t [])).set t (ls.getD k [])
def DO (ls:List (List Int)) (k c:Nat) (b:Int):List (List Int):=(ls.map fun zs=>List.zipWith (fun x y=>((ls.getD k []).getD c 0*x - zs.getD c 0*y).fdiv b) zs (ls.getD k [])).set k (ls.getD k [])
section
variable {ls ls0:List (List Int)} {k t n P c:Nat} {b d:Int} {ps:List Nat}
theorem tS {α:Type} {l:List α} {i j:Nat} {x e:α} (hi:i < l.length):(l.set i x).getD j e=if j=i then x else l.getD j e:=by
 rw[aa,aa,List.getElem?_set];by_cases h:j=i
 ·subst h;rw[if_pos rfl,if_pos hi,if_pos rfl];rfl
 ·rw[if_neg (fun z=>h z.symm),if_neg h]
theorem xC:(qV ls k t).length=ls.length:=by unfold qV;rw[eF,eF]
theorem Ko:(DO ls k c b).length=ls.length:=by unfold DO;rw[eF,ao]
theorem getD_in {α:Type} {l:List α} {i:Nat} {e:α} (h:i < l.length):l.getD i e∈l:=by
 rw[aa,ag h];exact aT h
theorem Fn (w:∀zs∈ls,zs.length=n) (hk:k < ls.length) (ht:t < ls.length):∀zs∈qV ls k t,zs.length=n:=fun zs hz=>by
 unfold qV at hz;rcases cx hz with h | h
 ·rcases cx h with h | h
  ·exact w zs h
  ·rw[h];exact w _ (getD_in ht)
 ·rw[h];exact w _ (getD_in hk)
theorem Gd (w:∀zs∈ls,zs.length=n) (hk:k < ls.length):∀zs∈DO ls k c b,zs.length=n:=fun zs hz=>by
 unfold DO at hz;rcases cx hz with h | h
 ·obtain ⟨y,hy,rfl⟩:=aD.mp h;rw[ck,w y hy,w _ (getD_in hk)]
  lia
 ·rw[h];exact w _ (getD_in hk)
theorem wO (hk:k < ls.length) (ht:t < ls.length) (i c:Nat):d6 (qV ls k t) i c=d6 ls (ky k t i) c:=by
 unfold d6 qV ky;rw[tS (by rw[eF];exact ht),tS hk];by_cases h1:i=t
 ·rw[if_pos h1];by_cases h2:i=k
  ·rw[if_pos h2,<- h1,<- h2]
  ·rw[if_neg h2,if_pos h1]
 ·rw[if_neg h1];by_cases h2:i=k
  ·rw[if_pos h2,if_pos h2]
  ·rw[if_neg h2,if_neg h2,if_neg h1]
theorem Aq (w:∀zs∈ls,zs.length=n) {i c:Nat} (hc:n<=c):d6 ls i c=0:=by
 unfold d6;by_cases h:i < ls.length
 ·have:=w _ (getD_in (e:=[]) h);rw[aa (l:=ls.getD i []),aS (by lia)];rfl
 ·rw[aa (l:=ls),aS (by lia)];rfl
theorem qJ {x:Int} (h:(x:Rat)=0):x=0:=by
 have:(x:Rat)=((0:Int):Rat):=h;exact dN.mp this
theorem E3 {x b:Int} {q:Rat} (hb:b≠0) (hq:∃z:Int,q=(z:Rat)) (e:(x:Rat)=(b:Rat)*q):((x.fdiv b:Int):Rat)=q:=by
 obtain ⟨z,rfl⟩:=hq;rw[<- aQ] at e;have:=dN.mp e;rw[this,Int.mul_fdiv_cancel_left _ hb]
theorem rA {W:Nat} {q:Rat} (h:Fr 1 W q):∃z:Int,q=(z:Rat):=by
 obtain ⟨z,e,_⟩:=h;exact ⟨z,by rw[<- e];simp⟩
theorem rz {W:Nat} {z:Int} (h:Fr 1 W (z:Rat)):z.natAbs<=W:=by
 obtain ⟨y,e,b⟩:=h;have:(z:Rat)=(y:Rat):=by rw[<- e];simp
 rw[dN.mp this];simpa using b
theorem J9 (w:∀zs∈ls,zs.length=n) (hk:k < ls.length) (hb:b≠0) {i:Nat} (hi:i < ls.length) (hz:∀c,∃z:Int,(d6 ls k P*d6 ls i c - d6 ls i P*d6 ls k c) / (b:Rat)=(z:Rat)) (c:Nat) :
  d6 (DO ls k P b) i c=if i=k then d6 ls k c else (d6 ls k P*d6 ls i c - d6 ls i P*d6 ls k c) / (b:Rat):=by
 by_cases e:i=k
 ·rw[if_pos e];unfold d6 DO;rw[tS (by rw[ao];exact hk),if_pos e]
 ·rw[if_neg e];by_cases hc:c < n
  ·have hb':(b:Rat)≠0:=fun z=>hb (qJ z)
   have lk:=w _ (getD_in (e:=[]) hk);have li:=w _ (getD_in (e:=[]) hi)
   have e1:d6 (DO ls k P b) i c=(((((ls.getD k []).getD P 0*(ls.getD i []).getD c 0 - (ls.getD i []).getD P 0*(ls.getD k []).getD c 0).fdiv b:Int)):Rat):=by
    unfold DO;rw[d6,tS (by rw[ao];exact hk),if_neg e];rw[aa (l:=List.map _ ls),aN,ag hi];show ((((List.zipWith _ ls[i] (ls.getD k [])).getD c 0:Int)):Rat)=_
    have ei:ls.getD i []=ls[i]:=by rw[aa,ag hi];rfl
    rw[<- ei];rw[aa (l:=List.zipWith _ _ _),cU,aa (l:=ls.getD i []) (i:=c),aa (l:=ls.getD k []) (i:=c),ag (show c < (ls.getD i []).length by lia),ag (show c < (ls.getD k []).length by lia)];rfl
   rw[e1];refine E3 hb (hz c) ?_;rw[Rat.intCast_sub,aQ,aQ];show _=(b:Rat)*((d6 ls k P*d6 ls i c - d6 ls i P*d6 ls k c) / (b:Rat))
   show d6 ls k P*d6 ls i c - d6 ls i P*d6 ls k c=_
   grind
  ·rw[Aq (Gd w hk) (show n<=c by lia),Aq w (i:=i) (show n<=c by lia),Aq w (i:=k) (show n<=c by lia)];grind
end
section
variable {m k n P:Nat} {a l l2:Nat->Nat->Rat} {pm p p2:Nat->Nat} {d:Rat}
theorem xv.congr (B:xv a m k pm p l d) (hp:∀j,j < k->p2 j=p j) (hl:∀i,i < m->∀c,l2 i c=l i c):xv a m k pm p2 l2 d where
 inj:=B.inj
 rng:=B.rng
 km:=B.km
 d0:=B.d0
 det:=by rw[B.det,cw_congr (f:=fun j r=>a r (p j)) (g:=fun j r=>a r (p2 j)) fun j hj=>by rw[hp j hj]]
 eqs i hi c:=by
  have km:=B.km;rw[B.eqs i hi c,hl i hi c];congr 1;exact br fun j hj=>by rw[hp j hj,hl j (by lia) c]
 unit i hi j hj:=by rw[hp j hj,hl i hi];exact B.unit i hi j hj
theorem eU.rows {x:Nat->Rat} (h:∀i,i < m->∀c,l2 i c=l i c) (hx:eU m l x):eU m l2 x:=by obtain ⟨w,hw⟩:=hx;exact ⟨w,fun c=>by rw[hw c];exact br fun t ht=>by rw[h t ht c]⟩
theorem lA.congr (E:lA a m k P p l d) (hp:∀j,j < k->p2 j=p j) (hl:∀i,i < m->∀c,l2 i c=l i c):lA a m k P p2 l2 d where
 km:=E.km
 d0:=E.d0
 unit i hi j hj:=by rw[hp j hj,hl i hi];exact E.unit i hi j hj
 inc i j hij hj:=by rw[hp i (by lia),hp j hj];exact E.inc i j hij hj
 low j hj:=by rw[hp j hj];exact E.low j hj
 zero i h1 h2 c hc:=by rw[hl i h2];exact E.zero i h1 h2 c hc
 lead j hj c hc:=by
  have km:=E.km;rw[hp j hj] at hc;rw[hl j (by lia)];exact E.lead j hj c hc
 there i hi:=(E.there i hi).rows hl
 back i hi:=(E.back i hi).congr fun c=>(hl i hi c).symm
theorem lA.kP (E:lA a m k P p l d):k<=P:=by
 have:∀j,j < k->j<=p j:=by
  intro j
  induction j with
  | zero=>intro _;exact aY _
  | succ j ih =>
   intro hj;have:=ih (by lia);have:=E.inc j (j+1) (by lia) hj
   lia
 rcases oj k with z | z
 ·lia
 ·have h1:=this (k - 1) (by lia);have h2:=E.low (k - 1) (by lia)
  lia
end
structure BD (ls0:List (List Int)) (n P:Nat) (ls:List (List Int)) (ps:List Nat) (d:Int):Prop where
 len:ls.length=ls0.length
 wide:∀zs∈ls,zs.length=n
 bar:∃pm,xv (d6 ls0) ls0.length ps.length pm (fun j=>ps.getD j 0) (d6 ls) d
 el:lA (d6 ls0) ls0.length ps.length P (fun j=>ps.getD j 0) (d6 ls) d
section
variable {ls0 ls:List (List Int)} {n P:Nat} {ps:List Nat} {d:Int}
theorem BD.start (w:∀zs∈ls0,zs.length=n):BD ls0 n 0 ls0 [] 1:=⟨rfl,w,⟨fun i=>i,xv.start fun _ _=>rfl⟩,lA.start⟩
theorem BD.d0 (h:BD ls0 n P ls ps d):d≠0:=fun z=>h.el.d0 (by rw[z];rfl)
theorem BD.skip (h:BD ls0 n P ls ps d) (hz:∀i,ps.length<=i->i < ls.length->d6 ls i P=0):BD ls0 n (P+1) ls ps d:=⟨h.len,h.wide,h.bar,h.el.skip fun i h1 h2=>hz i h1 (by rw[h.len];exact h2)⟩
theorem getD_snoc {l:List Nat} {x j:Nat} (hj:j < l.length+1):(l++[x]).getD j 0=if j=l.length then x else l.getD j 0:=by
 rw[aa,aa];by_cases e:j=l.length
 ·rw[if_pos e,e,aW (av _),gQ];rfl
 ·rw[if_neg e,bF (by lia)]
theorem BD.int {W:Nat} (h:BD ls0 n P ls ps d) (hW:1<=W) (h0:∀i,i < ls0.length->∀c,Fr 1 W (d6 ls0 i c)) {t:Nat} (ht:ps.length<=t) (ht2:t < ls.length) (hne:d6 ls t P≠0) :
  ∀i,i < ls.length->i≠ps.length->∀c,∃z:Int,(d6 (qV ls ps.length t) ps.length P*d6 (qV ls ps.length t) i c - d6 (qV ls ps.length t) i P*d6 (qV ls ps.length t) ps.length c) / (d:Rat)=(z:Rat):=fun i hi ne c=>by
 obtain ⟨pm,B⟩:=h.bar;have hl:=h.len;have hk:ps.length < ls.length:=by lia
 have B1:=(B.swap ht (by lia)).congr (p2:=fun j=>ps.getD j 0) (l2:=d6 (qV ls ps.length t)) (fun _ _=>rfl) (fun i _ c=>wO hk ht2 i c)
 have h1:d6 (qV ls ps.length t) ps.length P≠0:=by
  rw[wO hk ht2];unfold ky;rw[if_pos rfl];exact hne
 have B2:=B1.step (c0:=P) (by lia) h1;have:=B2.fr (W:=W) (N:=ps.length+2) (by lia) hW h0 (i:=i) (c:=c) (by lia);rw[if_neg ne] at this;exact rA this
theorem BD.step {W:Nat} (h:BD ls0 n P ls ps d) (hW:1<=W) (h0:∀i,i < ls0.length->∀c,Fr 1 W (d6 ls0 i c)) {t:Nat} (ht:ps.length<=t) (ht2:t < ls.length) (hne:d6 ls t P≠0) :
  BD ls0 n (P+1) (DO (qV ls ps.length t) ps.length P d) (ps++[P]) (((DO (qV ls ps.length t) ps.length P d).getD ps.length []).getD P 0):=by
 obtain ⟨pm,B⟩:=h.bar;have hl:=h.len;have hk:ps.length < ls.length:=by lia
 have hz:=h.int hW h0 ht ht2 hne;have w1:=Fn h.wide hk ht2;have k1:ps.length < (qV ls ps.length t).length:=by rw[xC];exact hk
 have B1:=(B.swap ht (by lia)).congr (p2:=fun j=>ps.getD j 0) (l2:=d6 (qV ls ps.length t)) (fun _ _=>rfl) (fun i _ c=>wO hk ht2 i c);have E1:=(h.el.swap ht (by lia)).congr (p2:=fun j=>ps.getD j 0) (l2:=d6 (qV ls ps.length t)) (fun _ _=>rfl) (fun i _ c=>wO hk ht2 i c)
 have h1:d6 (qV ls ps.length t) ps.length P≠0:=by
  rw[wO hk ht2];unfold ky;rw[if_pos rfl];exact hne
 have B2:=B1.step (c0:=P) (by lia) h1
 have fc:∀i,i < ls0.length->∀c,d6 (DO (qV ls ps.length t) ps.length P d) i c=if i=ps.length then d6 (qV ls ps.length t) ps.length c else (d6 (qV ls ps.length t) ps.length P*d6 (qV ls ps.length t) i c - d6 (qV ls ps.length t) i P*d6 (qV ls ps.length t) ps.length c) / (d:Rat):=fun i hi c=>by
  by_cases e:i=ps.length
  ·rw[if_pos e];unfold d6 DO;rw[tS (by rw[ao];exact k1),if_pos e]
  ·have:=J9 w1 k1 h.d0 (i:=i) (by rw[xC];lia) (hz i (by lia) e) c;rw[this]
 have ed:(((((DO (qV ls ps.length t) ps.length P d).getD ps.length []).getD P 0:Int)):Rat)=d6 (qV ls ps.length t) ps.length P:=by
  have:=fc ps.length (by lia) P;rw[if_pos rfl] at this;exact this
 have lp:(ps++[P]).length=ps.length+1:=by rw[aw];rfl
 have hp:∀j,j < ps.length+1->(ps++[P]).getD j 0=if j=ps.length then P else ps.getD j 0:=fun j hj=>getD_snoc hj
 refine ⟨by rw[Ko,xC];exact hl,Gd w1 k1,⟨fun i=>pm (ky ps.length t i),?_⟩,?_⟩
 ·rw[ed,lp];exact B2.congr hp fc
 ·rw[ed,lp];refine lA.congr (E1.step (d':=d6 (qV ls ps.length t) ps.length P) (l':=fun i c=>if i=ps.length then d6 (qV ls ps.length t) ps.length c else (d6 (qV ls ps.length t) ps.length P*d6 (qV ls ps.length t) i c - d6 (qV ls ps.length t) i P*d6 (qV ls ps.length t) ps.length c) / (d:Rat)) (by lia) h1 B2.unit fun i hi=>?_) hp fc;have d0:=h.el.d0;by_cases e:i=ps.length
  ·refine ⟨1,0,by decide,fun _=>rfl,fun c=>?_⟩;rw[if_pos e,e];grind
  ·refine ⟨d6 (qV ls ps.length t) ps.length P / (d:Rat),-(d6 (qV ls ps.length t) i P) / (d:Rat),?_,fun z=>absurd z e,fun c=>?_⟩
   ·intro z;apply h1;grind
   ·rw[if_neg e];grind
theorem BD.sz {W r:Nat} (h:BD ls0 n P ls ps d) (hW:1<=W) (h0:∀i,i < ls0.length->∀c,Fr 1 W (d6 ls0 i c)) (hP:P<=n) (hr:min ls0.length n<=r) (r15:r<=15):(d.natAbs<=(16*W)^r)/\∀zs∈ls,∀z∈zs,z.natAbs<=(16*W)^r:=by
 obtain ⟨pm,B⟩:=h.bar;have kP:=h.el.kP;have km:=B.km;have hl:=h.len;have mono:∀{s t:Nat},s<=t->(16*W)^s<=(16*W)^t:=fun hs=>aj (bY (by decide) hW) hs
 refine ⟨ah (rz (B.dfr (W:=W) (N:=16) (by lia) h0)) (mono (by lia)),fun zs hz z hz'=>?_⟩;obtain ⟨i,hi,rfl⟩:=cz hz;obtain ⟨c,hc,rfl⟩:=cz hz';have hw:=h.wide _ (aT hi)
 have ez:d6 ls i c=(((ls[i])[c]:Int):Rat):=by
  unfold d6;rw[aa (l:=ls),ag hi];show ((ls[i].getD c 0:Int):Rat)=_
  rw[aa,ag hc];rfl
 by_cases hk:i < ps.length
 ·have:Fr 1 ((16*W)^ps.length) (d6 ls i c):=by
   have hd:=B.d0;rw[B.old hk]
   have:=yu (W:=W) (N:=16) (rs:=mY pm ps.length) (vs:=D8 (fun j r=>d6 ls0 r (ps.getD j 0)) i ps.length++(fun r=>d6 ls0 r c) :: iX (fun j r=>d6 ls0 r (ps.getD j 0)) i) (by
    have:=congrArg List.length (cw_split (v:=fun j r=>d6 ls0 r (ps.getD j 0)) hk);rw[aw,ba,cw_len] at this;rw[aw,ba]
    lia) (by
    intro v hv r hr
    have hr':∀c,Fr 1 W (d6 ls0 r c):=fun c=>by
     obtain ⟨t,ht,rfl⟩:=mU hr;exact h0 _ (B.rng t (by lia)) c
    rcases ax.mp hv with hv | hv
    ·obtain ⟨t,_,rfl⟩:=Bo hv;exact hr' _
    ·rcases aG.mp hv with rfl | hv
     ·exact hr' _
     ·obtain ⟨t,_,rfl⟩:=cw_in hv;exact hr' _)
   rwa [tm] at this
  rw[ez] at this;exact ah (rz this) (mono (by lia))
 ·by_cases hn:ps.length < n
  ·have:=B.fr (W:=W) (N:=16) (by lia) hW h0 (i:=i) (c:=c) (by lia);rw[ez] at this;exact ah (rz this) (mono (by lia))
  ·have:=h.el.zero i (by lia) (by lia) c (by lia);rw[ez] at this;rw[qJ this];exact aY _
end
def Tp (M W:Nat) (q:Rat):Prop:=∃z:Int,q*(M:Rat)=(z:Rat)/\z.natAbs<=W
theorem Tp.of {M V W:Nat} {q:Rat} (h:Fr M V q) (hW:V*M<=W):Tp M W q:=by obtain ⟨z,a,b⟩:=h;exact ⟨z,a,ah b hW⟩
theorem Tp.mono {M W W':Nat} {q:Rat} (h:Tp M W q) (hW:W<=W'):Tp M W' q:=by obtain ⟨z,a,b⟩:=h;exact ⟨z,a,ah b hW⟩
theorem Tp.fr {M W:Nat} {q:Rat} (h:Tp M W q) (h0:0 < M):Fr M W q:=by obtain ⟨z,a,b⟩:=h;exact ⟨z,a,ah b (cJ _ h0)⟩
def DX (rows:List (List Rat)) (n w:Nat):Prop:=∃M W:Nat,0 < M/\M<=2^4300/\1<=W/\W<=2^w/\(∀xs∈rows,∀x∈xs,Tp M W x)/\w<=4300/\min rows.length n<=15/\min rows.length n*(w+4)<=8900
def hZ (xs:List Rat):List Int:=fo (xs.map nm) (gY (xs.map nm))
theorem vW {xs:List Rat}:(hZ xs).length=xs.length:=by unfold hZ fo;rw[ao,ao]
theorem qM {xs:List Rat}:0 < gY (xs.map nm):=Ak (by decide) fun b hb=>by
 obtain ⟨n,hn,rfl⟩:=aD.mp hb;obtain ⟨x,_,rfl⟩:=aD.mp hn;exact j6 x
theorem KO {xs:List Rat} {c:Nat}:(((hZ xs).getD c 0:Int):Rat)=xs.getD c 0*((gY (xs.map nm):Int):Rat):=by
 unfold hZ fo;rw[aa,aa,aN,aN];cases e:xs[c]? with
 | none=>show ((0:Int):Rat)=0*_;rw[mE];rfl
 | some x=>exact sT (qN (aD.mpr ⟨x,ay e,rfl⟩))
section
variable {rows:List (List Rat)} {n w i c:Nat} {xs:List Rat}
theorem zu (hi:i < rows.length):d6 (rows.map hZ) i c=((gY ((rows.getD i []).map nm):Int):Rat)*cv rows i c:=by
 unfold d6 cv
 have e:(rows.map hZ).getD i []=hZ (rows.getD i []):=by
  rw[aa,aa,aN,ag hi];rfl
 rw[e,KO,dC]
theorem EZ (hw:∀xs∈rows,xs.length=n) (hc:n<=c):cv rows i c=0:=by
 unfold cv;by_cases h:i < rows.length
 ·have:=hw _ (getD_in (e:=[]) h);rw[aa (l:=rows.getD i []),aS (by lia)];rfl
 ·rw[aa (l:=rows),aS (by lia)];rfl
theorem Fi (i:Nat) (hi:i < rows.length):eU rows.length (d6 (rows.map hZ)) (cv rows i):=by
 have h0:((gY ((rows.getD i []).map nm):Int):Rat)≠0:=fun z=>by
  have:=qM (xs:=rows.getD i []);have:=qJ z
  lia
 refine eU.congr (fun c=>?_) (eU.lin (1 / ((gY ((rows.getD i []).map nm):Int):Rat)) 0 (eU.row (a:=d6 (rows.map hZ)) hi) (eU.row (a:=d6 (rows.map hZ)) hi));rw[zu hi];grind
theorem Fh (i:Nat) (hi:i < rows.length):eU rows.length (cv rows) (d6 (rows.map hZ) i):=by
 refine eU.congr (fun c=>?_) (eU.lin ((gY ((rows.getD i []).map nm):Int):Rat) 0 (eU.row (a:=cv rows) hi) (eU.row (a:=cv rows) hi));rw[zu hi];grind
theorem zx {M W:Nat} {x:Rat} (h:Tp M W x):(nm x).2∣(M:Int):=by
 obtain ⟨z,e,b⟩:=h
 exact Fr.den (V:=z.natAbs) (M:=M) ⟨z,e,by
  rcases oj M with h | h
  ·subst h;have:(z:Rat)=0:=by rw[<- e];simp
   rw[qJ this];simp
  ·exact cJ _ h⟩
theorem zw {M W:Nat} {x:Rat} (h:Tp M W x) (h0:0 < M) {B:Int} (hB:0 < B) (d1:(nm x).2∣B) (d2:B∣(M:Int)):∃t:Int,x*(B:Rat)=(t:Rat)/\t.natAbs<=W:=by
 obtain ⟨z,e,b⟩:=h;obtain ⟨s,es⟩:=d2;refine ⟨(nm x).1*(B / (nm x).2),(sT d1).symm,?_⟩
 have s0:0 < s:=by
  rcases Int.lt_trichotomy s 0 with h | h | h
  ·have:=Int.mul_neg_of_pos_of_neg hB h
   lia
  ·rw[h] at es;lia
  ·exact h
 have e2:(((nm x).1*(B / (nm x).2)*s:Int):Rat)=(z:Rat):=by
  rw[aQ,sT d1,<- e,<- aM,es,aQ];grind
 have e3:=dN.mp e2;have:((nm x).1*(B / (nm x).2)).natAbs*s.natAbs=z.natAbs:=by rw[<- cF,e3]
 have h1:1<=s.natAbs:=by lia
 have:=cJ ((nm x).1*(B / (nm x).2)).natAbs h1
 lia
theorem za {M W:Nat} (h0:0 < M) (h:∀x∈xs,Tp M W x):gY (xs.map nm)∣(M:Int):=yX (by decide) (Int.one_dvd _) fun b hb=>by
 obtain ⟨n,hn,rfl⟩:=aD.mp hb;obtain ⟨x,hx,rfl⟩:=aD.mp hn;exact ⟨j6 x,zx (h x hx)⟩
theorem DX.rowM (F:DX rows n w) (hx:xs∈rows):∃M,E9 M (xs.map nm):=by
 obtain ⟨M,W,h0,h1,hW,h2,h3,h4,_⟩:=F;refine ⟨M,by lia,?_,fun y hy=>?_⟩
 ·show ((M:Nat):Int).natAbs < 2^4400
  rw[bM];exact bA h1 (dP (by decide) (by decide))
 ·obtain ⟨x,hx',rfl⟩:=aD.mp hy;have t:=h3 xs hx x hx';refine ⟨j6 x,zx t,?_⟩;obtain ⟨s,e,b⟩:=zw t h0 (j6 x) (Int.dvd_refl _) (zx t);have e2:(((nm x).1:Int):Rat)=(s:Rat):=by rw[<- e];exact rh x
  rw[dN.mp e2];exact bA (ah b h2) (dP (by decide) (by lia))
theorem DX.ent (F:DX rows n w):∃W:Nat,1<=W/\W<=2^w/\∀i,i < (rows.map hZ).length->∀c,Fr 1 W (d6 (rows.map hZ) i c):=by
 obtain ⟨M,W,h0,h1,hW,h2,h3,h4,_⟩:=F;refine ⟨W,hW,h2,fun i hi c=>?_⟩;rw[ao] at hi;have hx:=getD_in (e:=[]) hi;rw[zu hi];unfold cv;generalize rows.getD i []=xs at hx ⊢;by_cases hc:c < xs.length
 ·have t:=h3 xs hx _ (getD_in (e:=0) hc);obtain ⟨s,e,b⟩:=zw t h0 (qM (xs:=xs)) (qN (aD.mpr ⟨_,getD_in (e:=0) hc,rfl⟩)) (za h0 (h3 xs hx));rw[dC,e];exact Fr.int b
 ·rw[aa,aS (by lia)];show Fr 1 W (_*0)
  rw[ji];exact Fr.zero
end
def cu (rows:List (List Rat)) (n:Nat) (R:List (List Rat)) (ps:List Nat):Prop:=R.length=ps.length/\(∀xs∈R,xs.length=n)/\DY rows.length n (cv rows) ps.length (fun j=>ps.getD j 0) (cv R)
structure Qo (rows:List (List Rat)) (n w:Nat) (R:List (List Rat)) (ps:List Nat) (d:Int) (ls:List (List Int)):Prop where
 rr:cu rows n R ps
 d0:d≠0
 len:ls.length=ps.length
 wide:∀zs∈ls,zs.length=n
 val:∀i c,d6 ls i c=(d:Rat)*cv R i c
 dsz:d.natAbs<=2^(min rows.length n*(w+4))
 zsz:∀zs∈ls,∀z∈zs,z.natAbs<=2^(min rows.length n*(w+4))
 tp:∀xs∈R,∀x∈xs,Tp d.natAbs (2^(min rows.length n*(w+4))) x
 km:ps.length<=rows.length
theorem DY.congrR {m n k:Nat} {a R R2:Nat->Nat->Rat} {p:Nat->Nat} (h:DY m n a k p R) (hr:∀i,i < k->∀c,R2 i c=R i c):DY m n a k p R2 :=
 ⟨h.inc,h.low,fun i hi j hj=>by rw[hr i hi];exact h.unit i hi j hj,fun i hi c hc=>by rw[hr i hi];exact h.lead i hi c hc,fun i hi=>(h.span i hi).rows hr,fun i hi=>(h.back i hi).congr fun c=>(hr i hi c).symm⟩
theorem DY.other {m m' n k:Nat} {a a' R:Nat->Nat->Rat} {p:Nat->Nat} (h:DY m n a k p R) (s1:∀i,i < m->eU m' a' (a i)) (s2:∀i,i < m'->eU m a (a' i)):DY m' n a' k p R :=
 ⟨h.inc,h.low,h.unit,h.lead,fun i hi=>eU.trans h.span (s2 i hi),fun i hi=>eU.trans s1 (h.back i hi)⟩
theorem xQ {W w r : Nat} (h : W ≤ 2 ^ w) : (16 * W) ^ r ≤ 2 ^ (r * (w + 4)) := by
  calc (16 * W) ^ r ≤ (2 ^ (w + 4)) ^ r := d7 (by rw [aO]; lia) _
    _ = 2 ^ (r * (w + 4)) := by rw [<- oN, bU]
theorem BD.done {rows:List (List Rat)} {n w:Nat} {ls:List (List Int)} {ps:List Nat} {d:Int} (h:BD (rows.map hZ) n n ls ps d) (hw:∀xs∈rows,xs.length=n) (F:DX rows n w) :
  ∃R,Qo rows n w R ps d (ls.take ps.length):=by
 obtain ⟨W,hW,W2,ent⟩:=F.ent;obtain ⟨_,_,_,_,_,_,_,_,r15,_⟩:=F;have hl:=h.len;have d0:=h.d0;have d0':(d:Rat)≠0:=fun z=>d0 (qJ z)
 have km:=h.el.km;have hm:(rows.map hZ).length=rows.length:=ao ..;obtain ⟨s1,s2⟩:=h.sz (r:=min rows.length n) hW ent (av _) (by rw[hm];exact av _) r15;have s2':∀zs∈ls,∀z∈zs,z.natAbs<=2^(min rows.length n*(w+4)):=fun zs hz z hz'=>ah (s2 zs hz z hz') (xQ W2)
 have er:∀i c,cv ((ls.take ps.length).map fun zs=>zs.map fun (z:Int)=>(z:Rat) / (d:Rat)) i c=d6 (ls.take ps.length) i c / (d:Rat):=fun i c=>by
  unfold cv d6;rw[aa (l:=List.map _ _),aN,aa (l:=List.take _ _)];cases e:(ls.take ps.length)[i]? with
  | none=>show (0:Rat)=((0:Int):Rat) / _;grind
  | some zs =>
   show (zs.map fun (z:Int)=>(z:Rat) / (d:Rat)).getD c 0=((zs.getD c 0:Int):Rat) / (d:Rat)
   rw[aa,aa,aN];cases e2:zs[c]? with
   | none=>show (0:Rat)=((0:Int):Rat) / _;grind
   | some z=>rfl
 have et:∀i,i < ps.length->∀c,d6 (ls.take ps.length) i c=d6 ls i c:=fun i hi c=>by
  unfold d6;rw[aa (l:=List.take _ _),xA hi,<- aa]
 have RR:=(h.el.done fun i hi c hc=>Aq (n:=n) (fun zs hz=>by
  obtain ⟨xs,hx,rfl⟩:=aD.mp hz;rw[vW];exact hw xs hx) hc).congrR (R2:=cv ((ls.take ps.length).map fun zs=>zs.map fun (z:Int)=>(z:Rat) / (d:Rat))) fun i hi c=>by rw[er,et i hi]
 rw[hm] at RR;refine ⟨(ls.take ps.length).map fun zs=>zs.map fun (z:Int)=>(z:Rat) / (d:Rat),⟨by rw[ao,dn];lia,fun xs hx=>?_,RR.other Fh Fi⟩,d0,by rw[dn];lia,fun zs hz=>h.wide zs (cC hz),fun i c=>?_,ah s1 (xQ W2),fun zs hz=>s2' zs (cC hz),fun xs hx x hx'=>?_,by lia⟩
 ·obtain ⟨zs,hz,rfl⟩:=aD.mp hx;rw[ao];exact h.wide zs (cC hz)
 ·rw[er];grind
 ·obtain ⟨zs,hz,rfl⟩:=aD.mp hx;obtain ⟨z,hz',rfl⟩:=aD.mp hx';have b:=s2' zs (cC hz) z hz';rcases D7 d with e | e
  ·refine ⟨z,?_,b⟩;have:((d.natAbs:Nat):Rat)=(d:Rat):=by rw[<- aM,<- e]
   rw[this];grind
  ·refine ⟨-z,?_,by rw[pV];exact b⟩;have:((d.natAbs:Nat):Rat)=-(d:Rat):=by rw[<- aM,<- dm];congr 1;lia
   rw[this,dm];grind
theorem J7 {R R':List (List Rat)} {n:Nat} (hl:R.length=R'.length) (w1:∀xs∈R,xs.length=n) (w2:∀xs∈R',xs.length=n) (h:∀i,i < R.length->∀c,cv R i c=cv R' i c):R=R':=by
 apply dD hl;intro i h1 h2;apply dD (by rw[w1 _ (aT h1),w2 _ (aT h2)]);intro c h3 h4;have:=h i h1 c;unfold cv at this;rw[aa (l:=R),aa (l:=R'),ag h1,ag h2] at this;have this:(R[i]).getD c 0=(R'[i]).getD c 0:=this;rw[aa,aa,ag h3,ag h4] at this;exact this
theorem cu.uniq {rows rows' R R':List (List Rat)} {n:Nat} {ps ps':List Nat} (h:cu rows n R ps) (h':cu rows' n R' ps') (s1:∀i,i < rows.length->eU rows'.length (cv rows') (cv rows i)) (s2:∀i,i < rows'.length->eU rows.length (cv rows) (cv rows' i)):R=R'/\ps=ps':=by
 obtain ⟨l1,w1,r1⟩:=h;obtain ⟨l2,w2,r2⟩:=h';obtain ⟨ek,ep,eR⟩:=r1.uniq r2 s1 s2;refine ⟨J7 (by lia) w1 w2 fun i hi c=>eR i (by lia) c,?_⟩;apply dD ek;intro j h1 h2;have:=ep j h1;rw[aa,aa,ag h1,ag h2] at this;exact this
theorem cu.same {rows R R':List (List Rat)} {n:Nat} {ps ps':List Nat} (h:cu rows n R ps) (h':cu rows n R' ps'):R=R'/\ps=ps':=h.uniq h' (fun _ hi=>eU.row hi) (fun _ hi=>eU.row hi)
open PySem PySem.Spec PyProof.Rows
def Gj (l:Addr) (H:Hp) (zs:List Int) (v:V):Prop:=∃q,v=V.ref q/\q≠l/\H q=some (.lst (zs.map V.int))
def uh (l:Addr) (H:Hp) (p:Addr) (ls:List (List Int)):Prop:=p≠l/\∃xs,H p=some (.lst xs)/\Paired (Gj l H) ls xs
theorem Gj.same {l:Addr} {H H':Hp} {zs:List Int} {v:V} (h:Gj l H zs v) (e:aL H H'):Gj l H' zs v:=by obtain ⟨q,a,n,b⟩:=h;exact ⟨q,a,n,e _ _ b⟩
theorem Gj.upd {l:Addr} {H:Hp} {zs:List Int} {v:V} {o:HO} (h:Gj l H zs v):Gj l (upd H l o) zs v:=by obtain ⟨q,a,n,b⟩:=h;exact ⟨q,a,n,by rw[bu n];exact b⟩
theorem uh.upd {l:Addr} {H:Hp} {p:Addr} {ls:List (List Int)} {o:HO} (h:uh l H p ls):uh l (upd H l o) p ls:=by obtain ⟨n,xs,a,b⟩:=h;exact ⟨n,xs,by rw[bu n];exact a,Paired.imp' (fun _ _ z=>z.upd) b⟩
theorem ne_old {H:Hp} {l r:Addr} (h:H l≠none) (n:H r=none):r≠l:=fun z=>h (by rw[<- z];exact n)
theorem ow {α β:Type} {F:α->β->Prop}:∀{l1:List α} {l2:List β} (_:Paired F l1 l2) (i:Nat) {x:α} {y:β},F x y->Paired F (l1.set i x) (l2.set i y)
 | _,_,.nil,_,_,_,_=>.nil
 | _,_,.cons _ r,0,_,_,h=>.cons h r
 | _,_,.cons a r,i+1,_,_,h=>.cons a (ow r i h)
theorem Iw {ls:List (List Int)} {i c:Nat} {zs:List Int} (h:ls[i]?=some zs):d6 ls i c=((zs.getD c 0:Int):Rat):=by
 unfold d6;rw[aa (l:=ls),h];rfl
theorem P7 {z:Int}:((z:Int):Rat)≠0↔z≠0:=⟨fun h e=>h (by rw[e];rfl),fun h e=>h (qJ e)⟩
theorem zo {zs:List Int} {c:Nat} (h:c < zs.length):E6 (zs.map V.int) (c:Int)=some (V.int (zs.getD c 0)):=gN (by rw[aN,aa,ag h];rfl)
def GW:Sp:=fun vs H Q _=>∃(l p:Addr) (ls:List (List Int)) (b c:Nat),vs=[.ref p,.int b,.int c]/\uh l H p ls/\ls.length<=1000/\b<=1000/\(∀zs∈ls,c < zs.length)/\(∀t:Nat,b<=t->t < ls.length->d6 ls t c≠0->Q (.int t) H)/\((∀t,b<=t->t < ls.length->d6 ls t c=0)->Q .non H)
def Dg:Sp:=fun vs H Q _=>∃(l p:Addr) (ls:List (List Int)) (t k:Nat),vs=[.ref p,.int t,.int k]/\H l≠none/\uh l H p ls/\ls.length<=1000/\t < ls.length/\k < ls.length/\∀r H',H r=none->aL H H'->uh l H' r (qV ls k t)->Q (.ref r) H'
def GX:Sp:=fun vs H Q _=>∃(l p:Addr) (ls:List (List Int)) (k c n:Nat) (b:Int),vs=[.ref p,.int k,.int c,.int b]/\H l≠none/\uh l H p ls/\ls.length<=1000/\k < ls.length/\(∀zs∈ls,zs.length=n)/\n<=1000/\c < n/\b≠0/\Sz 8999 b/\(∀zs∈ls,∀z∈zs,Sz 8999 z)/\∀r H',H r=none->aL H H'->uh l H' r (DO ls k c b)->Q (.ref r) H'
theorem Js (K:PySem.W.Frag) {X:Cx} {a b:Expr} {ta:TA} {p pos tpos:Pos} {elts:List Expr} {kk:Nat} (hg:Gl X "zip") (hm:X.mg "zip"=none) (ha:PA X [a,b] ta) (hK:X.K=K:=by rfl) (hs:starEach [a,b] X.env=[(false,eval a X.env),(false,eval b X.env)]:=by rfl) (hs2:starEach [b] X.env=[(false,eval b X.env)]:=by rfl) :
  PI X (.Tuple elts kk tpos) (.Call (.Name "zip" p) [a,b] [] pos) (N7 K ta):=by subst hK;exact uB hg hm ha hs hs2
def mL (ps:List Nat):List V:=ps.map fun (j:Nat)=>V.int (j:Int)
def GG (K:PySem.W.Frag):Sp:=fun vs H Q _=>∃(p:Addr) (n w:Nat) (H0:Hp) (rows:List (List Rat)),vs=[.ref p,.int n]/\bO K H0 H p rows/\rows.length<=100/\n<=100/\(∀xs∈rows,xs.length=n)/\DX rows n w /\
 ∀t lp qp R ps d ls H',H' t=some (.tup [.ref lp,.ref qp])->H' qp=some (.lst (mL ps))->uh qp H' lp ls->aL H H'->Qo rows n w R ps d ls->Q (.ref t) H'
def Df (K:PySem.W.Frag):Sp:=fun vs H Q _=>∃(p:Addr) (n w:Nat) (H0:Hp) (rows:List (List Rat)),vs=[.ref p,.int n]/\bO K H0 H p rows/\rows.length<=100/\n<=100/\(∀xs∈rows,xs.length=n)/\DX rows n w /\
 ∀r R ps M H',H r=none->aL H H'->bO K H H' r R->cu rows n R ps->ps.length<=rows.length->0 < M->M<=2^(min rows.length n*(w+4))->(∀xs∈R,∀x∈xs,Tp M (2^(min rows.length n*(w+4))) x)->Q (.ref r) H'
def tY (rows:List (List Rat)) (i:Nat):Rat:=((gY ((rows.getD i []).map nm):Int):Rat)
theorem y9 {rows:List (List Rat)} {i:Nat}:tY rows i≠0:=fun z=>by
 have:=qM (xs:=rows.getD i []);have:=qJ z
 lia
structure BE (rows:List (List Rat)) (n P:Nat) (rs:List (List Rat)) (ps:List Nat):Prop where
 len:rs.length=rows.length
 wide:∀xs∈rs,xs.length=n
 ex:∃pm l d,xv (d6 (rows.map hZ)) rows.length ps.length pm (fun j=>ps.getD j 0) l d/\lA (d6 (rows.map hZ)) rows.length ps.length P (fun j=>ps.getD j 0) l d/\∀i,i < rows.length->∀c,cv rs i c=l i c / (d*if i < ps.length then 1 else tY rows (pm i))
section
variable {rows rs rs':List (List Rat)} {n P w a:Nat} {ps:List Nat}
theorem JH {d:Rat} {k i j:Nat} (h:d≠0):d*(if i < k then 1 else tY rows j)≠0:=by
 have:=y9 (rows:=rows) (i:=j)
 split <;> grind
theorem BE.start (hw:∀xs∈rows,xs.length=n):BE rows n 0 rows []:=⟨rfl,hw,fun i=>i,d6 (rows.map hZ),1,xv.start fun _ _=>rfl,lA.start,fun i hi c=>by
 rw[zu hi,if_neg (by show ¬i < 0;lia)];have:=y9 (rows:=rows) (i:=i);show cv rows i c=tY rows i*cv rows i c / (1*tY rows i)
 grind⟩
theorem BE.skip (h:BE rows n P rs ps) (hz:∀i,ps.length<=i->i < rs.length->cv rs i P=0):BE rows n (P+1) rs ps:=by
 obtain ⟨len,wide,pm,l,d,B,E,v⟩:=h;refine ⟨len,wide,pm,l,d,B,E.skip fun i h1 h2=>?_,v⟩;have:=v i h2 P;rw[hz i h1 (by lia)] at this;have ne:=JH (rows:=rows) (i:=i) (j:=pm i) (k:=ps.length) B.d0;generalize d*(if i < ps.length then 1 else tY rows (pm i))=D at this ne;grind
theorem BE.step (h:BE rows n P rs ps) {t:Nat} (ht:ps.length<=t) (ht2:t < rs.length) (hne:cv rs t P≠0) (l':rs'.length=rows.length) (w':∀xs∈rs',xs.length=n)
  (hv:∀i,i < rows.length->∀c,cv rs' i c=if i=ps.length then 1 / cv rs t P*cv rs t c else cv rs (ky ps.length t i) c - cv rs (ky ps.length t i) P*(1 / cv rs t P*cv rs t c)):BE rows n (P+1) rs' (ps++[P]):=by
 obtain ⟨len,wide,pm,l,d,B,E,v⟩:=h;have hk:ps.length < rows.length:=by lia
 have B1:=B.swap ht (by lia);have E1:=E.swap ht (by lia);have d0:=B.d0
 have v1:∀i,i < rows.length->∀c,cv rs (ky ps.length t i) c=l (ky ps.length t i) c / (d*if i < ps.length then 1 else tY rows (pm (ky ps.length t i))):=fun i hi c=>by
  rw[v _ (uZ hk (by lia) hi) c];by_cases z:i < ps.length
  ·rw[vH ht z,if_pos z]
  ·rw[if_neg z,if_neg (by have:=vX ht (show ps.length<=i by lia);lia)]
 have sk:ky ps.length t ps.length=t:=by unfold ky;rw[if_pos rfl]
 have vt:∀c,cv rs t c=l (ky ps.length t ps.length) c / (d*tY rows (pm (ky ps.length t ps.length))):=fun c=>by
  have:=v1 ps.length hk c;rw[if_neg (by lia),sk] at this;rw[sk];exact this
 have bt:=y9 (rows:=rows) (i:=pm (ky ps.length t ps.length));have h1:l (ky ps.length t ps.length) P≠0:=fun z=>hne (by rw[vt P,z];grind)
 have B2:=B1.step (c0:=P) hk h1;have lp:(ps++[P]).length=ps.length+1:=by rw[aw];rfl
 have hp:∀j,j < ps.length+1->(ps++[P]).getD j 0=if j=ps.length then P else ps.getD j 0:=fun j hj=>getD_snoc hj
 refine ⟨l',w',fun i=>pm (ky ps.length t i),_,_,by rw[lp];exact B2.congr (l2:=fun i c=>if i=ps.length then l (ky ps.length t ps.length) c else (l (ky ps.length t ps.length) P*l (ky ps.length t i) c - l (ky ps.length t i) P*l (ky ps.length t ps.length) c) / d) hp (fun _ _ _=>rfl),?_,fun i hi c=>?_⟩
 ·rw[lp];refine lA.congr (E1.step (d':=l (ky ps.length t ps.length) P) (l':=fun i c=>if i=ps.length then l (ky ps.length t ps.length) c else (l (ky ps.length t ps.length) P*l (ky ps.length t i) c - l (ky ps.length t i) P*l (ky ps.length t ps.length) c) / d) hk h1 B2.unit fun i hi=>?_) hp (fun _ _ _=>rfl);by_cases e:i=ps.length
  ·refine ⟨1,0,by decide,fun _=>rfl,fun c=>?_⟩;rw[if_pos e,e];grind
  ·refine ⟨l (ky ps.length t ps.length) P / d,-(l (ky ps.length t i) P) / d,?_,fun z=>absurd z e,fun c=>?_⟩
   ·intro z;apply h1;grind
   ·rw[if_neg e];grind
 ·rw[hv i hi c,lp,vt c,vt P];by_cases e:i=ps.length
  ·rw[if_pos e,if_pos e,if_pos (by lia)];grind
  ·rw[if_neg e,if_neg e,v1 i hi c,v1 i hi P];have ne:=JH (rows:=rows) (i:=i) (j:=pm (ky ps.length t i)) (k:=ps.length) d0;by_cases z:i < ps.length
   ·rw[if_pos z,if_pos (by lia)];grind
   ·have bi:=y9 (rows:=rows) (i:=pm (ky ps.length t i));rw[if_neg z,if_neg (by lia)];grind
def MP (rows:List (List Rat)) (n w a:Nat):Prop:=∃M W:Nat,0 < M/\M<=2^a/\1<=W/\W<=2^w/\(∀xs∈rows,∀x∈xs,Tp M W x)/\min rows.length n<=15/\2*(min rows.length n*(w+4)+a)<=3990
theorem MP.ent (F:MP rows n w a):∃W:Nat,1<=W/\W<=2^w/\∀i,i < rows.length->∀c,Fr 1 W (d6 (rows.map hZ) i c):=by
 obtain ⟨M,W,h0,h1,hW,h2,h3,_⟩:=F;refine ⟨W,hW,h2,fun i hi c=>?_⟩;have hx:=getD_in (e:=[]) hi;rw[zu hi];unfold cv;generalize rows.getD i []=xs at hx ⊢;by_cases hc:c < xs.length
 ·have t:=h3 xs hx _ (getD_in (e:=0) hc);obtain ⟨s,e,b⟩:=zw t h0 (qM (xs:=xs)) (qN (aD.mpr ⟨_,getD_in (e:=0) hc,rfl⟩)) (za h0 (h3 xs hx));rw[dC,e];exact Fr.int b
 ·rw[aa,aS (by lia)];show Fr 1 W (_*0)
  rw[ji];exact Fr.zero
theorem MP.bot (F:MP rows n w a) {i:Nat} (hi:i < rows.length):∃b:Nat,0 < b/\b<=2^a/\tY rows i=(b:Rat):=by
 obtain ⟨M,W,h0,h1,hW,h2,h3,_⟩:=F;have hx:=getD_in (e:=[]) hi;have p:=qM (xs:=rows.getD i []);have dv:=za h0 (h3 _ hx);refine ⟨(gY ((rows.getD i []).map nm)).natAbs,by lia,ah (mX h0 ?_) h1,?_⟩
 ·have:=eI.mpr dv;rwa [bM] at this
 ·unfold tY;rw[<- aM];congr 1
  lia
theorem MX {l D:Rat} {z y:Int} {W:Nat} (hl:l=(z:Rat)) (hD:D=(y:Rat)) (h0:D≠0) (hz:z.natAbs<=W):Tp y.natAbs W (l / D):=by
 rcases D7 y with e | e
 ·refine ⟨z,?_,hz⟩;have:((y.natAbs:Nat):Rat)=D:=by rw[<- aM,<- e,hD]
  rw[this,hl];grind
 ·refine ⟨-z,?_,by rw[pV];exact hz⟩;have:((y.natAbs:Nat):Rat)=-D:=by rw[<- aM,hD,<- dm];congr 1;lia
  rw[this,hl,dm];grind
theorem BE.sz (h:BE rows n P rs ps) (F:MP rows n w a) (hP:P<=n) {i:Nat} (hi:i < rows.length):∃D:Nat,0 < D/\D<=2^(min rows.length n*(w+4)+a)/\∀c,Tp D (2^(min rows.length n*(w+4))) (cv rs i c):=by
 obtain ⟨len,wide,pm,l,d,B,E,v⟩:=h;obtain ⟨W,hW,W2,ent⟩:=F.ent;obtain ⟨_,_,_,_,_,_,_,r15,_⟩:=id F;have kP:=E.kP;have km:=B.km;have mono:∀{s t:Nat},s<=t->(16*W)^s<=(16*W)^t:=fun hs=>aj (bY (by decide) hW) hs
 obtain ⟨y,ey⟩:=rA (B.dfr (W:=W) (N:=16) (by lia) ent);have hy:=B.dfr (W:=W) (N:=16) (by lia) ent;rw[ey] at hy;have yb:y.natAbs<=2^(min rows.length n*(w+4)):=ah (rz hy) (ah (mono (show ps.length<=min rows.length n by lia)) (xQ W2));have y0:y≠0:=fun z=>B.d0 (by rw[ey,z];rfl)
 have lb:∀c,∃z:Int,l i c=(z:Rat)/\z.natAbs<=2^(min rows.length n*(w+4)):=fun c=>by
  by_cases hk:i < ps.length
  ·have f:Fr 1 ((16*W)^ps.length) (l i c):=by
    rw[B.old hk]
    have:=yu (W:=W) (N:=16) (rs:=mY pm ps.length) (vs:=D8 (fun j r=>d6 (rows.map hZ) r (ps.getD j 0)) i ps.length++(fun r=>d6 (rows.map hZ) r c) :: iX (fun j r=>d6 (rows.map hZ) r (ps.getD j 0)) i) (by
     have:=congrArg List.length (cw_split (v:=fun j r=>d6 (rows.map hZ) r (ps.getD j 0)) hk);rw[aw,ba,cw_len] at this;rw[aw,ba]
     lia) (by
     intro v hv r hr
     have hr':∀c,Fr 1 W (d6 (rows.map hZ) r c):=fun c=>by
      obtain ⟨t,ht,rfl⟩:=mU hr;exact ent _ (B.rng t (by lia)) c
     rcases ax.mp hv with hv | hv
     ·obtain ⟨t,_,rfl⟩:=Bo hv;exact hr' _
     ·rcases aG.mp hv with rfl | hv
      ·exact hr' _
      ·obtain ⟨t,_,rfl⟩:=cw_in hv;exact hr' _)
    rwa [tm] at this
   obtain ⟨z,ez⟩:=rA f;rw[ez] at f;exact ⟨z,ez,ah (rz f) (ah (mono (by lia)) (xQ W2))⟩
  ·by_cases hn:ps.length < n
   ·have f:=B.fr (W:=W) (N:=16) (by lia) hW ent (i:=i) (c:=c) hi;obtain ⟨z,ez⟩:=rA f;rw[ez] at f;exact ⟨z,ez,ah (rz f) (ah (mono (by lia)) (xQ W2))⟩
   ·refine ⟨0,?_,aY _⟩;by_cases hc:c < n
    ·rw[E.zero i (by lia) hi c (by lia)];rfl
    ·have:=v i hi c;rw[EZ wide (by lia)] at this;have ne:=JH (rows:=rows) (i:=i) (j:=pm i) (k:=ps.length) B.d0;generalize d*(if i < ps.length then 1 else tY rows (pm i))=D at this ne;show l i c=0
     grind
 obtain ⟨b,b0,b1,eb⟩:∃b:Nat,0 < b/\b<=2^a/\(if i < ps.length then 1 else tY rows (pm i))=(b:Rat):=by
  by_cases hk:i < ps.length
  ·exact ⟨1,by decide,cE,by rw[if_pos hk];rfl⟩
  ·obtain ⟨b,x1,x2,x3⟩:=F.bot (B.rng i hi);exact ⟨b,x1,x2,by rw[if_neg hk,x3]⟩
 have eD:d*(b:Rat)=((y*b:Int):Rat):=by rw[aQ,ey,aM]
 refine ⟨(y*b).natAbs,?_,?_,fun c=>?_⟩
 ·rw[cF,bM];exact bY (by lia) b0
 ·rw[cF,bM,aO];exact aE yb b1
 ·obtain ⟨z,ez,bz⟩:=lb c;rw[v i hi c,eb];refine MX ez eD (fun q=>?_) bz;rw[eD] at q;have:=qJ q;rcases Int.mul_eq_zero.mp this with q | q
  ·exact y0 q
  ·lia
end
theorem vG {M W:Nat} {x:Rat} (h:Tp M W x) (h0:0 < M) (h1:M<=2^3995) (h2:W<=2^3995):uf x:=by
 refine ⟨?_,?_⟩
 ·obtain ⟨s,e,b⟩:=zw h h0 (j6 x) (Int.dvd_refl _) (zx h);have e2:(((nm x).1:Int):Rat)=(s:Rat):=by rw[<- e];exact rh x
  rw[dN.mp e2];exact bA (ah b h2) (dP (by decide) (by decide))
 ·have:=mX h0 (yJ.mp (zx h));show ((x.den:Nat):Int).natAbs < _
  rw[bM];exact bA (ah this h1) (dP (by decide) (by decide))
theorem Tp.mul {M W M' W':Nat} {x y:Rat} (h:Tp M W x) (h':Tp M' W' y):Tp (M*M') (W*W') (x*y):=by
 obtain ⟨z,e,b⟩:=h;obtain ⟨z',e',b'⟩:=h';refine ⟨z*z',?_,by rw[cF];exact aE b b'⟩;rw[aQ,<- e,<- e',eC];grind
def GQ (K:PySem.W.Frag):Sp:=fun vs H Q _=>∃(p q:Addr) (xs ys:List Rat),vs=[.ref p,.ref q]/\cR K H p xs/\cR K H q ys/\ys.length=xs.length/\xs.length<=1000/\(∀x∈xs,uf x)/\(∀y∈ys,uf y) /\
 ∀r H',H r=none->aL H H'->cR K H' r (List.zipWith (fun x y=>x - y) xs ys)->Q (.ref r) H'
theorem Ob {xs ys:List Rat} {c:Nat} (h:xs.length=ys.length):(List.zipWith (fun x y=>x - y) xs ys).getD c 0=xs.getD c 0 - ys.getD c 0:=by
 rw[aa,aa,aa,cU];by_cases hc:c < xs.length
 ·rw[ag hc,ag (show c < ys.length by lia)];rfl
 ·rw[aS (by lia),aS (by lia)];show (0:Rat)=0 - 0
  grind
theorem JZ {xs:List Rat} {c:Nat} {q:Rat}:(xs.map fun y=>q*y).getD c 0=q*xs.getD c 0:=by
 rw[aa,aa,aN];cases xs[c]? with
 | none=>show (0:Rat)=q*0;grind
 | some x=>rfl
theorem xY {K:PySem.W.Frag} {H0 H H':Hp} {q:Addr} {rows:List (List Rat)} {vs:List V} (pr:Paired (dq K H0 H) rows vs) (s:aL H H') (n:H q=none) (g:H' q=some (.lst vs)):bO K H0 H' q rows :=
 ⟨vs,g,Paired.imp' (fun _ _ z=>z.same s) pr,fun z=>by
  obtain ⟨_,_,q',e,_,_,g',_⟩:=dF pr z;cases e;rw[n] at g';cases g'⟩
theorem cu.le {rows R:List (List Rat)} {n:Nat} {ps:List Nat} (h:cu rows n R ps):ps.length<=n:=by
 obtain ⟨_,_,rr⟩:=h;rcases dh n ps.length with z | z
 ·have inc:∀j,j < ps.length->j<=ps.getD j 0:=by
   intro j
   induction j with
   | zero=>intro _;exact aY _
   | succ j ih =>
    intro hj;have:=ih (by lia);have:=rr.inc j (j+1) (by lia) hj
    lia
  have h1:=inc (ps.length - 1) (by lia);have h2:=rr.low (ps.length - 1) (by lia)
  lia
 ·exact z
theorem Tp.zero {M W:Nat}:Tp M W 0:=⟨0,by simp,by simp⟩
theorem Tp.add {M W W':Nat} {x y:Rat} (h:Tp M W x) (h':Tp M W' y):Tp M (W+W') (x+y):=by
 obtain ⟨z,e,b⟩:=h;obtain ⟨z',e',b'⟩:=h';refine ⟨z+z',?_,ah (Int.natAbs_add_le _ _) (Nat.add_le_add b b')⟩;rw[AF,<- e,<- e'];grind
theorem Tp.sum {M W:Nat} {f:Nat->Rat}:∀{k:Nat},(∀j,j < k->Tp M W (f j))->Tp M (k*W) (bQ k f)
 | 0,_=>Tp.zero
 | k+1,h=>by
  have:=(Tp.sum (k:=k) fun j hj=>h j (by lia)).add (h k (by lia));exact this.mono (by rw[dr];exact av _)
theorem jN {M W:Nat} {xs:List Rat} (h:∀x∈xs,Tp M W x) (c:Nat):Tp M W (xs.getD c 0):=by
 by_cases hc:c < xs.length
 ·exact h _ (getD_in hc)
 ·rw[aa,aS (by lia)];exact Tp.zero
theorem Mj {M W:Nat} {R:List (List Rat)} (h:∀xs∈R,∀x∈xs,Tp M W x) (i c:Nat):Tp M W (cv R i c):=by
 unfold cv;by_cases hi:i < R.length
 ·exact jN (h _ (getD_in hi)) c
 ·rw[aa (l:=R),aS (by lia)];exact Tp.zero
theorem vM {α β:Type} {F:α->β->Prop}:∀{l1:List α} {l2:List β},Paired F l1 l2->Paired F l1.reverse l2.reverse
 | _,_,.nil=>.nil
 | _,_,.cons a r=>by rw[xp,xp];exact b6 (vM r) (.cons a .nil)
theorem JT {j:Nat} {ps:List Nat}:PZ (.int (j:Int)) (mL ps)=decide (j∈ps):=by
 unfold PZ mL;rw[List.any_map,nW,List.any_eq_true,decide_eq_true_iff];constructor
 ·rintro ⟨x,hx,e⟩;have e:((x:Int) == (j:Int))=true:=e;have:(x:Int)=j:=by simpa using e
  have:x=j:=by lia
  rw[<- this];exact hx
 ·intro h;exact ⟨j,h,by show ((j:Int) == (j:Int))=true;simp⟩
theorem HK {ps:List Nat}:(mL ps).all wQ=true:=by
 unfold mL;rw[List.all_map];exact qT.mpr fun _ _=>rfl
theorem JA {ps:List Nat}:(mL ps).length=ps.length:=ao ..
theorem LR {ps:List Nat} {i:Nat} {v:V} (h:(mL ps)[i]?=some v):∃j,ps[i]?=some j/\v=V.int (j:Int):=by
 unfold mL at h;rw[aN] at h;cases e:ps[i]? with
 | none=>rw[e] at h;cases h
 | some x=>rw[e] at h;exact ⟨x,rfl,(cg h).symm⟩
section
variable {R rows:List (List Rat)} {ps:List Nat} {n a j:Nat}
theorem fQ:∀{xs ys:List Rat},xs.length=ys.length->dW xs ys=bQ xs.length fun c=>xs.getD c 0*ys.getD c 0:=by
 intro xs ys h
 have key:∀k,k<=xs.length->dW (xs.take k) (ys.take k)=bQ k fun c=>xs.getD c 0*ys.getD c 0:=by
  intro k
  induction k with
  | zero=>intro _;rfl
  | succ k ih =>
   intro hk;rw[Bn (by lia) (by lia),ih (by lia)];rfl
 have:=key xs.length (av _);rwa [aI (av _),aI (by lia)] at this
end
def Pk:Kind Str where
 R:=fun _ _ x i=>x=.str i
 d:=0
 inj:=fun _ h1 h2=>by rw[h1] at h2;cases h2;rfl
 rc:=fun {X pins σ H s x y v u a b A} I rx ry h1 h2 _=>by
  subst h1 h2;obtain ⟨t,rfl⟩:=rx;obtain ⟨t',rfl⟩:=ry;have q:=SeqAt.RcAt.str_str (A:=A) (s:=s) a t b t';rwa [fO] at q
 ne:=fun {X pins σ H s x y v u a b A} I rx ry h1 h2 _=>by
  subst h1 h2;obtain ⟨t,rfl⟩:=rx;obtain ⟨t',rfl⟩:=ry;have q:=SeqAt.RcNeAt.str_str (A:=A) (s:=s) a t b t';rwa [fO] at q
 eq:=fun {X pins σ H s x y v u a b A} I rx ry h1 h2 _=>by
  subst h1 h2;obtain ⟨t,rfl⟩:=rx;obtain ⟨t',rfl⟩:=ry;have q:=SeqAt.EqAt.str_str (A:=A) (s:=s) a t b t';rwa [fO] at q
theorem L5 {q:Rat} (h:q.den<=9):q.den∣2520:=by
 have:=q.den_pos;generalize q.den=d at h this;have:d=1\/d=2\/d=3\/d=4\/d=5\/d=6\/d=7\/d=8\/d=9:=by lia
 rcases this with rfl | rfl | rfl | rfl | rfl | rfl | rfl | rfl | rfl <;> decide
theorem CD {q:Rat} {M:Nat} (h:Dr 9 q) (hM:2520∣M):Fr M 9 q:=(Fr.own q h.1).dvd (Nat.dvd_trans (L5 h.2) hM)
def dc (rows:List (List Rat)) (due:List Rat):List (List Rat):=List.zipWith (fun row d=>row++[d]) rows due
def v3 (R:List (List Rat)) (ps:List Nat) (n j:Nat):List Rat:=(List.range n).map fun c=>bQ j fun i=>if ps.getD i 0=c then cv R i n else 0
def fH (R:List (List Rat)) (ps:List Nat) (n:Nat):List Rat:=v3 R ps n ps.length
section
variable {rows R:List (List Rat)} {due xs:List Rat} {ps:List Nat} {n j:Nat}
theorem p8 (h:due.length=rows.length):(dc rows due).length=rows.length:=by unfold dc;rw[ck];lia
theorem wN (h:∀xs∈rows,xs.length=n):∀xs∈dc rows due,xs.length=n+1:=fun xs hx=>by
 unfold dc at hx;obtain ⟨i,hi,rfl⟩:=cz hx;rw[kz,aw,h _ (aT _)];rfl
theorem ME {i:Nat} {row:List Rat} {d:Rat} (h1:rows[i]?=some row) (h2:due[i]?=some d):(dc rows due)[i]?=some (row++[d]):=by
 unfold dc;rw[cU,h1,h2]
theorem yt (hd:due.length=rows.length) (hw:∀xs∈rows,xs.length=n) {i:Nat} (hi:i < rows.length):(∀c,c < n->cv (dc rows due) i c=cv rows i c)/\cv (dc rows due) i n=due.getD i 0:=by
 have e1:=ag hi;have e2:=ag (show i < due.length by lia);have ej:=ME e1 e2;have wi:=hw _ (aT hi);refine ⟨fun c hc=>?_,?_⟩
 ·unfold cv;rw[aa (l:=dc rows due),ej,aa (l:=rows),e1];show (rows[i]++[due[i]]).getD c 0=(rows[i]).getD c 0
  rw[aa,aa,bF (by lia)]
 ·unfold cv;rw[aa (l:=dc rows due),ej,aa (l:=due),e2];show (rows[i]++[due[i]]).getD n 0=due[i]
  rw[aa,aW (by lia),wi,gQ];rfl
theorem kD:(v3 R ps n j).length=n:=by unfold v3;rw[ao,cD]
theorem Ja {c:Nat} (h:c < n):(v3 R ps n j).getD c 0=bQ j fun i=>if ps.getD i 0=c then cv R i n else 0:=by
 unfold v3;rw[aa,aN,iT h];rfl
theorem K4:v3 R ps n 0=List.replicate n 0:=by
 unfold v3;show (List.range n).map (fun _=>(0:Rat))=_
 rw[AH,cD]
theorem K5 {J:List (List Rat)} (RR:cu J (n+1) R ps) (hj:j < ps.length):(v3 R ps n j).set (ps.getD j 0) (cv R j n)=v3 R ps n (j+1):=by
 obtain ⟨_,_,rr⟩:=RR;apply dD (by rw[eF,kD,kD]);intro c h1 h2;rw[kD] at h2;have e1:(v3 R ps n j)[c]'(by rw[kD];exact h2)=bQ j fun i=>if ps.getD i 0=c then cv R i n else 0:=by simp only[v3,fG,vE]
 have e2:(v3 R ps n (j+1))[c]'(by rw[kD];exact h2)=bQ j (fun i=>if ps.getD i 0=c then cv R i n else 0)+if ps.getD j 0=c then cv R j n else 0:=by simp only[v3,fG,vE];rfl
 rw[List.getElem_set,e2];by_cases q:ps.getD j 0=c
 ·rw[if_pos q,if_pos q,dG fun i hi=>?_,Rat.zero_add];rw[if_neg];intro z;have:=rr.inc i j hi hj
  lia
 ·rw[if_neg q,if_neg q,e1,zh]
theorem K6 {c:Nat} (hp:c∉ps):(fH R ps n).getD c 0=0:=by
 by_cases hc:c < n
 ·unfold fH;rw[Ja hc,dG fun i hi=>?_];rw[if_neg (fun z=>hp (by rw[<- z];exact getD_in hi))]
 ·rw[aa,aS (by unfold fH;rw[kD];lia)];rfl
theorem Eu (hd:due.length=rows.length) (hw:∀xs∈rows,xs.length=n) (RR:cu (dc rows due) (n+1) R ps) (hn:n∉ps) {i:Nat} {row:List Rat} (hr:rows[i]?=some row):dW row (fH R ps n)=due.getD i 0:=by
 obtain ⟨_,_,rr⟩:=RR;have hi:=(aH.mp hr).1;have wr:=hw row (ay hr);have ef:∀c,cv rows i c=row.getD c 0:=fun c=>by unfold cv;rw[aa (l:=rows),hr];rfl
 obtain ⟨f1,f2⟩:=yt hd hw hi
 have low:∀j,j < ps.length->ps.getD j 0 < n:=fun j hj=>by
  have:=rr.low j hj;have:ps.getD j 0≠n:=fun z=>hn (by rw[<- z];exact getD_in hj)
  lia
 have co:=rr.coef (rr.span i (by rw[p8 hd];exact hi)) n;rw[f2] at co;rw[co,fQ (by unfold fH;rw[kD,wr]),wr]
 have e1:bQ n (fun c=>row.getD c 0*(fH R ps n).getD c 0)=bQ n (fun c=>bQ ps.length fun j=>if ps.getD j 0=c then row.getD (ps.getD j 0) 0*cv R j n else 0):=by
  refine br fun c hc=>?_
  unfold fH;rw[Ja hc,<- dE];refine br fun j _=>?_
  split
  ·rename_i q;rw[q]
  ·grind
 rw[e1,<- kC];refine br fun j hj=>?_
 rw[iY (i:=ps.getD j 0) (low j hj) fun c _ ne=>if_neg fun z=>ne z.symm,if_pos rfl,f1 _ (low j hj),ef]
theorem Dh (hd:due.length=rows.length) (hw:∀xs∈rows,xs.length=n) (RR:cu (dc rows due) (n+1) R ps) (hn:n∈ps):∃w:Nat->Rat,(∀c,c < n->bQ rows.length (fun i=>w i*cv rows i c)=0)/\bQ rows.length (fun i=>w i*due.getD i 0)=1:=by
 obtain ⟨_,_,rr⟩:=RR;obtain ⟨j,hj,ej⟩:=cz hn;have ejD:ps.getD j 0=n:=by rw[aa,ag hj];exact ej
 obtain ⟨w,hw'⟩:=rr.back j hj;rw[p8 hd] at hw';refine ⟨w,fun c hc=>?_,?_⟩
 ·have z:=rr.lead j hj c (by rw[ejD];exact hc);rw[hw' c] at z;rw[<- z];exact br fun i hi=>by rw[(yt hd hw hi).1 c hc]
 ·have u:=rr.unit j hj j hj;rw[if_pos rfl,ejD,hw' n] at u;rw[<- u];exact br fun i hi=>by rw[(yt hd hw hi).2]
theorem Ng (hd:due.length=rows.length) (hw:∀xs∈rows,xs.length=n) (RR:cu (dc rows due) (n+1) R ps) {x:Nat->Rat} (hx:∀i,i < rows.length->bQ n (fun c=>cv rows i c*x c)=due.getD i 0):n∉ps:=fun hn=>by
 obtain ⟨w,h1,h2⟩:=Dh hd hw RR hn
 have e1:bQ rows.length (fun i=>w i*due.getD i 0)=bQ rows.length (fun i=>bQ n fun c=>x c*(w i*cv rows i c)):=br fun i hi=>by
  rw[<- hx i hi,<- dE];exact br fun c _=>by grind
 have e2:bQ n (fun c=>bQ rows.length fun i=>x c*(w i*cv rows i c))=0:=dG fun c hc=>by
  rw[dE,h1 c hc];grind
 rw[e1,kC,e2] at h2;exact absurd h2 (by decide)
theorem OX {M W:Nat} (h0:0 < M) (tp:∀xs∈R,∀x∈xs,Tp M W x) {J:List (List Rat)} (RR:cu J (n+1) R ps):∀x∈fH R ps n,Tp M W x:=fun x hx=>by
 obtain ⟨_,_,rr⟩:=RR;obtain ⟨c,hc,rfl⟩:=aD.mp hx;by_cases hp:∃j,j < ps.length/\ps.getD j 0=c
 ·obtain ⟨j,hj,e⟩:=hp;rw[iY hj fun i hi ne=>if_neg fun z=>?_,if_pos e]
  ·exact Mj tp j n
  ·rcases kx i j with q | q | q
   ·have:=rr.inc i j q hj;lia
   ·exact ne q
   ·have:=rr.inc j i q hi;lia
 ·rw[dG fun j hj=>if_neg fun z=>hp ⟨j,hj,z⟩];exact Tp.zero
end
def Em (K:PySem.W.Frag):Sp:=fun vs H Q _=>∃(p q:Addr) (n w:Nat) (H0:Hp) (rows:List (List Rat)) (due:List Rat),vs=[.ref p,.int n,.ref q]/\bO K H0 H p rows/\cR K H q due/\due.length=rows.length/\rows.length<=99/\n<=99/\(∀xs∈rows,xs.length=n)/\DX (dc rows due) (n+1) w /\
 (∀x R ps M H',cu (dc rows due) (n+1) R ps->n∉ps->H x=none->aL H H'->cR K H' x (fH R ps n)->0 < M->M<=2^(min rows.length (n+1)*(w+4))->(∀y∈fH R ps n,Tp M (2^(min rows.length (n+1)*(w+4))) y)->Q (.ref x) H') /\
 (∀R ps H',cu (dc rows due) (n+1) R ps->n∈ps->aL H H'->Q .non H')
def IH (rows:List (List Rat)) (n:Nat) (due:List Rat):List (List Rat):=dc (bC rows n++[due]) (List.replicate n 0++[1])
def GH (K:PySem.W.Frag):Sp:=fun vs H Q _=>∃(p q:Addr) (n w w':Nat) (H0:Hp) (rows:List (List Rat)) (due:List Rat),vs=[.ref p,.int n,.ref q]/\bO K H0 H p rows/\cR K H q due/\due.length=rows.length/\rows.length<=90/\n<=90/\(∀xs∈rows,xs.length=n)/\DX (dc rows due) (n+1) w/\DX (IH rows n due) (rows.length+1) w' /\
 (∀t x R ps M H',cu (dc rows due) (n+1) R ps->n∉ps->H' t=some (.tup [.str (Str.ofString "yes"),.ref x])->H x=none->aL H H'->cR K H' x (fH R ps n)->0 < M->M<=2^(min rows.length (n+1)*(w+4))->(∀y∈fH R ps n,Tp M (2^(min rows.length (n+1)*(w+4))) y)->Q (.ref t) H') /\
 (∀t x R ps R' ps' M H',cu (dc rows due) (n+1) R ps->n∈ps->cu (IH rows n due) (rows.length+1) R' ps'->rows.length∉ps'->H' t=some (.tup [.str (Str.ofString "no"),.ref x])->H x=none->aL H H'->cR K H' x (fH R' ps' rows.length)->0 < M->M<=2^(min (n+1) (rows.length+1)*(w'+4))->(∀y∈fH R' ps' rows.length,Tp M (2^(min (n+1) (rows.length+1)*(w'+4))) y)->Q (.ref t) H')
theorem Hv {rows R R':List (List Rat)} {due:List Rat} {ps ps':List Nat} {n:Nat} (hd:due.length=rows.length) (hw:∀xs∈rows,xs.length=n) (RR:cu (dc rows due) (n+1) R ps) (hn:n∈ps) (RR':cu (IH rows n due) (rows.length+1) R' ps'):rows.length∉ps':=by
 obtain ⟨w,h1,h2⟩:=Dh hd hw RR hn;have l1:(bC rows n++[due]).length=n+1:=by rw[aw,cy];rfl
 have w1:∀xs∈bC rows n++[due],xs.length=rows.length:=fun xs hx=>by
  rcases ax.mp hx with hx | hx
  ·exact kB xs hx
  ·rw[bW.mp hx];exact hd
 refine Ng (x:=w) (by rw[l1,aw,aF];rfl) w1 RR' fun i hi=>?_
 rw[l1] at hi;by_cases e:i < n
 ·have e1:∀c,cv (bC rows n++[due]) i c=cv rows c i:=fun c=>by
   unfold cv;rw[aa (l:=bC rows n++[due]),bF (by rw[cy];exact e)];unfold bC;rw[aN,iT e];show (rows.map fun xs=>xs.getD i 0).getD c 0=_
   rw[aa,aN,aa (l:=rows)];cases rows[c]? with
   | none=>rfl
   | some y=>rfl
  have e2:(List.replicate n (0:Rat)++[1]).getD i 0=0:=by
   rw[aa,bF (by rw[aF];exact e),cX,if_pos e];rfl
  rw[e2,<- h1 i e];exact br fun c _=>by rw[e1];grind
 ·have ei:i=n:=by lia
  subst ei
  have e1:∀c,cv (bC rows i++[due]) i c=due.getD c 0:=fun c=>by
   unfold cv;rw[aa (l:=bC rows i++[due]),aW (by rw[cy];exact av _),cy,gQ];rfl
  have e2:(List.replicate i (0:Rat)++[1]).getD i 0=1:=by
   rw[aa,aW (by rw[aF];exact av _),aF,gQ];rfl
  rw[e2,<- h2];exact br fun c _=>by rw[e1];grind
theorem DE {n:Nat}:((List.range n).map fun _=>(0:Rat))=List.replicate n 0:=by rw[AH,cD]
def M7 (K:PySem.W.Frag):Sp:=fun vs H Q _=>∃m:Nat,vs=[.int m]/\m<=100/\∀r H',H r=none->aL H H'->cR K H' r (List.replicate m 0)->Q (.ref r) H'
def De (K:PySem.W.Frag):Sp:=fun vs H Q _=>∃(p q:Addr) (n w w':Nat) (H0:Hp) (rows:List (List Rat)) (row:List Rat),vs=[.ref p,.int n,.ref q]/\bO K H0 H p rows/\cR K H q row/\row.length=n/\rows.length<=90/\n<=90/\(∀xs∈rows,xs.length=n)/\DX (dc (bC rows n) row) (rows.length+1) w/\DX (dc (rows++[row]) (List.replicate rows.length 0++[1])) (n+1) w' /\
 (∀t x R ps M H',cu (dc (bC rows n) row) (rows.length+1) R ps->rows.length∉ps->H' t=some (.tup [.str (Str.ofString "in"),.ref x])->H x=none->aL H H'->cR K H' x (fH R ps rows.length)->0 < M->M<=2^(min n (rows.length+1)*(w+4))->(∀y∈fH R ps rows.length,Tp M (2^(min n (rows.length+1)*(w+4))) y)->Q (.ref t) H') /\
 (∀t x R ps R' ps' M H',cu (dc (bC rows n) row) (rows.length+1) R ps->rows.length∈ps->cu (dc (rows++[row]) (List.replicate rows.length 0++[1])) (n+1) R' ps'->n∉ps'->H' t=some (.tup [.str (Str.ofString "out"),.ref x])->H x=none->aL H H'->cR K H' x (fH R' ps' n)->0 < M->M<=2^(min (rows.length+1) (n+1)*(w'+4))->(∀y∈fH R' ps' n,Tp M (2^(min (rows.length+1) (n+1)*(w'+4))) y)->Q (.ref t) H')
def Fj (rows:List (List Rat)) (ws:List Rat) (n j:Nat):List Rat:=(List.range n).map fun c=>bQ j fun i=>ws.getD i 0*cv rows i c
def C6 (rows:List (List Rat)) (ws:List Rat) (n:Nat):List Rat:=Fj rows ws n ws.length
section
variable {rows:List (List Rat)} {ws xs row:List Rat} {n j:Nat}
theorem qU:(Fj rows ws n j).length=n:=by unfold Fj;rw[ao,cD]
theorem Mg (h:j < j+1) {c:Nat} (hc:c < (Fj rows ws n j).length):(Fj rows ws n j)[c]=bQ j fun i=>ws.getD i 0*cv rows i c:=by
 simp only[Fj,fG,vE]
theorem KJ:Fj rows ws n 0=List.replicate n 0:=DE
theorem KL {w:Rat} (hx:rows[j]?=some xs) (hp:ws[j]?=some w) (hw:xs.length=n):List.zipWith (fun x y=>x+y) (Fj rows ws n j) (xs.map fun y=>w*y)=Fj rows ws n (j+1):=by
 apply dD (by rw[ck,qU,qU,ao];lia);intro c h1 h2;rw[qU] at h2;rw[kz,fG,Mg (by lia),Mg (by lia)];show _=bQ j _+_
 congr 1;have e1:ws.getD j 0=w:=by rw[aa,hp];rfl
 have e2:cv rows j c=xs[c]'(by lia):=by
  unfold cv;rw[aa (l:=rows),hx];show xs.getD c 0=_
  rw[aa,ag (by lia)];rfl
 dsimp only
 rw[e1,e2]
theorem BK {c:Nat} (hc:c < n):(C6 rows ws n).getD c 0=bQ ws.length fun i=>ws.getD i 0*cv rows i c:=by
 unfold C6 Fj;rw[aa,aN,iT hc];rfl
theorem DK (h:xs.length=ws.length):dW xs ws=dW ws xs:=by
 rw[fQ h,fQ h.symm,h];exact br fun c _=>dC ..
theorem zv {c:Nat} (hc:c < n):(bC rows n)[c]?=some (rows.map fun xs=>xs.getD c 0):=by
 unfold bC;rw[aN,iT hc];rfl
theorem NW {c i:Nat}:(rows.map fun xs=>xs.getD c 0).getD i 0=cv rows i c:=by
 unfold cv;rw[aa,aN,aa (l:=rows)];cases rows[i]? with
 | none=>rfl
 | some y=>rfl
theorem Gx {R:List (List Rat)} {ps:List Nat} (hl:row.length=n) (RR:cu (dc (bC rows n) row) (rows.length+1) R ps) (hn:rows.length∉ps):C6 rows (fH R ps rows.length) n=row:=by
 have ls:(fH R ps rows.length).length=rows.length:=kD;apply dD (by unfold C6;rw[qU,hl]);intro c h1 h2;have hc:c < n:=by lia
 have d:=Eu (rows:=bC rows n) (by rw[cy,hl]) (fun xs hx=>kB xs hx) RR hn (zv hc);have e:=BK (rows:=rows) (ws:=fH R ps rows.length) hc;have e1:(C6 rows (fH R ps rows.length) n).getD c 0=(C6 rows (fH R ps rows.length) n)[c]:=by rw[aa,ag h1];rfl
 have e2:row.getD c 0=row[c]:=by rw[aa,ag h2];rfl
 rw[<- e1,<- e2,e,<- d,fQ (by rw[ao,ls]),ao,ls];exact br fun i _=>by rw[NW];grind
theorem Hu {R:List (List Rat)} {ps:List Nat} (hw:∀xs∈rows,xs.length=n) (hl:row.length=n) (RR:cu (dc (rows++[row]) (List.replicate rows.length 0++[1])) (n+1) R ps) (hn:n∉ps):dW (fH R ps n) row=1/\∀xs∈rows,dW xs (fH R ps n)=0:=by
 have l1:(List.replicate rows.length (0:Rat)++[1]).length=(rows++[row]).length:=by rw[aw,aw,aF];rfl
 have w1:∀xs∈rows++[row],xs.length=n:=fun xs hx=>by
  rcases ax.mp hx with hx | hx
  ·exact hw xs hx
  ·rw[bW.mp hx];exact hl
 have ls:(fH R ps n).length=n:=kD;refine ⟨?_,fun xs hx=>?_⟩
 ·have:=Eu l1 w1 RR hn (i:=rows.length) (row:=row) (by rw[aW (av _),gQ];rfl);rw[DK (by rw[ls,hl]),this,aa,aW (by rw[aF];exact av _),aF,gQ];rfl
 ·obtain ⟨i,hi,rfl⟩:=cz hx;have:=Eu l1 w1 RR hn (i:=i) (row:=rows[i]) (by rw[bF hi,ag hi]);rw[this,aa,bF (by rw[aF];exact hi),cX,if_pos hi];rfl
end
def GD (K:PySem.W.Frag):Sp:=fun vs H Q _=>∃(p q:Addr) (n M D W B:Nat) (H0:Hp) (rows:List (List Rat)) (ws:List Rat),vs=[.ref p,.ref q,.int n]/\bO K H0 H p rows/\cR K H q ws/\ws.length=rows.length/\rows.length<=100/\n<=100/\(∀xs∈rows,xs.length=n)/\0 < M/\0 < D/\(∀xs∈rows,∀x∈xs,Tp M W x)/\(∀x∈ws,Tp D B x)/\1<=W/\1<=B/\M*D<=2^3990/\128*(W*B)<=2^3990 /\
 ∀r H',H r=none->aL H H'->cR K H' r (C6 rows ws n)->Q (.ref r) H'
theorem Fr.up {M V M' V':Nat} {x:Rat} (h:Fr M V x) (hd:M∣M') (hv:V<=V'):Fr M' V' x:=(h.dvd hd).mono hv
section
variable {rows R:List (List Rat)} {due:List Rat} {ps:List Nat} {n:Nat}
theorem LZ {xs ys:List Rat} {M V D B:Nat} (h:ys.length=xs.length) (hx:∀x∈xs,Fr M V x) (hy:∀y∈ys,Fr D B y):Fr (M*D) (xs.length*(V*B)) (dW xs ys):=by
 rw[fQ h.symm]
 have key:∀j,j<=xs.length->Fr (M*D) (j*(V*B)) (bQ j fun c=>xs.getD c 0*ys.getD c 0):=by
  intro j
  induction j with
  | zero=>intro _;exact Fr.zero
  | succ j ih =>
   intro hj;exact ((ih (by lia)).add ((hx _ (getD_in (by lia))).mul (hy _ (getD_in (by lia))))).mono (Nat.le_of_eq (dr j (V*B)).symm)
 exact key _ (av _)
end
section
variable {rows rows' R R':List (List Rat)} {n w W:Nat} {ps ps':List Nat}
theorem A3 (hw:∀xs∈rows,xs.length=n) (hW:1<=W) (ent:∀i,i < (rows.map hZ).length->∀c,Fr 1 W (d6 (rows.map hZ) i c)):∀P,P<=n->∃ls ps d,BD (rows.map hZ) n P ls ps d:=by
 intro P
 induction P with
 | zero=>intro _;exact ⟨_,_,_,BD.start fun zs hz=>by obtain ⟨x,hx,rfl⟩:=aD.mp hz;rw[vW];exact hw x hx⟩
 | succ P ih =>
  intro hP;obtain ⟨ls,ps,d,I⟩:=ih (by lia);by_cases e:∃t,ps.length<=t/\t < ls.length/\d6 ls t P≠0
  ·obtain ⟨t,h1,h2,h3⟩:=e;exact ⟨_,_,_,I.step hW ent h1 h2 h3⟩
  ·exact ⟨_,_,_,I.skip fun i h1 h2=>by
    by_cases z:d6 ls i P=0
    ·exact z
    ·exact absurd ⟨i,h1,h2,z⟩ e⟩
theorem Hs (hw:∀xs∈rows,xs.length=n) (F:DX rows n w):∃R ps d ls,Qo rows n w R ps d ls:=by
 obtain ⟨W,hW,W2,ent⟩:=F.ent;obtain ⟨ls,ps,d,I⟩:=A3 hw hW ent n (av _);obtain ⟨R,S⟩:=I.done hw F;exact ⟨R,ps,d,_,S⟩
theorem O2 (hw:∀xs∈rows,xs.length=n) (F:DX rows n w) (RR:cu rows n R ps):ps.length<=rows.length/\∃M,0 < M/\M<=2^(min rows.length n*(w+4))/\∀xs∈R,∀x∈xs,Tp M (2^(min rows.length n*(w+4))) x:=by
 obtain ⟨R2,ps2,d,ls,S⟩:=Hs hw F;obtain ⟨rfl,rfl⟩:=S.rr.same RR;exact ⟨S.km,d.natAbs,Int.natAbs_pos.mpr S.d0,S.dsz,S.tp⟩
theorem HS {k:Nat} {p q:Nat->Nat} (hp:∀i j,i < j->j < k->p i < p j) (hq:∀i j,i < j->j < k->q i < q j) (hs:∀i,i < k->∃j,j < k/\q j=p i):∀i,i < k->p i=q i:=by
 have hqm:∀i j,i<=j->j < k->q i<=q j:=fun i j h hj=>by
  rcases dh i j with z | z
  ·exact bp (hq i j z hj)
  ·have:i=j:=by lia
   rw[this];exact av _
 have hqi:∀i j,i < k->j < k->q i < q j->i < j:=fun i j hi hj h=>by
  rcases dh i j with z | z
  ·exact z
  ·have:=hqm j i z hi
   lia
 have key:∀i,i < k->∀j,j < k->q j=p i->i<=j:=by
  intro i
  induction i with
  | zero=>intro _ j _ _;exact aY _
  | succ i ih =>
   intro hi j hj e;obtain ⟨j',hj',e'⟩:=hs i (by lia);have h1:=ih (by lia) j' hj' e';have h2:=hp i (i+1) (by lia) hi;have:=hqi j' j hj' hj (by lia)
   lia
 have key2:∀t i,i+t+1=k->∀j,j < k->q j=p i->j<=i:=by
  intro t
  induction t with
  | zero=>intro i e j hj _;lia
  | succ t ih =>
   intro i e j hj ej;obtain ⟨j',hj',e'⟩:=hs (i+1) (by lia);have h1:=ih (i+1) (by lia) j' hj' e';have h2:=hp i (i+1) (by lia) (by lia);have:=hqi j j' hj hj' (by lia)
   lia
 intro i hi;obtain ⟨j,hj,e⟩:=hs i hi;have h1:=key i hi j hj e;have h2:=key2 (k - 1 - i) i (by lia) j hj e;have:j=i:=by lia
 rw[<- e,this]
theorem Hq (h:cu rows n R ps) (h':cu rows' n R' ps') (hl:ps.length=ps'.length) (hs:∀i,i < ps.length->eU ps'.length (cv R') (cv R i)):R=R'/\ps=ps':=by
 obtain ⟨l1,w1,r1⟩:=h;obtain ⟨l2,w2,r2⟩:=h'
 have ep:∀i,i < ps.length->ps.getD i 0=ps'.getD i 0:=HS r1.inc (by rw[hl];exact r2.inc) fun i hi=>by
  have u:=r1.unit i hi i hi;rw[if_pos rfl] at u;obtain ⟨j,hj,e⟩:=r2.lead_in (hs i hi) (c:=ps.getD i 0) (by rw[u];decide) (fun c hc=>r1.lead i hi c hc);exact ⟨j,by lia,e⟩
 have eps:ps=ps':=by
  apply dD hl;intro i a b;have:=ep i a;rw[aa,aa,ag a,ag b] at this;exact this
 refine ⟨J7 (n:=n) (by lia) w1 w2 fun i hi c=>?_,eps⟩;rw[l1] at hi;rw[r2.coef (hs i hi) c,<- hl,iY hi fun j hj hj'=>?_]
 ·rw[<- ep i hi];have u:=r1.unit i hi i hi;rw[if_pos rfl] at u;rw[u];grind
 ·rw[<- ep j hj];have u:=r1.unit i hi j hj;rw[if_neg (Ne.symm hj')] at u;rw[u];grind
end
def rd (mv:List (List Rat)) (x:List Rat):List Rat:=mv.map fun xs=>dW xs x
def kry (mv pt:List (List Rat)):Nat->List (List Rat)
 | 0=>[]
 | t+1=>pt++(kry mv pt t).map (rd mv)
section
variable {mv pt R R' S X Y:List (List Rat)} {n t m i c:Nat} {ps ps':List Nat} {a:Nat->Nat->Rat}
theorem xR {x:List Rat}:(rd mv x).length=mv.length:=ao ..
theorem Jw (lm:mv.length=n) (wm:∀xs∈mv,xs.length=n) (wR:∀xs∈R,xs.length=n) (hi:i < R.length) (c:Nat):cv (R.map (rd mv)) i c=bQ n fun j=>cv mv c j*cv R i j:=by
 have wi:=wR _ (aT hi);have e1:(R.map (rd mv)).getD i []=rd mv R[i]:=by rw[aa,aN,ag hi];rfl
 have e2:R.getD i []=R[i]:=by rw[aa,ag hi];rfl
 by_cases hc:c < n
 ·have wc:=wm _ (aT (show c < mv.length by lia));have e3:mv.getD c []=mv[c]'(by lia):=by rw[aa,ag (by lia)];rfl
  have e4:(rd mv R[i]).getD c 0=dW (mv[c]'(by lia)) R[i]:=by
   unfold rd;rw[aa,aN,ag (by lia)];rfl
  unfold cv;rw[e1,e2,e3,e4,fQ (by lia),wc]
 ·have e3:mv.getD c []=[]:=by rw[aa,aS (by lia)];rfl
  unfold cv
  rw[e1,e3,aa,aS (by rw[xR];lia),dG fun j _=>by
   show ([]:List Rat).getD j 0*_=0
   rw[aa];show (0:Rat)*_=0
   grind]
  rfl
theorem Ei (lm:mv.length=n) (wm:∀xs∈mv,xs.length=n) (wR:∀xs∈R,xs.length=n) (wS:∀xs∈S,xs.length=n) (hi:i < R.length) (h:eU S.length (cv S) (cv R i)):eU (S.map (rd mv)).length (cv (S.map (rd mv))) (cv (R.map (rd mv)) i):=by
 obtain ⟨w,hw⟩:=h;refine ⟨w,fun c=>?_⟩;rw[Jw lm wm wR hi,ao]
 have e1:bQ n (fun j=>cv mv c j*cv R i j)=bQ n (fun j=>bQ S.length fun s=>w s*(cv mv c j*cv S s j)):=br fun j _=>by
  rw[hw j,<- dE];exact br fun s _=>by grind
 rw[e1,kC];exact br fun s hs=>by rw[dE,Jw lm wm wS hs]
theorem CO (h:i < X.length):cv (X++Y) i=cv X i:=by
 funext c;unfold cv;rw[aa (l:=X++Y),bF h,<- aa]
theorem yQ:cv (X++Y) (X.length+i)=cv Y i:=by
 funext c;unfold cv;rw[aa (l:=X++Y),aW (by lia),show X.length+i - X.length=i by lia,<- aa]
theorem BR (h1:∀i,i < X.length->eU m a (cv X i)) (h2:∀i,i < Y.length->eU m a (cv Y i)):∀i,i < (X++Y).length->eU m a (cv (X++Y) i):=fun i hi=>by
 rw[aw] at hi;by_cases h:i < X.length
 ·rw[CO h];exact h1 i h
 ·obtain ⟨j,rfl⟩:∃j,i=X.length+j:=⟨i - X.length,by lia⟩;rw[yQ];exact h2 j (by lia)
theorem zC (h:i < X.length):eU (X++Y).length (cv (X++Y)) (cv X i):=by
 have:=eU.row (a:=cv (X++Y)) (m:=(X++Y).length) (i:=i) (by rw[aw];lia);rwa [CO h] at this
theorem xE {x:Nat->Rat} (h:eU Y.length (cv Y) x):eU (X++Y).length (cv (X++Y)) x:=eU.trans (fun s hs=>by
 have:=eU.row (a:=cv (X++Y)) (m:=(X++Y).length) (i:=X.length+s) (by rw[aw];lia);rwa [yQ] at this) h
theorem fe (lm:mv.length=n) (wp:∀xs∈pt,xs.length=n):∀t,∀xs∈kry mv pt t,xs.length=n:=by
 intro t
 induction t with
 | zero=>intro xs hx;cases hx
 | succ t ih =>
  intro xs hx;rcases ax.mp hx with hx | hx
  ·exact wp xs hx
  ·obtain ⟨y,_,rfl⟩:=aD.mp hx;rw[xR,lm]
theorem Am (lm:mv.length=n) (wm:∀xs∈mv,xs.length=n) (wp:∀xs∈pt,xs.length=n) (RR:cu (kry mv pt t) n R ps) (RR':cu (pt++R.map (rd mv)) n R' ps'):cu (kry mv pt (t+1)) n R' ps':=by
 have wk:=fe (mv:=mv) lm wp t;refine ⟨RR'.1,RR'.2.1,RR'.2.2.other ?_ ?_⟩
 ·refine BR (fun i hi=>zC hi) fun i hi=>xE ?_
  rw[ao] at hi;exact Ei lm wm RR.2.1 wk hi (RR.2.2.back i (by rw[<- RR.1];exact hi))
 ·refine BR (fun i hi=>zC hi) fun i hi=>xE ?_
  rw[ao] at hi;have:=RR.2.2.span i hi;rw[<- RR.1] at this;exact Ei lm wm wk RR.2.1 hi this
theorem JM (lm:mv.length=n) (wm:∀xs∈mv,xs.length=n) (wp:∀xs∈pt,xs.length=n):∀t i,i < (kry mv pt t).length->eU (kry mv pt (t+1)).length (cv (kry mv pt (t+1))) (cv (kry mv pt t) i):=by
 intro t
 induction t with
 | zero=>intro i hi;cases hi
 | succ t ih =>
  refine BR (fun i hi=>zC hi) fun i hi=>xE ?_
  rw[ao] at hi;exact Ei lm wm (fe lm wp t) (fe lm wp (t+1)) hi (ih i hi)
theorem Al (lm:mv.length=n) (wm:∀xs∈mv,xs.length=n) (wp:∀xs∈pt,xs.length=n) (RR:cu (kry mv pt t) n R ps) (RR':cu (kry mv pt (t+1)) n R' ps'):∀i,i < ps.length->eU ps'.length (cv R') (cv R i):=fun i hi =>
 eU.trans (fun s hs=>RR'.2.2.span s hs) (eU.trans (JM lm wm wp t) (RR.2.2.back i hi))
theorem HP (lm:mv.length=n) (wm:∀xs∈mv,xs.length=n) (wp:∀xs∈pt,xs.length=n) (RR:cu (kry mv pt t) n R ps) (RR':cu (pt++R.map (rd mv)) n R' ps') (hl:ps'.length=ps.length):∀s,cu (kry mv pt (t+s)) n R ps:=by
 have K1:=Am lm wm wp RR RR';obtain ⟨e1,e2⟩:=Hq RR K1 hl.symm (Al lm wm wp RR K1);subst e1 e2;intro s
 induction s with
 | zero=>exact RR
 | succ s ih=>exact Am lm wm wp ih RR'
theorem JN (lm:mv.length=n) (wm:∀xs∈mv,xs.length=n) (wp:∀xs∈pt,xs.length=n) (RR:cu (kry mv pt t) n R ps) (RR':cu (kry mv pt (t+1)) n R' ps'):ps.length<=ps'.length:=by
 have h:=Al lm wm wp RR RR'
 have hs:∀i,i < ps.length->∃j,j < ps'.length/\ps'.getD j 0=ps.getD i 0:=fun i hi=>by
  have u:=RR.2.2.unit i hi i hi;rw[if_pos rfl] at u;exact RR'.2.2.lead_in (h i hi) (c:=ps.getD i 0) (by rw[u];decide) (fun c hc=>RR.2.2.lead i hi c hc)
 rcases dh ps'.length ps.length with z | z
 ·exfalso
  have key:∀i,i < ps.length->∀j,j < ps'.length->ps'.getD j 0=ps.getD i 0->i<=j:=by
   intro i
   induction i with
   | zero=>intro _ j _ _;exact aY _
   | succ i ih =>
    intro hi j hj e;obtain ⟨j',hj',e'⟩:=hs i (by lia);have h1:=ih (by lia) j' hj' e';have h2:=RR.2.2.inc i (i+1) (by lia) hi;rcases dh j' j with y | y
    ·lia
    ·rcases dh j j' with x | x
     ·have:=RR'.2.2.inc j j' x hj'
      lia
     ·have:j=j':=by lia
      rw[this] at e
      lia
  obtain ⟨j,hj,e⟩:=hs (ps.length - 1) (by lia);have:=key (ps.length - 1) (by lia) j hj e
  lia
 ·exact z
theorem JO {M V c:Nat} (lm:mv.length=n) (wm:∀xs∈mv,xs.length=n) (wp:∀xs∈pt,xs.length=n) (hc:(n+1)*V<=2^c) (fm:GF M V mv) (fp:GF M V pt):∀t,∀xs∈kry mv pt t,∀x∈xs,Fr (M^t) (2^(c*t)) x:=by
 intro t
 induction t with
 | zero=>intro xs hx;cases hx
 | succ t ih =>
  intro xs hx x hx';have hV:V<=2^c:=ah (cM _ (by lia)) hc;rcases ax.mp hx with hx | hx
  ·refine Fr.up (fp xs hx x hx') (by rw[fw];exact Im _ _) (ah hV (aj (by decide) (cJ _ (by lia))))
  ·obtain ⟨y,hy,rfl⟩:=aD.mp hx;unfold rd at hx';obtain ⟨r,hr,rfl⟩:=aD.mp hx';have wr:=wm r hr;have wy:=fe (mv:=mv) lm wp t y hy;have f:=LZ (by lia) (fm r hr) (ih y hy);rw[fw,bU (M^t)];refine f.mono ?_;rw[gU,Nat.mul_one,aO,bU (2^(c*t)),<- cw,wr];exact aA _ (ah (aA _ (by lia)) hc)
def sQ (mv pt:List (List Rat)) (a c:Nat):Prop:=∃M V:Nat,0 < M/\M<=2^a/\(mv.length+1)*V<=2^c/\GF M V mv/\GF M V pt/\a<=400/\c<=40/\mv.length*(mv.length*(a+c)+4)<=1740/\mv.length*(mv.length*(mv.length*(a+c)+4)+a+c+4)<=8900
theorem sQ.swf {a c:Nat} (F:sQ mv pt a c) (D:mv.length<=8) (wm:∀xs∈mv,xs.length=mv.length) (wp:∀xs∈pt,xs.length=mv.length) (ht:t<=mv.length):DX (kry mv pt t) mv.length (mv.length*(a+c)):=by
 obtain ⟨M,V,M0,Ma,hV,fm,fp,a3,c3,e14,e89⟩:=F;have f:=JO rfl wm wp hV fm fp t;have h1:mv.length*(a+c)<=8*440:=aE D (by lia);have hM:M^t<=2^(a*mv.length):=ah (d7 Ma _) (by rw[<- oN];exact aj (by decide) (aP _ ht));have h2:a*mv.length<=mv.length*(a+c):=by rw[bU];exact aP _ (by lia)
 have h3:mv.length=0\/mv.length*(a+c)<=1740:=by
  rcases oj mv.length with z | z
  ·exact .inl z
  ·right
   have:=cM (mv.length*(a+c)+4) z
   lia
 have h4:mv.length*(a+c)<=1740:=by
  rcases h3 with z | z
  ·rw[z];lia
  ·exact z
 refine ⟨M^t,2^(mv.length*(a+c)),gR M0,ah hM (aj (by decide) (by lia)),cE,av _,fun xs hx x hx'=>Tp.of (f xs hx x hx') ?_,by lia,by lia,?_⟩
 ·refine ah (aE (aj (by decide) (aP c ht)) hM) ?_;rw[<- aO];refine aj (by decide) ?_;rw[bU c,bU a,<- gU,zj c];exact av _
 ·exact ah (aA _ (yG _ _)) (by lia)
theorem sQ.tp {a c:Nat} (F:sQ mv pt a c) (D:mv.length<=8) (wm:∀xs∈mv,xs.length=mv.length) (wp:∀xs∈pt,xs.length=mv.length) (ht:t<=mv.length) (RR:cu (kry mv pt t) mv.length R ps):∃M,0 < M/\M<=2^(mv.length*(mv.length*(a+c)+4))/\∀xs∈R,∀x∈xs,Tp M (2^(mv.length*(mv.length*(a+c)+4))) x:=by
 obtain ⟨_,M,h0,h1,h2⟩:=O2 (fe rfl wp t) (F.swf D wm wp ht) RR;have le:2^(min (kry mv pt t).length mv.length*(mv.length*(a+c)+4))<=2^(mv.length*(mv.length*(a+c)+4)):=aj (by decide) (aA _ (yG _ _));exact ⟨M,h0,ah h1 le,fun xs hx x hx'=>(h2 xs hx x hx').mono le⟩
theorem sQ.step {a c:Nat} (F:sQ mv pt a c) (D:mv.length<=8) (wm:∀xs∈mv,xs.length=mv.length) (wp:∀xs∈pt,xs.length=mv.length) (ht:t<=mv.length) (RR:cu (kry mv pt t) mv.length R ps):DX (pt++R.map (rd mv)) mv.length (mv.length*(mv.length*(a+c)+4)+a+c):=by
 obtain ⟨N,N0,N1,tN⟩:=F.tp D wm wp ht RR;obtain ⟨M,V,M0,Ma,hV,fm,fp,a3,c3,e14,e89⟩:=F;generalize mv.length*(mv.length*(a+c)+4)=e at *
 have V1:V<=2^c:=ah (cM _ (by lia)) hV;have eW:(2:Nat)^(e+a+c)=2^c*(2^a*2^e):=by rw[<- aO,<- aO];congr 1;lia
 refine ⟨N*M,2^(e+a+c),bY N0 M0,?_,cE,av _,fun xs hx x hx'=>?_,by lia,by lia,?_⟩
 ·exact ah (aE N1 Ma) (by rw[<- aO];exact aj (by decide) (by lia))
 ·rcases ax.mp hx with hx | hx
  ·refine Tp.of ((fp xs hx x hx').scaleL N) ?_;rw[eW,bU N];exact aE V1 (aE Ma N1)
  ·obtain ⟨y,hy,rfl⟩:=aD.mp hx;unfold rd at hx';obtain ⟨r,hr,rfl⟩:=aD.mp hx';have wr:=wm r hr;have wy:=RR.2.1 y hy;rw[fQ (by lia),wr];have t1:∀j,Tp M (V*M) (r.getD j 0):=fun j=>jN (fun x hx=>Tp.of (fm r hr x hx) (av _)) j
   have t2:∀j,Tp N (2^e) (y.getD j 0):=fun j=>jN (tN y hy) j
   have:=Tp.sum (k:=mv.length) (M:=N*M) (W:=V*M*2^e) (f:=fun j=>r.getD j 0*y.getD j 0) fun j _=>by
    have:=(t1 j).mul (t2 j);rwa [bU M N] at this
   refine this.mono ?_;rw[eW,cw V,<- cw mv.length];exact aE (ah (aA _ (by lia)) hV) (aA _ Ma)
 ·exact ah (aA _ (yG _ _)) (by rw[show e+a+c+4=e+a+c+4 from rfl];exact e89)
theorem sQ.fit {a c:Nat} (F:sQ mv pt a c) (D:mv.length<=8) (wm:∀xs∈mv,xs.length=mv.length) (wp:∀xs∈pt,xs.length=mv.length) (ht:t<=mv.length) (RR:cu (kry mv pt t) mv.length R ps):∀xs∈mv,∀r∈R,yg xs r:=fun xs hx r hr=>by
 obtain ⟨N,N0,N1,tN⟩:=F.tp D wm wp ht RR;obtain ⟨M,V,M0,Ma,hV,fm,fp,a3,c3,e14,e89⟩:=F;have V1:V<=2^c:=ah (cM _ (by lia)) hV;have p14:=aj (show 0 < 2 by decide) e14;exact ⟨400,40,1740,1740,⟨M,V,M0,ah Ma (aj (by decide) a3),ah V1 (aj (by decide) c3),fm xs hx⟩,⟨N,2^1740,N0,ah N1 p14,av _,fun x hx=>((tN r hr x hx).mono p14).fr N0⟩,by decide⟩
end
def GN (K:PySem.W.Frag) (C:Addr):Sp:=fun vs H Q _=>∃(x p:Addr) (H0 H1:Hp) (mv pt lk R:List (List Rat)),vs=[.ref x,.ref p]/\oH K H0 H C x mv pt lk/\jq mv pt lk/\bO K H1 H p R/\R.length<=100/\(∀r∈R,r.length=mv.length)/\(∀xs∈mv,∀r∈R,yg xs r) /\
 ∀r H',H r=none->aL H H'->bO K H H' r (R.map (rd mv))->Q (.ref r) H'
structure ug (mv pt:List (List Rat)) (Rs:List (List (List Rat))):Prop where
 ne:Rs≠[]
 rr:∀t R,Rs[t]?=some R->∃ps,cu (kry mv pt t) mv.length R ps
 up:∀t R R',Rs[t]?=some R->Rs[t+1]?=some R'->R.length < R'.length
def GrL (K:PySem.W.Frag) (H0 H:Hp) (l:Addr) (Rs:List (List (List Rat))):Prop:=∃us,H l=some (.lst us)/\Paired (fun R v=>∃q,v=V.ref q/\H0 q=none/\q≠l/\bO K H0 H q R) Rs us
def GV (K:PySem.W.Frag) (C:Addr):Sp:=fun vs H Q _=>∃(x:Addr) (a c st:Nat) (H0:Hp) (mv pt lk:List (List Rat)),vs=[.ref x,.int st]/\st<=1000/\oH K H0 H C x mv pt lk/\jq mv pt lk/\sQ mv pt a c /\
 ∀r Rs H',H r=none->aL H H'->GrL K H H' r Rs->ug mv pt Rs->Rs.length<=st+1->(∀R,Rs.getLast?=some R->∀s,(Rs.length - 1=st/\s=st\/Rs.length - 1 < st/\Rs.length - 1<=s)->∃ps,cu (kry mv pt s) mv.length R ps)->Q (.ref r) H'
section
variable {K:PySem.W.Frag} {H0 H1 H H':Hp} {p l:Addr} {rows mv pt R R':List (List Rat)} {Rs:List (List (List Rat))} {t:Nat}
theorem bO.weakN (h:bO K H0 H p rows) (hn:∀q,H0 q=none->H1 q=none):bO K H1 H p rows:=by obtain ⟨xs,g,r,n⟩:=h;exact ⟨xs,g,Paired.imp' (fun _ _ ⟨q,a,b,c⟩=>⟨q,a,hn q b,c⟩) r,n⟩
theorem bO.updL {ys:List V} {o:HO} (h:bO K H0 H p rows) (hl:H l=some (.lst ys)) (nl:H0 l≠none) (pl:p≠l):bO K H0 (upd H l o) p rows:=by obtain ⟨xs,g,r,n⟩:=h;exact ⟨xs,by rw[bu pl];exact g,Paired.imp' (fun _ _ z=>dq.updL z hl nl) r,n⟩
theorem Ni {n:Nat}:cu [] n [] []:=⟨rfl,(fun _ h=>by cases h),(fun _ _ _ h=>absurd h (gH _)),(fun _ h=>absurd h (gH _)),(fun _ h=>absurd h (gH _)),(fun _ h=>absurd h (gH _)),(fun _ h=>absurd h (gH _)),(fun _ h=>absurd h (gH _))⟩
theorem ug.len (h:ug mv pt Rs):∀(t:Nat) (R:List (List Rat)),Rs[t]?=some R->t<=R.length:=by
 intro t
 induction t with
 | zero=>intro R _;exact aY _
 | succ t ih =>
  intro R e;have ht:=(aH.mp e).1;have e0:=ag (show t < Rs.length by lia);have:=ih _ e0;have:=h.up t _ R e0 e
  lia
theorem ug.snoc {ps':List Nat} (h:ug mv pt (Rs++[R])) (h1:cu (kry mv pt (Rs.length+1)) mv.length R' ps') (h2:R.length < R'.length):ug mv pt ((Rs++[R])++[R']):=by
 have l1:(Rs++[R]).length=Rs.length+1:=by rw[aw];rfl
 refine ⟨by simp,fun t S e=>?_,fun t S S' e e'=>?_⟩
 ·rcases dh t (Rs.length+1) with z | z
  ·rw[bF (by lia)] at e;exact h.rr t S e
  ·have ht:=(aH.mp e).1;rw[aw,bI] at ht;have:t=Rs.length+1:=by lia
   subst this;rw[aW (by lia),l1,gQ] at e;cases e;exact ⟨ps',h1⟩
 ·have ht:=(aH.mp e').1;rw[aw,bI] at ht;rw[bF (by lia)] at e;rcases dh (t+1) (Rs.length+1) with z | z
  ·rw[bF (by lia)] at e';exact h.up t S S' e e'
  ·have:t=Rs.length:=by lia
   subst this;rw[aW (by lia),l1,gQ] at e';cases e';rw[aW (av _),gQ] at e;cases e;exact h2
end
def sE (k t i:Nat):Nat:=if i < k then i else if i=k then t else if i<=t then i - 1 else i
def Dp (k t i:Nat):Nat:=if i < k then i else if i=t then k else if i < t then i+1 else i
section
variable {k t m i j:Nat}
theorem v7 (h : k ≤ t) (ht : t < m) (hi : i < m) : sE k t i < m := by     unfold sE; split; · exact hi
                                                                          · split; · exact ht
                                                                            · split <;> lia
theorem O3 (h : k ≤ t) (ht : t < m) (hi : i < m) : Dp k t i < m := by     unfold Dp; split; · exact hi
                                                                          · split; · lia
                                                                            · split <;> lia
theorem O1 (h:k<=t):sE k t (Dp k t i)=i:=by
 by_cases h1:i < k
 ·rw[show Dp k t i=i by unfold Dp;rw[if_pos h1]];unfold sE;rw[if_pos h1]
 ·by_cases h2:i=t
  ·rw[show Dp k t i=k by unfold Dp;rw[if_neg h1,if_pos h2]];unfold sE;rw[if_neg (by lia),if_pos rfl,h2]
  ·by_cases h3:i < t
   ·rw[show Dp k t i=i+1 by unfold Dp;rw[if_neg h1,if_neg h2,if_pos h3]];unfold sE;rw[if_neg (by lia),if_neg (by lia),if_pos (by lia)];lia
   ·rw[show Dp k t i=i by unfold Dp;rw[if_neg h1,if_neg h2,if_neg h3]];unfold sE;rw[if_neg h1,if_neg (by lia),if_neg (by lia)]
theorem Mu (h:k<=t):Dp k t (sE k t i)=i:=by
 by_cases h1:i < k
 ·rw[show sE k t i=i by unfold sE;rw[if_pos h1]];unfold Dp;rw[if_pos h1]
 ·by_cases h2:i=k
  ·rw[show sE k t i=t by unfold sE;rw[if_neg h1,if_pos h2]];unfold Dp;rw[if_neg (by lia),if_pos rfl,h2]
  ·by_cases h3:i<=t
   ·rw[show sE k t i=i - 1 by unfold sE;rw[if_neg h1,if_neg h2,if_pos h3]];unfold Dp;rw[if_neg (by lia),if_neg (by lia),if_pos (by lia)];lia
   ·rw[show sE k t i=i by unfold sE;rw[if_neg h1,if_neg h2,if_neg h3]];unfold Dp;rw[if_neg h1,if_neg (by lia),if_neg (by lia)]
theorem sZ (hi:i < k):sE k t i=i:=by unfold sE;rw[if_pos hi]
theorem v8 (h:k<=t) (hi:k<=i):k<=sE k t i:=by
 unfold sE;rw[if_neg (by lia)]
 split
 ·exact h
 ·split <;> lia
variable {a l:Nat->Nat->Rat} {pm p:Nat->Nat} {d:Rat} {P:Nat}
theorem xv.rot (B:xv a m k pm p l d) (h:k<=t) (ht:t < m):xv a m k (fun i=>pm (sE k t i)) p (fun i=>l (sE k t i)) d where
 inj i j hi hj e:=by
  have:=B.inj _ _ (v7 h ht hi) (v7 h ht hj) e;rw[<- Mu (i:=i) h,this,Mu h]
 rng i hi:=B.rng _ (v7 h ht hi)
 km:=B.km
 d0:=B.d0
 det:=by rw[B.det,zM (f:=pm) (g:=fun i=>pm (sE k t i)) fun j hj=>by rw[sZ hj]]
 eqs i hi c:=by
  have e:=B.eqs (sE k t i) (v7 h ht hi) c;have e1:bQ k (fun j=>a (pm (sE k t i)) (p j)*l (sE k t j) c)=bQ k (fun j=>a (pm (sE k t i)) (p j)*l j c):=br fun j hj=>by rw[sZ hj]
  rw[e1];by_cases hk:i < k
  ·rw[sZ hk] at e ⊢;exact e
  ·rw[if_neg hk];rw[if_neg (by have:=v8 h (show k<=i by lia);lia)] at e;exact e
 unit i hi j hj:=by
  rw[B.unit _ (v7 h ht hi) j hj];by_cases hk:i < k
  ·rw[sZ hk]
  ·have:=v8 h (show k<=i by lia);rw[if_neg (by lia),if_neg (by lia)]
theorem lA.rot (E:lA a m k P p l d) (h:k<=t) (ht:t < m):lA a m k P p (fun i=>l (sE k t i)) d where
 km:=E.km
 d0:=E.d0
 unit i hi j hj:=by
  rw[E.unit _ (v7 h ht hi) j hj];by_cases hk:i < k
  ·rw[sZ hk]
  ·have:=v8 h (show k<=i by lia);rw[if_neg (by lia),if_neg (by lia)]
 inc:=E.inc
 low:=E.low
 zero i h1 h2 c hc:=E.zero _ (v8 h h1) (v7 h ht h2) c hc
 lead j hj c hc:=by rw[sZ hj];exact E.lead j hj c hc
 there i hi:=eU.trans (fun s hs=>eU.congr (fun c=>by rw[O1 h]) (eU.row (a:=fun i=>l (sE k t i)) (i:=Dp k t s) (O3 h ht hs))) (E.there i hi)
 back i hi:=E.back _ (v7 h ht hi)
end
section
variable {rows fs ls:List (List Rat)} {n P w a:Nat} {ps:List Nat}
theorem KQ {k i:Nat}:ky k k i=i:=by unfold ky;split <;> (try split) <;> lia
theorem BE.rot (h:BE rows n P (fs++ls) ps) (hf:fs.length=ps.length) {t:Nat} (ht:t < ls.length):BE rows n P (fs++ls.getD t [] :: ls.eraseIdx t) ps:=by
 obtain ⟨len,wide,pm,l,d,B,E,v⟩:=h;rw[aw] at len;have h1:ps.length<=ps.length+t:=by lia
 have h2:ps.length+t < rows.length:=by lia
 have ef:∀i,i < rows.length->∀c,cv (fs++ls.getD t [] :: ls.eraseIdx t) i c=cv (fs++ls) (sE ps.length (ps.length+t) i) c:=fun i hi c=>by
  by_cases z:i < ps.length
  ·rw[sZ z,CO (by lia),CO (by lia)]
  ·obtain ⟨j,rfl⟩:∃j,i=fs.length+j:=⟨i - fs.length,by lia⟩;rw[yQ];cases j with
   | zero =>
    rw[show sE ps.length (ps.length+t) (fs.length+0)=fs.length+t by unfold sE;rw[if_neg (by lia),if_pos (by lia)];lia,yQ];rfl
   | succ j =>
    by_cases y:j < t
    ·rw[show sE ps.length (ps.length+t) (fs.length+(j+1))=fs.length+j by unfold sE;rw[if_neg (by lia),if_neg (by lia),if_pos (by lia)];lia,yQ];show cv (ls.eraseIdx t) j c=_
     unfold cv;rw[aa (l:=ls.eraseIdx t),List.getElem?_eraseIdx_of_lt y,<- aa]
    ·rw[show sE ps.length (ps.length+t) (fs.length+(j+1))=fs.length+(j+1) by unfold sE;rw[if_neg (by lia),if_neg (by lia),if_neg (by lia)],yQ];show cv (ls.eraseIdx t) j c=_
     unfold cv;rw[aa (l:=ls.eraseIdx t),List.getElem?_eraseIdx_of_ge (by lia),<- aa]
 refine ⟨?_,fun xs hx=>?_,fun i=>pm (sE ps.length (ps.length+t) i),fun i=>l (sE ps.length (ps.length+t) i),d,B.rot h1 h2,E.rot h1 h2,fun i hi c=>?_⟩
 ·rw[aw,ba,List.length_eraseIdx_of_lt ht];lia
 ·rcases ax.mp hx with hx | hx
  ·exact wide xs (ax.mpr (.inl hx))
  ·rcases aG.mp hx with rfl | hx
   ·exact wide _ (ax.mpr (.inr (getD_in ht)))
   ·exact wide xs (ax.mpr (.inr (List.mem_of_mem_eraseIdx hx)))
 ·rw[ef i hi c,v _ (v7 h1 h2 hi) c];by_cases z:i < ps.length
  ·dsimp only
   rw[sZ z]
  ·rw[if_neg z,if_neg (by have:=v8 h1 (show ps.length<=i by lia);lia)]
def xu (P:Nat) (h:List Rat):List Rat:=h.map fun y=>1 / h.getD P 0*y
def Bg (P:Nat) (u r:List Rat):List Rat:=List.zipWith (fun x y=>x - y) r (u.map fun y=>r.getD P 0*y)
theorem BE.lean (h:BE rows n P (fs++ls) ps) (hf:fs.length=ps.length) {t:Nat} (ht:t < ls.length) (hP:P < n) (hne:(ls.getD t []).getD P 0≠0):BE rows n (P+1) ((fs.map (Bg P (xu P (ls.getD t [])) )++[xu P (ls.getD t [])])++(ls.eraseIdx t).map (Bg P (xu P (ls.getD t [])))) (ps++[P]):=by
 have R:=h.rot hf ht;have len:=R.len;have wide:=R.wide;generalize ls.getD t []=hd at *
 generalize ls.eraseIdx t=l2 at *
 rw[aw,ba] at len;have whd:hd.length=n:=wide _ (ax.mpr (.inr (.head _)));have wu:(xu P hd).length=n:=by unfold xu;rw[ao];exact whd
 have ek:cv (fs++hd :: l2) ps.length=fun c=>hd.getD c 0:=by
  have:=yQ (X:=fs) (Y:=hd :: l2) (i:=0);rw[show fs.length+0=ps.length by lia] at this;rw[this];rfl
 have wl:∀r,r.length=n->(Bg P (xu P hd) r).length=n:=fun r hr=>by unfold Bg;rw[ck,ao,wu,hr];lia
 have vl:∀r,r.length=n->∀c,(Bg P (xu P hd) r).getD c 0=r.getD c 0 - r.getD P 0*(1 / hd.getD P 0*hd.getD c 0):=fun r hr c=>by
  unfold Bg;rw[Ob (by rw[ao,wu,hr]),JZ];unfold xu;rw[JZ]
 refine R.step (t:=ps.length) (av _) (by rw[aw,ba];lia) (by rw[ek];exact hne) ?_ ?_ fun i hi c=>?_
 ·rw[aw,aw,ao,ao,bI];lia
 ·intro xs hx;rcases ax.mp hx with hx | hx
  ·rcases ax.mp hx with hx | hx
   ·obtain ⟨r,hr,rfl⟩:=aD.mp hx;exact wl r (wide r (ax.mpr (.inl hr)))
   ·rw[bW.mp hx];exact wu
  ·obtain ⟨r,hr,rfl⟩:=aD.mp hx;exact wl r (wide r (ax.mpr (.inr (.tail _ hr))))
 ·rw[KQ,ek]
  dsimp only
  have lf:(fs.map (Bg P (xu P hd))).length=ps.length:=by rw[ao];exact hf
  have key:∀{X:List (List Rat)} {s:Nat} (hs:s < X.length) (_:∀r∈X,r.length=n),cv (X.map (Bg P (xu P hd))) s c=cv X s c - cv X s P*(1 / hd.getD P 0*hd.getD c 0):=fun {X s} hs hX=>by
   unfold cv;have e1:(X.map (Bg P (xu P hd))).getD s []=Bg P (xu P hd) X[s]:=by rw[aa,aN,ag hs];rfl
   have e2:X.getD s []=X[s]:=by rw[aa,ag hs];rfl
   rw[e1,e2];exact vl _ (hX _ (aT hs)) c
  rcases kx i ps.length with z | z | z
  ·rw[if_neg (by lia),cb,CO (by lia),CO (by lia),key (by lia) fun r hr=>wide r (ax.mpr (.inl hr))]
  ·rw[if_pos z,cb,show i=(fs.map (Bg P (xu P hd))).length+0 by lia,yQ];show (xu P hd).getD c 0=_
   unfold xu;rw[JZ]
  ·rw[if_neg (by lia)];obtain ⟨j,rfl⟩:∃j,i=ps.length+1+j:=⟨i - ps.length - 1,by lia⟩
   have e1:cv (fs++hd :: l2) (ps.length+1+j)=cv l2 j:=by
    have:=yQ (X:=fs) (Y:=hd :: l2) (i:=j+1);rw[show fs.length+(j+1)=ps.length+1+j by lia] at this;rw[this];rfl
   have e2:cv ((fs.map (Bg P (xu P hd))++[xu P hd])++l2.map (Bg P (xu P hd))) (ps.length+1+j)=cv (l2.map (Bg P (xu P hd))) j:=by
    have:=yQ (X:=fs.map (Bg P (xu P hd))++[xu P hd]) (Y:=l2.map (Bg P (xu P hd))) (i:=j);rw[aw,lf,bI] at this;exact this
   rw[e1,e2,key (by lia) fun r hr=>wide r (ax.mpr (.inr (.tail _ hr)))]
end
theorem Bc {α:Type} {v:α}:∀{l:List α},l.Nodup->v∉l->∀j,(l.set j v).Nodup
 | [],_,_,_=>BH
 | a :: l,h,hn,0=>by
  rw[eE] at h;rw[List.set_cons_zero,eE];exact ⟨fun z=>hn (.tail _ z),h.2⟩
 | a :: l,h,hn,j+1=>by
  rw[eE] at h;rw[List.set_cons_succ,eE];refine ⟨fun z=>?_,Bc h.2 (fun z=>hn (.tail _ z)) j⟩;rcases cx z with z | z
  ·exact h.1 z
  ·exact hn (by rw[z];exact .head _)
structure ks (K:PySem.W.Frag) (A:Addr->Prop) (H:Hp) (n:Nat) (C:V->Rat->Prop) (m p l b q0:Addr) (us ws vs:List V):Prop where
 bag:ig H b
 inn:Inner H b q0
 gm:H m=some (.lst us)
 gp:H p=some (.lst ws)
 gl:H l=some (.lst vs)
 lm:us.length=n
 row:∀x∈us++vs++ws,fN K A H n (C x) x
 nd:(us++vs++ws).Nodup
section
variable {K:PySem.W.Frag} {A:Addr->Prop} {H H':Hp} {n:Nat} {C C':V->Rat->Prop} {m p l b q0 q:Addr} {us ws vs zs:List V} {y:Rat} {v:V}
theorem ks.same (h:ks K A H n C m p l b q0 us ws vs) (e:aL H H'):ks K A H' n C m p l b q0 us ws vs :=
 ⟨h.bag.same e,(e.upto (p:=b)).2 _ h.inn,e _ _ h.gm,e _ _ h.gp,e _ _ h.gl,h.lm,fun x hx=>(h.row x hx).same e,h.nd⟩
theorem ks.upto (h:ks K A H n C m p l b q0 us ws vs) (M:D3 A m p l b q0) (u:cV b H H') (B':ig H' b):ks K A H' n C m p l b q0 us ws vs :=
 ⟨B',u.2 _ h.inn,u.other M.mb h.gm,u.other M.pb h.gp,u.other M.lb h.gl,h.lm,fun x hx=>(h.row x hx).upto u h.bag M.ab,h.nd⟩
theorem ks.weak (h:ks K A H n C m p l b q0 us ws vs) (w:∀x∈us++vs++ws,∀y,C x y->C' x y):ks K A H n C' m p l b q0 us ws vs :=
 ⟨h.bag,h.inn,h.gm,h.gp,h.gl,h.lm,fun x hx=>(h.row x hx).weak (fun _ z=>z) (w x hx),h.nd⟩
theorem ks.put (h:ks K A H n C m p l b q0 us ws vs) (M:D3 A m p l b q0) (aq:A q) (hq:H q=some (.lst zs)) (hv:cB K H y v) (hc:C (.ref q) y) (j:Nat):ks K A (upd H q (.lst (zs.set j v))) n C m p l b q0 us ws vs:=by
 have ne:∀{z},¬A z->z≠q:=fun h e=>h (by rw[e];exact aq)
 refine ⟨h.bag.upd h.inn (ne M.ab).symm (ne M.aq).symm,h.inn.upd (ne M.ab).symm,by rw[bu (ne M.am)];exact h.gm,by rw[bu (ne M.ap)];exact h.gp,by rw[bu (ne M.al)];exact h.gl,h.lm,fun x hx=>?_,h.nd⟩;by_cases e:x=.ref q
 ·subst e;exact (h.row _ hx).put hq hv hc j
 ·obtain ⟨q1,qs,rfl,a1,r1,l1,c1⟩:=h.row x hx;exact ⟨q1,qs,rfl,a1,r1.updL hq (fun z=>e (by rw[z])),l1,c1⟩
theorem ks.set (h:ks K A H n C m p l b q0 us ws vs) (M:D3 A m p l b q0) (hx:fN K A H n (C v) v) (hn:v∉us++vs++ws) (j:Nat):ks K A (upd H m (.lst (us.set j v))) n C m p l b q0 (us.set j v) ws vs:=by
 have mem:∀x∈us.set j v++vs++ws,x=v\/x∈us++vs++ws:=fun x hx=>by
  rcases ax.mp hx with hx | hx
  ·rcases ax.mp hx with hx | hx
   ·rcases cx hx with hx | hx
    ·exact .inr (by simp [hx])
    ·exact .inl hx
   ·exact .inr (by simp [hx])
  ·exact .inr (by simp [hx])
 refine ⟨h.bag.upd h.inn M.mb M.mq,h.inn.upd M.mb,aK,by rw[bu M.mp.symm];exact h.gp,by rw[bu M.ml.symm];exact h.gl,by rw[eF];exact h.lm,fun x hx'=>?_,?_⟩
 ·rcases mem x hx' with rfl | hx'
  ·exact hx.other h.gm M.am
  ·exact (h.row x hx').other h.gm M.am
 ·have nd:=h.nd;rw[cb] at nd hn ⊢;obtain ⟨n1,n2,n3⟩:=du.mp nd;refine du.mpr ⟨?_,n2,fun a ha c hc=>?_⟩
  ·rcases dh j us.length with z | z
   ·exact Bc n1 (fun z'=>hn (ax.mpr (.inl z'))) j
   ·rw[List.set_eq_of_length_le z];exact n1
  ·rcases cx ha with ha | rfl
   ·exact n3 a ha c hc
   ·exact fun z=>hn (ax.mpr (.inr (by rw[z];exact hc)))
end
theorem FR {M W:Nat} {x:Rat} (h0:0 < M) (h1:M<=2^800) (hW:W<=2^140) (h:Fr M W x):uf x :=
 EY h0 (ah h1 (aj (by decide) (by decide))) (ah hW (aj (by decide) (by decide))) h
theorem LH {t V c:Nat} (ht:t<=3) (hV:V<=2^20) (hc:c<=9):c*(9^t*V)<=2^140:=by
 have h1:9^t<=9^3:=aj (by decide) ht;have h2:c*(9^t*V)<=9*(9^3*2^20):=aE hc (aE h1 hV);exact ah h2 (ah (show 9*(9^3*2^20)<=2^40 by decide) (aj (by decide) (by decide)))
theorem z8 {α:Type} {l:List α} {v:α} (h:l.Nodup) (hn:v∉l):(l++[v]).Nodup:=du.mpr ⟨h,by simp,fun a ha c hc=>by rw[bW.mp hc];exact fun z=>hn (by rw[<- z];exact ha)⟩
section
variable {K:PySem.W.Frag} {a:Addr} {xs:List V} {g:TG} {tf:TT} {te:TE} {Q:VK} {σ₀:St} {H:Hp} {α β:Type}
theorem Br {n:Nat} {b:Addr} (G:Hp->β->V->Prop) (C:β->Prop) (hB:ig H b) (hl:n<=1000) (hG:∀{H' H'' c x},G H' c x->cV b H' H''->ig H' b->G H'' c x)
  (hA:∀{H' c x},G H' c x->∃q,x=V.ref q/\H' q≠none)
  (hs:∀(i:Nat) H' NY NN,i < n->cV b H H'->ig H' b->(∀y c H2,cV b H' H2->ig H2 b->C c->G H2 c y->(∃q,y=V.ref q/\H' q=none)->NY y H2)->sU σ₀ g tf te (.int i) H' NY NN)
  (hd:∀ys cs H' p,H p=none->cV b H H'->ig H' b->H' p=some (.lst ys)->cs.length=n->ys.Nodup->(∀c∈cs,C c)->Paired (G H') cs ys->(∃H2,H2 p=none/\Paired (G H2) cs ys)->Q (.ref p) H'):uw (D4 0 n) σ₀ g tf te Q H:=by
 refine rJ (fun i ys H'=>cV b H H'/\ig H' b/\∃cs,cs.length=i/\ys.Nodup/\(∀c∈cs,C c)/\Paired (G H') cs ys) (bp (bK (by lia))) ⟨(aL.refl _).upto,hB,[],rfl,BH,(fun _ z=>nomatch z),.nil⟩ ?_ ?_
 ·rintro i ys H' hi hlen ⟨u,B,cs,lc,nd,hc,pr⟩;rw[zm];refine hs i H' _ _ hi u B fun y c H2 u2 B2 cc gy ⟨q,ey,nq⟩=>⟨u.trans u2,B2,cs++[c],by simp [lc],z8 nd (fun z=>by obtain ⟨c',_,gc⟩:=dF pr z;obtain ⟨q',e',h'⟩:=hA gc;rw[ey] at e';cases e';exact h' nq),CN hc cc,b6 (Paired.imp' (fun _ _ z=>hG z u2 B) pr) (.cons gy .nil)⟩
 ·rintro ys H' hy ⟨u,B,cs,lc,nd,hc,pr⟩ p hp;have s:aL H' (upd H' p (.lst ys)):=aL.new hp;exact hd ys cs _ p (u.none B hp) (u.same s) (B.same s) aK lc nd hc (Paired.imp' (fun _ _ z=>hG z s.upto B) pr) ⟨H',hp,pr⟩
end
structure Fb (K:PySem.W.Frag) (A:Addr->Prop) (n:Nat) (C:Rat->Prop) (m p l b q0:Addr) (us ws vs:List V) (H0 H:Hp):Prop where
 mix:ks K A H n (fun _=>C) m p l b q0 us ws vs
 gp:H p=some (.lst ws)
 gl:H l=some (.lst vs)
 kp:iU A b m H0 H
section
variable {K:PySem.W.Frag} {A:Addr->Prop} {n:Nat} {C:Rat->Prop} {m p l b q0 q:Addr} {us ws vs:List V} {H0 H H':Hp} {y:Rat} {v:V}
theorem Fb.same (h:Fb K A n C m p l b q0 us ws vs H0 H) (e:aL H H'):Fb K A n C m p l b q0 us ws vs H0 H':=⟨h.mix.same e,e _ _ h.gp,e _ _ h.gl,h.kp.same e⟩
theorem Fb.upto (h:Fb K A n C m p l b q0 us ws vs H0 H) (M:D3 A m p l b q0) (u:cV b H H') (B:ig H' b):Fb K A n C m p l b q0 us ws vs H0 H':=⟨h.mix.upto M u B,u.other M.pb h.gp,u.other M.lb h.gl,h.kp.upto u⟩
theorem Fb.row (h:Fb K A n C m p l b q0 us ws vs H0 H) {x:V} (hx:x∈ws\/x∈vs):fN K A H n C x:=h.mix.row x (by rcases hx with hx | hx <;> simp [hx])
theorem Fb.put (h:Fb K A n C m p l b q0 us ws vs H0 H) (M:D3 A m p l b q0) (hx:V.ref q∈ws\/V.ref q∈vs) (hv:cB K H y v) (hc:C y) (j:Nat):∃zs,H q=some (.lst zs)/\zs.length=n/\Fb K A n C m p l b q0 us ws vs H0 (upd H q (.lst (zs.set j v))):=by
 obtain ⟨q',zs,qs,e,a,g,lz,_⟩:=(h.row hx).at;cases e;have ne:∀{z},¬A z->z≠q:=fun h e=>h (by rw[e];exact a)
 exact ⟨zs,g,lz,h.mix.put M a g hv hc j,by rw[bu (ne M.ap)];exact h.gp,by rw[bu (ne M.al)];exact h.gl,h.kp.upd (.inl a)⟩
end
def IS (K:PySem.W.Frag):Sp:=fun vs H Q _=>∃(b:Addr) (n w:Nat) (way first:Int),vs=[.ref b,.int n,.int way,.int first,.int w]/\ig H b/\n<=8/\1<=w/\w<=1000000 /\
 ∀r us H',H r=none->H' r=some (.lst us)->us.length=n->us.Nodup->(∀x∈us,fN K (fun q=>H q=none/\q≠r) H' n (Dr (max w 6)) x)->ig H' b->cV b H H'->Q (.ref r) H'
def PtF (n i o w c:Nat) (mv pt lk:List (List Rat)):Prop:=∃M V1:Nat,0 < M/\GF M V1 mv/\GF M V1 pt/\GF M V1 lk/\((w<=9/\M=2520/\V1=9^3*9)\/(9 < w/\M<=2^(c*((n+i+o)*n))/\V1=9^3*2^c))
theorem Cr {mv pt:List (List Rat)} {M V1 a c n0:Nat} (M0:0 < M) (hM:M<=2^a) (hn:mv.length<=n0) (hV:(n0+1)*V1<=2^c) (fm:GF M V1 mv) (fp:GF M V1 pt) (h4:a<=400/\c<=40/\n0*(n0*(a+c)+4)<=1740/\n0*(n0*(n0*(a+c)+4)+a+c+4)<=8900):sQ mv pt a c:=by
 obtain ⟨h1,h2,h3,h5⟩:=h4;have e1:mv.length*(a+c)<=n0*(a+c):=aA _ hn;have e2:mv.length*(mv.length*(a+c)+4)<=n0*(n0*(a+c)+4):=aE hn (by lia);have e3:mv.length*(mv.length*(mv.length*(a+c)+4)+a+c+4)<=n0*(n0*(n0*(a+c)+4)+a+c+4):=aE hn (by lia);exact ⟨M,V1,M0,hM,ah (aA _ (by lia)) hV,fm,fp,h1,h2,by lia,by lia⟩
def KS (K:PySem.W.Frag):Sp:=fun vs H Q _=>∃b:Addr,vs=[.ref b]/\ig H b /\
 ∀r mv pt lk H',ko K H H' r mv pt lk->6<=mv.length->jq mv pt lk->GF 1 (9^3) mv->GF 1 (9^3) pt->GF 1 (9^3) lk->ig H' b->cV b H H'->Q (.ref r) H'
theorem CB {rs:List Nat} {v v':Nat->ic}:∀{k:Nat} (pre:List ic),(∀j,j < k->∀r∈rs,v j r=v' j r)->jI rs (pre++iX v k)=jI rs (pre++iX v' k)
 | 0,_,_=>rfl
 | k+1,pre,h=>by
  show jI rs (pre++v k :: iX v k)=jI rs (pre++v' k :: iX v' k)
  rw[Ke (h k (by lia))];have:=CB (k:=k) (pre++[v' k]) fun j hj=>h j (by lia)
  simpa using this
theorem cw_map {τ:ic->ic} {v:Nat->ic}:∀{k:Nat},(iX v k).map τ=iX (fun j=>τ (v j)) k
 | 0=>rfl
 | k+1=>by show τ (v k) :: _=_;rw[cw_map];rfl
theorem Kd {N : Nat} {W : Nat → Nat} : ∀ {rs : List Nat} {vs : List ic}, vs.length ≤ N → (∀ v ∈ vs, ∀ r ∈ rs, Fr 1 (W r) (v r)) → Fr 1 ((rs.map fun r => N * W r).foldr (· * ·) 1) (jI rs vs)
  | [], [], _, _ => by show Fr 1 1 1; exact (Fr.int (i := 1) (by decide))
  | [], _ :: _, _, _ => by show Fr 1 _ 0; exact Fr.zero
  | r :: rs, vs, hl, h => by
    have := JI (F := fun ws => jI rs ws) (r := r) (B := (rs.map fun r => N * W r).foldr (· * ·) 1) (W := W r) (post := vs) (pre := []) (s := 1) (fun ws h1 h2 => Kd (by rw [cW] at h2; lia) fun v hv r' hr' => h v (by simpa using h1 v hv) r' (.tail _ hr')) (fun w hw => h w hw r (.head _)) (Fr.int (i := 1) (by decide));refine this.mono ?_;show _ ≤ N * W r * _
    rw [cw N];exact aA _ hl
section
variable {rows fs ls:List (List Rat)} {n r M W Wv Wb k P:Nat} {Pm Y Z B E a:Nat->Nat->Rat} {d:Rat} {ps:List Nat} {rs:List (List Rat)}
def Qs (rows:List (List Rat)) (n S:Nat):Prop:=2*S<=3990/\∃J:Nat->List (List Rat)->List Nat->Prop,J 0 rows []/\(∀P rs ps,J P rs ps->(∀i,ps.length<=i->i < rs.length->cv rs i P=0)->J (P+1) rs ps) /\
 (∀P fs ls ps t,J P (fs++ls) ps->fs.length=ps.length->t < ls.length->P < n->(ls.getD t []).getD P 0≠0->J (P+1) ((fs.map (Bg P (xu P (ls.getD t [])) )++[xu P (ls.getD t [])])++(ls.eraseIdx t).map (Bg P (xu P (ls.getD t [])))) (ps++[P])) /\
 (∀P rs ps,J P rs ps->BE rows n P rs ps)/\∀P rs ps,J P rs ps->P<=n->∀i,i < rows.length->∃D:Nat,0 < D/\D<=2^S/\∀c,Tp D (2^S) (cv rs i c)
theorem MP.lws {w a:Nat} (F:MP rows n w a) (hw:∀xs∈rows,xs.length=n):Qs rows n (min rows.length n*(w+4)+a):=by
 obtain ⟨_,_,_,_,_,_,_,_,e⟩:=id F;refine ⟨e,BE rows n,BE.start hw,fun _ _ _ h z=>h.skip z,fun _ _ _ _ _ h hf ht hP hne=>h.lean hf ht hP hne,fun _ _ _ h=>h,fun P rs ps h hP i hi=>?_⟩;obtain ⟨D,D0,D1,D2⟩:=h.sz F hP hi;exact ⟨D,D0,D1,fun c=>(D2 c).mono (aj (by decide) (by lia))⟩
end
section
variable {rows R R1 R2 mv pt:List (List Rat)} {n r M V1 W W' Wv Wb k P:Nat} {Pm Y Z B E a:Nat->Nat->Rat} {d:Rat} {ps ps1 ps2:List Nat} {rs:List (List Rat)}
theorem MW (h0:0 < M) (h3:∀xs∈rows,∀x∈xs,Tp M W x):∀i,i < rows.length->∀c,Fr 1 W (d6 (rows.map hZ) i c):=fun i hi c=>by
 have hx:=getD_in (e:=[]) hi;rw[zu hi];unfold cv;generalize rows.getD i []=xs at hx ⊢;by_cases hc:c < xs.length
 ·have t:=h3 xs hx _ (getD_in (e:=0) hc);obtain ⟨s,e,b⟩:=zw t h0 (qM (xs:=xs)) (qN (aD.mpr ⟨_,getD_in (e:=0) hc,rfl⟩)) (za h0 (h3 xs hx));rw[dC,e];exact Fr.int b
 ·rw[aa,aS (by lia)];show Fr 1 W (_*0)
  rw[ji];exact Fr.zero
theorem J6 {V:Nat} {f:Nat->Rat}:∀{k:Nat},(∀j,j < k->Fr 1 V (f j))->Fr 1 (k*V) (bQ k f)
 | 0,_=>Fr.zero
 | k+1,h=>by
  rw[dr];exact (J6 fun j hj=>h j (by lia)).add (h k (by lia))
theorem xD {f:Nat->Rat} {a:Nat}:∀{b:Nat},bQ (a+b) f=bQ a f+bQ b fun t=>f (a+t)
 | 0=>by show bQ a f=bQ a f+0;grind
 | b+1=>by
  show bQ (a+b) f+f (a+b)=_+(bQ b _+f (a+b))
  rw[xD];grind
end
section
variable {rows R R1 R2 mv pt:List (List Rat)} {n t t2 a c:Nat} {ps ps1 ps2:List Nat}
theorem FT {M W:Nat} (h:∀i,i < rows.length->∀c,Tp M W (cv rows i c)):∀xs∈rows,∀x∈xs,Tp M W x:=fun xs hx x hx'=>by
 obtain ⟨i,hi,rfl⟩:=cz hx;obtain ⟨c,hc,rfl⟩:=cz hx';have:=h i hi c;unfold cv at this;rw[aa (l:=rows),ag hi] at this;have e:(some rows[i]).getD []=rows[i]:=rfl;rw[e,aa,ag hc] at this;exact this
end
theorem Jd:typeLookup (.type "list_reverseiterator") "__len__"=pure none:=by
 rw[typeLookup_type,builtinLookup_eq_fast]
 kernel_rfl
theorem Lb:typeLookup (.type "list_reverseiterator") "__length_hint__"=pure (some (.builtin "list_reverseiterator.__length_hint__")):=by
 rw[typeLookup_type,builtinLookup_eq_fast]
 kernel_rfl
section
variable {prog:Program} {w:World} {A:Around} {E:Value->Shared->Prop} {s:Shared}
theorem K9 {it l:Addr} {i:Int} {Q:Bool->Shared->Prop} (hit:s.heap.IsRevIter it l i) (q:Q false s):wpAny (model prog w) A (Builtin.List.listLengthHint (.ref it)) Q E s:=by
 unfold Builtin.List.listLengthHint;refine wpAny_bind (wpAny_specialOf hit.typeIs Jd ?_);show wpAny _ A (specialOf (Value.ref it) (Str.ofString "__length_hint__") >>= _) Q E s
 refine wpAny_bind (wpAny_specialOf hit.typeIs Lb ?_);generalize hid:("list_reverseiterator.__length_hint__":String)=id0
 dsimp only
 rw[show splitId id0=some ("list_reverseiterator","__length_hint__") from by subst hid;decide +kernel];subst hid;refine wpAny_bind (wpAny_isInstance (T:="list_reverseiterator") (b:=true) hit.typeIs (by rw[isSubtype_type];kernel_rfl) ?_);refine wpAny_ite_split (fun z=>absurd z (by decide)) (fun _=>?_);refine wpAny_ite_split (fun _=>?_) (fun z=>absurd (by decide +kernel) z);exact wpAny_ite_split (fun z=>absurd z (by decide +kernel)) (fun _=>wpAny_pure q)
theorem Lc {R:Result->Shared->Prop} {I l S:Addr} {items:Array Value} {res:Value} {c0:Nat} (hh:A.handled=none) (hit:s.heap.IsRevIter I l ((items.size:Int) - 1)) (hl:s.heap.IsList l items) (nI:l≠I) (nS:S≠I) (nL:S≠l) (hn:items.size<=sizeLine) (hS:s.heap.get? S=some { cls:=.type "list",data:=.seq #[] c0 })
  (hR:∀h' tk acc c,(∀b o,b≠S->b≠I->s.heap.get? b=some o->h'.get? b=some o)->h'.get? S=some { cls:=.type "list",data:=.seq acc c }->ItemsOf (fun i v=>items[items.size - 1 - i]?=some v) acc items.size->R (.ok (.ret res)) { s with heap:=h',toks:=tk }) :
  wpAny (model prog w) A.in1 (Builtin.List.listExtendWith (.ref S) (.ref I) res) (fun fin s2=>match fin with | .done f=>R (.ok f) s2 | .again c=>c.quiet=true/\codeAny (model prog w) A c R s2) (fun e s2=>R (.error e) s2) s:=by
 have W:=(Walks.listRev (prog:=prog) (w:=w) (A:=A.in1) hh I l nI items).toS;unfold Builtin.List.listExtendWith;refine wpAny_bind (wpAny_typeOf hit.typeIs ?_);rw[if_neg (by simp [Builtin.List.listSameRef,nS])];refine wpAny_bind (wpAny_pyIter_revIter hit ?_);refine wpAny_bind (wpAny_holding (K9 hit ?_));refine wpAny_ite_split (fun z=>absurd z (by decide +kernel)) (fun _=>?_);have h0:s.heap.IsRevIter I l ((items.size:Int) - 1 - ((0:Nat):Int)):=by simpa using hit
 refine wpAny_pure ⟨plainId_quiet F.plain_extend_loop _,codeAny_extend_loopS W hn S (by simp [nS,nL]) res items.size 0 s #[] c0 rfl (aY _) ⟨aY _,h0,hl⟩ hS (ItemsOf.nil _) fun s2 acc c hm h2 hi=>?_⟩;rw[Moved.eq_with hm];exact hR s2.heap s2.toks acc c (fun b o n1 n2 e=>hm.heap b o (by simp [n1,n2]) e) h2 hi
theorem La {Q : Value → Shared → Prop} {I l : Addr} {items : Array Value} (hh : A.handled = none) (hit : s.heap.IsRevIter I l ((items.size : Int) - 1)) (hl : s.heap.IsList l items) (nI : l ≠ I) (hn : items.size ≤ sizeLine)
    (hQ : ∀ h' tk acc c, (∀ b o, b ≠ I → s.heap.get? b = some o → h'.get? b = some o) → h'.get? s.heap.objs.size = some { cls := .type "list", data := .seq acc c } → ItemsOf (fun i v => items[items.size - 1 - i]? = some v) acc items.size → Q (.ref s.heap.objs.size) { s with heap := h', toks := tk }) :
    wpAny (model prog w) A (call (.type "list") [.ref I]) Q E s := by
  refine callType_codes (Q₁ := fun x s2 => x = .ref s.heap.objs.size /\ s2 = { s with heap := s.heap.push { cls := .type "list", data := .seq #[] } }) F.called_list (F.typeCall_list_1 _) F.entry_list_init (code_list_new _ ⟨rfl, rfl⟩) fun x s2 hx => ?_
  obtain ⟨rfl, rfl⟩ := hx;have up : ∀ b o, s.heap.get? b = some o → (s.heap.push { cls := .type "list", data := .seq #[] }).get? b = some o := fun b o e => Heap.get?_push_of_some _ e
  have hS : (s.heap.push { cls := .type "list", data := .seq #[] }).get? s.heap.objs.size = some { cls := .type "list", data := .seq #[] } := Heap.get?_push_size _ rfl
  have lI : I ≠ s.heap.objs.size := by
    obtain ⟨o, ho, _⟩ := hit;exact b7 (Heap.lt_size ho)
  have lL : l ≠ s.heap.objs.size := by
    obtain ⟨o, ho, _⟩ := hl;exact b7 (Heap.lt_size ho)
  refine ⟨⟨_, hS, rfl⟩, F.args_list_init_2 _ _, ?_⟩;show wpAny _ A.in1.in1 (do let old <- Builtin.List.listItems (.ref s.heap.objs.size); Builtin.List.listUpdate (.ref s.heap.objs.size) (fun _ => #[]); letGo old.toList.reverse; Builtin.List.listExtendWith (.ref s.heap.objs.size) (.ref I) .none) _ _ _
  refine wpAny_bind ?_;unfold Builtin.List.listItems;refine wpAny_bind (wpAny_seqItems hS rfl (wpAny_pure ?_));refine wpAny_bind (m := Builtin.List.listUpdate (.ref s.heap.objs.size) (fun _ => #[])) (wpAny_updateSeq hS rfl ?_);have h3 := Heap.get?_update_self (Obj.mapSeq (fun _ => (#[] : Array Value))) hS rfl;have o3 : ∀ b o, b ≠ s.heap.objs.size → (s.heap.push { cls := .type "list", data := .seq #[] }).get? b = some o → ((s.heap.push { cls := .type "list", data := .seq #[] }).update s.heap.objs.size (Obj.mapSeq (fun _ => (#[] : Array Value)))).get? b = some o := fun b o nb e => (Heap.get?_update_other _ _ (Ne.symm nb)).trans e
  refine wpAny_bind (wpAny_letGo ?_);refine Lc (A := A.in1) hh (hit.at fun o e => o3 _ _ lI (up _ _ e)) (hl.at fun o e => o3 _ _ lL (up _ _ e)) nI lI.symm lL.symm hn h3 fun h' tk acc c hk h2 hi => ?_
  exact ⟨rfl, hQ h' tk acc c (fun b o nb e => hk b o (b7 (Heap.lt_size e)) nb (o3 _ _ (b7 (Heap.lt_size e)) (up _ _ e))) h2 hi⟩
end
section
variable {X:Cx}
def zy (K:PySem.W.Frag) (ta:TA):TE:=fun σ H Q=>ta σ H fun vs H1=>∃l xs,vs=[.ref l]/\bV K H1 l xs/\xs.length<=1000/\∀L H',aL H1 H'->H1 L=none->H' L=some (.lst xs.reverse)->Q (.ref L) H'
theorem C7:∀{xs:List V} {us:List Value},cL xs us->cL xs.reverse us.reverse
 | _,_,.nil=>.nil
 | _,_,.cons h r=>by
  rw[xp,xp];exact cL.append (C7 r) (.cons h .nil)
theorem zT (K:PySem.W.Frag) {e1:Expr} {ta:TA} {p p2 pos pos2:Pos} (hg:Gl X "list") (hm:X.mg "list"=none) (hg2:Gl X "reversed") (hm2:X.mg "reversed"=none) (ha:PA X [e1] ta) (hK:X.K=K:=by rfl) (hc:X.calm=true:=by rfl)
  (hs:starEach [e1] X.env=[(false,eval e1 X.env)]:=by rfl)
  (hs3:starEach [Expr.Call (.Name "reversed" p2) [e1] [] pos2] X.env=[(false,eval (.Call (.Name "reversed" p2) [e1] [] pos2) X.env)]:=by rfl) :
  PE X (.Call (.Name "list" p) [.Call (.Name "reversed" p2) [e1] [] pos2] [] pos) (zy K ta):=by
 subst hK;intro pins s σ H Q I h;refine wpAny_Call_Name_kw (kR I hg hm boot_list ?_);refine PyProof.Rows.callWith_type1 ?_ (by rw[hs3];rfl) rfl;rw[hs3];show wpAny _ _ (spliced ((false,eval (.Call (.Name "reversed" p2) [e1] [] pos2) X.env) :: [])) _ _ s
 refine Calls.spliced_cons ?_;refine Call_ (kR I hg2 hm2 boot_reversed (PyProof.Rows.callWith_type1 (fP (ha pos2 pins s σ H _ I h) fun us s1 ⟨vs,H1,I1,r1,q1⟩=>?_) hs rfl));obtain ⟨l,xs,e,hl,hn,q⟩:=q1;subst e;obtain ⟨u,rfl,ru⟩:=vals1 r1;cases ru;obtain ⟨its,rv,pl,hz⟩:=I1.list hl;have hlen:=rv.length;have pI:=pl.isList;refine call_reversed_list pI ?_;refine Calls.spliced_nil ?_;have kp:∀b o,s1.heap.get? b=some o->(s1.heap.push (revObj l ((its.toArray.size:Int) - 1))).get? b=some o:=fun b o e=>Heap.get?_push_of_some _ e
 have nI:l≠s1.heap.objs.size:=by
  obtain ⟨o,ho,_⟩:=pI;exact b7 (Heap.lt_size ho)
 refine La (I.ok.hd hc) (I:=s1.heap.objs.size) (l:=l) (items:=its.toArray) ⟨_,Heap.get?_push_size _ rfl,rfl,rfl⟩ (pI.at fun o e=>kp _ _ e) nI (by rw[aJ];lia) fun h' tk acc c hk hS hacc=>?_
 have sz:s1.heap.objs.size<=(s1.heap.push (revObj l ((its.toArray.size:Int) - 1))).objs.size:=by rw[Heap.size_push];exact sN _
 have nS:=I1.hok.fresh sz
 have ea:acc.toList=its.reverse:=by
  apply Gu;intro j;rcases dh j its.length with z | z
  ·have hj:j < acc.toList.length:=by rw[Array.length_toList,hacc.1,aJ];exact z
   have:=hacc.2 j acc.toList[j] (by rw[<- Array.getElem?_toList];exact ag hj);rw[ag hj,List.getElem?_reverse z];simpa using this.symm
  ·rw[aS (by rw[Array.length_toList,hacc.1,aJ];exact z),aS (by rw[fq];exact z)]
 have vs':cL xs.reverse acc.toList:=by rw[ea];exact C7 rv
 have sl:xs.reverse.length<=sizeLine:=by rw[fq];exact hz
 refine ⟨.ref _,_,I1.laid (o:=.lst xs.reverse) (fun b o e=>hk b o (b7 (Heap.lt_size e)) (kp b o e)) sz ?_,rfl,q _ _ (aL.new nS) nS aK⟩;exact ⟨sl,acc.toList,c,vs',by simpa using hS⟩
end
theorem DF {F G:List ic->Rat} {r:Nat} {g:Nat->Rat} {c:Rat} (hF:∀ws:List ic,F (ws.map fun v i=>g i*v i)=c*G ws):∀(post pre:List ic) (s:Rat),AJ F r (pre.map fun v i=>g i*v i) (post.map fun v i=>g i*v i) s=g r*c*AJ G r pre post s
 | [],_,_=>by show (0:Rat)=_*0;grind
 | v :: post,pre,s=>by
  have i1:=hF (pre++post);have i2:=DF (r:=r) hF post (pre++[v]) (-s);simp only[fh,hJ,List.map_nil,AJ] at i1 i2 ⊢;rw[i1,i2];grind
theorem wU {g : Nat → Rat} : ∀ (rs : List Nat) (vs : List ic), jI rs (vs.map fun v i => g i * v i) = (rs.map g).foldr (· * ·) 1 * jI rs vs
  | [], [] => by show (1 : Rat) = 1 * 1; grind
  | [], _ :: _ => by show (0 : Rat) = 1 * 0; grind
  | r :: rs, vs => by
    have := DF (r := r) (F := fun ws => jI rs ws) (G := fun ws => jI rs ws) (c := (rs.map g).foldr (· * ·) 1) (fun ws => wU rs ws) vs [] 1;exact this
theorem Cd {g:Nat->Rat}:∀{rs:List Nat},(∀r∈rs,g r≠0)->(rs.map g).foldr (·*·) 1≠0
 | [],_=>by show (1:Rat)≠0;decide
 | r :: rs,h=>by
  show g r*_≠0
  have h1:=h r (.head _);have h2:=Cd fun r' hr'=>h r' (.tail _ hr')
  intro z;rcases AE.mp z with z | z
  ·exact h1 z
  ·exact h2 z
section
variable {rows R X K0:List (List Rat)} {due L:List Rat} {n m M W D E W0 W1:Nat} {ps:List Nat}
theorem Bp (hw:∀xs∈rows,xs.length=n) (hW:1<=W) (h0:0 < M) (h3:∀xs∈rows,∀x∈xs,Tp M W x) (RR:cu rows n R ps):∃pm:Nat->Nat,(∀i j,i < ps.length->j < ps.length->pm i=pm j->i=j)/\(∀t,t < ps.length->pm t < rows.length)/\ps.length<=rows.length/\jI (mY pm ps.length) (iX (fun j i=>cv rows i (ps.getD j 0)) ps.length)≠0:=by
 have ent:=MW h0 h3;obtain ⟨ls,ps2,d,I⟩:=A3 hw hW (by rw[ao];exact ent) n (av _);obtain ⟨_,_,⟨pm,B⟩,E⟩:=I;rw[ao] at B E
 have RF:DY rows.length n (cv rows) ps2.length (fun j=>ps2.getD j 0) (fun i c=>d6 ls i c / d):=DY.other (E.done fun i hi c hc=>Aq (n:=n) (fun zs hz=>by
  obtain ⟨xs,hx,rfl⟩:=aD.mp hz;rw[vW];exact hw xs hx) hc) Fh Fi
 obtain ⟨e1,e2,e3⟩:=RF.uniq RR.2.2 (fun _ hi=>eU.row hi) (fun _ hi=>eU.row hi);have km:=B.km;have dt:=B.det;have d0:=B.d0
 have e4:jI (mY pm ps2.length) ([]++iX (fun j r=>d6 (rows.map hZ) r (ps2.getD j 0)) ps2.length)=jI (mY pm ps2.length) ([]++iX (fun j i=>tY rows i*cv rows i (ps.getD j 0)) ps2.length):=CB [] fun j hj r hr=>by
  obtain ⟨t,ht,rfl⟩:=mU hr;rw[zu (B.rng t (by lia)),e2 j hj];rfl
 have e5:iX (fun j i=>tY rows i*cv rows i (ps.getD j 0)) ps2.length=(iX (fun j i=>cv rows i (ps.getD j 0)) ps2.length).map fun v i=>tY rows i*v i:=(cw_map (τ:=fun v i=>tY rows i*v i)).symm
 refine ⟨pm,fun i j hi hj e=>B.inj i j (by lia) (by lia) e,fun t ht=>B.rng t (by lia),by lia,?_⟩;rw[<- e1];intro z;apply d0;rw[dt];have e4:jI (mY pm ps2.length) (iX (fun j r=>d6 (rows.map hZ) r (ps2.getD j 0)) ps2.length)=jI (mY pm ps2.length) (iX (fun j i=>tY rows i*cv rows i (ps.getD j 0)) ps2.length):=e4;rw[e4,e5,wU,z,ji]
theorem Mt (hd:due.length=X.length) (hw:∀xs∈X,xs.length=n) (RR:cu (dc X due) (n+1) R ps) (hn:n∉ps) {i:Nat} (hi:i < X.length):due.getD i 0=bQ ps.length fun j=>cv R j n*cv X i (ps.getD j 0):=by
 obtain ⟨j1,j2⟩:=yt hd hw hi;have sp:=RR.2.2.span i (by rw[p8 hd];exact hi);have:=RR.2.2.coef sp n;rw[<- j2,this];refine br fun j hj=>?_
 have lo:=RR.2.2.low j hj;have ne:ps.getD j 0≠n:=fun z=>hn (by rw[<- z];exact getD_in hj)
 rw[j1 _ (by lia)];exact dC _ _
theorem Fu (RR:cu X (n+1) R ps) {y:Rat} (hy:y∈fH R ps n):y=0\/∃j,j < ps.length/\y=cv R j n:=by
 obtain ⟨c,hc,rfl⟩:=cz hy;have lc:(fH R ps n).length=n:=kD;have e:(fH R ps n)[c]=(fH R ps n).getD c 0:=by rw[aa,ag hc];rfl
 rw[e];by_cases hp:c∈ps
 ·obtain ⟨j,hj,ej⟩:=cz hp
  right
  refine ⟨j,hj,?_⟩;have ej':ps.getD j 0=c:=by rw[aa,ag hj];exact ej
  have:=Ja (R:=R) (ps:=ps) (n:=n) (j:=ps.length) (c:=c) (by lia);unfold fH;rw[this,iY hj fun i hi ne=>if_neg fun z=>?_,if_pos ej'];rcases dh i j with y | y
  ·have:=RR.2.2.inc i j y hj
   lia
  ·have:=RR.2.2.inc j i (by lia) hi
   lia
 ·exact .inl (K6 hp)
theorem Oe {N Wx:Nat} {rs:List Nat} {vs:List ic} (hl:vs.length<=N) (h:∀v∈vs,∀r∈rs,Fr 1 Wx (v r)):∃z:Int,jI rs vs=(z:Rat)/\z.natAbs<=(N*Wx)^rs.length:=by
 have f:=yu hl h;obtain ⟨z,ez⟩:=rA f;rw[ez] at f;exact ⟨z,ez,rz f⟩
theorem Nf (hK:∀xs∈K0,xs.length=n) (hL:L.length=n) (n15:n<=15) (D0:0 < D) (E0:0 < E) (w0:1<=W0) (w1:1<=W1) (tk:∀xs∈K0,∀x∈xs,Tp D W0 x) (tl:∀x∈L,Tp E W1 x) (RR:cu (dc (bC K0 n) L) (K0.length+1) R ps) (hn:K0.length∉ps) :
  ∃q:Nat,0 < q/\q<=(16*W0)^n/\∀y∈fH R ps K0.length,Tp (E*q) (D*(n*(W1*(16*W0)^n))) y:=by
 have lt:(bC K0 n).length=n:=cy;have wt:∀xs∈bC K0 n,xs.length=K0.length:=kB;have hd:L.length=(bC K0 n).length:=by rw[lt];exact hL
 have tfn:∀i,i < n->∀j,cv (bC K0 n) i j=cv K0 j i:=fun i hi j=>by
  unfold cv;rw[aa (l:=bC K0 n),zv hi];show (K0.map fun xs=>xs.getD i 0).getD j 0=_
  rw[aa,aN,aa (l:=K0)];cases K0[j]? with
  | none=>show (0:Rat)=([]:List Rat).getD i 0;rw[aa];rfl
  | some xs=>rfl
 have tkf:∀j i,Tp D W0 (cv K0 j i):=fun j i=>by
  unfold cv;rw[aa (l:=K0)];by_cases hj:j < K0.length
  ·rw[ag hj];exact jN (tk _ (aT hj)) i
  ·rw[aS (by lia)];show Tp D W0 (([]:List Rat).getD i 0)
   exact jN (by intro x z;cases z) i
 have tlf:∀i,Tp E W1 (L.getD i 0):=fun i=>jN tl i
 have tj:∀xs∈dc (bC K0 n) L,∀x∈xs,Tp (D*E) (W0*E+W1*D) x:=FT fun i hi c=>by
  rw[p8 hd,lt] at hi;obtain ⟨j1,j2⟩:=yt hd wt (by rw[lt];exact hi);by_cases hc:c < K0.length
  ·rw[j1 c hc,tfn i hi];obtain ⟨z,e,b⟩:=tkf c i;exact ⟨z*E,by rw[eC,aQ,<- e,aM];grind,by rw[cF,bM];exact ah (aA _ b) (yH _ _)⟩
  ·by_cases hc2:c=K0.length
   ·rw[hc2,j2];obtain ⟨z,e,b⟩:=tlf i;exact ⟨z*D,by rw[eC,aQ,<- e,aM];grind,by rw[cF,bM];exact ah (aA _ b) (Nat.le_add_left _ _)⟩
   ·rw[EZ (wN wt) (by lia)];exact ⟨0,by rw[mE];rfl,aY _⟩
 obtain ⟨pm,pinj,plt,kn,dne⟩:=Bp (wN wt) (W:=W0*E+W1*D) (ah (bY w0 E0) (yH _ _)) (bY D0 E0) tj RR;rw[p8 hd,lt] at plt kn
 have pl:∀j,j < ps.length->ps.getD j 0 < K0.length:=fun j hj=>by
  have lo:=RR.2.2.low j hj;have ne:ps.getD j 0≠K0.length:=fun z=>hn (by rw[<- z];exact getD_in hj)
  lia
 have Dne:(D:Rat)≠0:=fun z=>by
  have:((D:Int):Rat)=0:=by rw[aM];exact z
  have:=qJ this
  lia
 have Ene:(E:Rat)≠0:=fun z=>by
  have:((E:Int):Rat)=0:=by rw[aM];exact z
  have:=qJ this
  lia
 have rlt:∀r∈mY pm ps.length,r < n:=fun r hr=>by
  obtain ⟨t,ht,rfl⟩:=mU hr;exact plt t ht
 obtain ⟨v,ev⟩:∃v:Nat->ic,v=fun j i=>(D:Rat)*cv K0 (ps.getD j 0) i:=⟨_,rfl⟩
 have vint:∀j r,Fr 1 W0 (v j r):=fun j r=>by
  obtain ⟨z,e,b⟩:=tkf (ps.getD j 0) r;rw[ev];show Fr 1 W0 ((D:Rat)*_)
  rw[dC,e];exact Fr.int b
 have den:jI (mY pm ps.length) (iX v ps.length)≠0:=by
  have e1:jI (mY pm ps.length) ([]++iX v ps.length)=jI (mY pm ps.length) ([]++iX (fun j i=>(D:Rat)*cv (dc (bC K0 n) L) i (ps.getD j 0)) ps.length):=CB [] fun j hj r hr=>by
   have hr:=rlt r hr;obtain ⟨j1,_⟩:=yt hd wt (i:=r) (by rw[lt];exact hr);rw[j1 _ (pl j hj),tfn r hr,ev]
  have e2:iX (fun j i=>(D:Rat)*cv (dc (bC K0 n) L) i (ps.getD j 0)) ps.length=(iX (fun j i=>cv (dc (bC K0 n) L) i (ps.getD j 0)) ps.length).map fun v i=>(fun _=>(D:Rat)) i*v i:=(cw_map (τ:=fun v i=>(D:Rat)*v i)).symm
  have e1:jI (mY pm ps.length) (iX v ps.length)=jI (mY pm ps.length) (iX (fun j i=>(D:Rat)*cv (dc (bC K0 n) L) i (ps.getD j 0)) ps.length):=e1;rw[e1,e2,wU];intro z;rcases AE.mp z with z | z
  ·exact Cd (g:=fun _=>(D:Rat)) (fun _ _=>Dne) z
  ·exact dne z
 obtain ⟨q,eq,bq⟩:=Oe (N:=16) (Wx:=W0) (rs:=mY pm ps.length) (vs:=iX v ps.length) (by rw[cw_len];lia) fun w hw r _=>by
  obtain ⟨t,_,rfl⟩:=cw_in hw;exact vint t r
 rw[tm] at bq;have up:(16*W0)^ps.length<=(16*W0)^n:=aj (by lia) kn;have q0:q≠0:=fun z=>den (by rw[eq,z];rfl)
 refine ⟨q.natAbs,by lia,ah bq up,fun y hy=>?_⟩;rcases Fu RR hy with rfl | ⟨i,hi,rfl⟩
 ·exact ⟨0,by rw[mE];rfl,aY _⟩
 ·have hW:∀r∈mY pm ps.length,(E:Rat)*L.getD r 0=bQ ps.length fun j=>((E:Rat)*cv R j K0.length / D)*v j r:=fun r hr=>by
   have hr:=rlt r hr;rw[Mt hd wt RR hn (i:=r) (by rw[lt];exact hr),<- dE];refine br fun j hj=>?_
   rw[tfn r hr,ev]
   dsimp only
   grind
  have cr:=xZ (v:=v) (c:=fun j=>(E:Rat)*cv R j K0.length / D) (W:=fun r=>(E:Rat)*L.getD r 0) hi hW
  have ex:jI (mY pm ps.length) (D8 v i ps.length++(fun r=>(E:Rat)*L.getD r 0) :: iX v i)=bQ ps.length fun t=>((E:Rat)*L.getD (pm t) 0)*jI (mY pm ps.length) (D8 v i ps.length++(fun r=>if r=pm t then 1 else 0) :: iX v i):=Cz (W:=fun _=>0) (v:=fun t r=>if r=pm t then 1 else 0) (c:=fun t=>(E:Rat)*L.getD (pm t) 0) _ _ (fun r hr=>by
   obtain ⟨t,ht,rfl⟩:=mU hr;rw[iY ht fun j hj ne=>by rw[if_neg fun z=>ne (pinj j t hj ht z.symm),ji],if_pos rfl,Kz])
  have hlen:∀x:ic,(D8 v i ps.length++x :: iX v i).length<=16:=fun x=>by
   have:=congrArg List.length (cw_split (v:=v) hi);rw[aw,ba,cw_len] at this;rw[aw,ba]
   lia
  have nf:Fr 1 (n*(W1*(16*W0)^n)) (jI (mY pm ps.length) (D8 v i ps.length++(fun r=>(E:Rat)*L.getD r 0) :: iX v i)):=by
   rw[ex];refine (J6 (V:=W1*(16*W0)^n) fun t ht=>?_).mono (aA _ kn);obtain ⟨z,e,b⟩:=tlf (pm t)
   have f1:Fr 1 W1 ((E:Rat)*L.getD (pm t) 0):=by
    rw[dC,e];exact Fr.int b
   have f2:=yu (W:=W0) (N:=16) (rs:=mY pm ps.length) (hlen fun r=>if r=pm t then 1 else 0) fun w hw r _=>by
    rcases ax.mp hw with hw | hw
    ·obtain ⟨s,_,rfl⟩:=Bo hw;exact vint s r
    ·rcases aG.mp hw with rfl | hw
     ·dsimp only
      split
      ·exact Fr.one w0
      ·exact Fr.zero
     ·obtain ⟨s,_,rfl⟩:=cw_in hw;exact vint s r
   rw[tm] at f2;have:=f1.mul f2;rw[xo] at this;exact this.mono (aP _ up)
  obtain ⟨z,ez⟩:=rA nf;rw[ez] at nf cr;have bz:=rz nf;rw[eq] at cr
  have key:cv R i K0.length*((E:Rat)*(q:Rat))=(D:Rat)*(z:Rat):=by
   rw[cr];grind
  have kq:(((E*q.natAbs:Nat):Rat))=(E:Rat)*((q.natAbs:Nat):Rat):=eC ..;rcases D7 q with h | h
  ·have hq:((q.natAbs:Nat):Rat)=(q:Rat):=by rw[<- aM,<- h]
   refine ⟨D*z,?_,by rw[cF,bM];exact aP _ bz⟩;rw[kq,hq,key,aQ,aM]
  ·have hq:((q.natAbs:Nat):Rat)=-(q:Rat):=by rw[<- aM,<- dm];congr 1;lia
   refine ⟨-(D*z),?_,by rw[pV,cF,bM];exact aP _ bz⟩;rw[kq,hq,dm,aQ,aM,<- key];grind
theorem Jf {pm w : Nat → Nat} {X Y s : Nat} (hX : 1 ≤ X) (hY : 1 ≤ Y) (h1 : ∀ r, r ≠ s → w r ≤ X) (h2 : w s ≤ Y) : ∀ k, (∀ i j, i < k → j < k → pm i = pm j → i = j) → ((∃ t, t < k /\ pm t = s) → ((mY pm k).map w).foldr (· * ·) 1 ≤ X ^ k * Y) /\ ((∀ t, t < k → pm t ≠ s) → ((mY pm k).map w).foldr (· * ·) 1 ≤ X ^ k)
  | 0, _ => ⟨fun ⟨t, h, _⟩ => absurd h (gH _), fun _ => av _⟩
  | k + 1, inj => by
    obtain ⟨i1, i2⟩ := Jf (pm := pm) (w := w) hX hY h1 h2 k fun i j hi hj => inj i j (by lia) (by lia)
    have mul : ((mY pm (k + 1)).map w).foldr (· * ·) 1 = w (pm k) * ((mY pm k).map w).foldr (· * ·) 1 := rfl;refine ⟨fun ⟨t, ht, et⟩ => ?_, fun h => ?_⟩
    · rw [mul];by_cases e : pm k = s
      · have := i2 fun t' ht' z => by
          have := inj t' k (by lia) (by lia) (z.trans e.symm)
          lia
        rw [e]
        calc w s * _ ≤ Y * X ^ k := aE h2 this
          _ = X ^ k * Y := bU _ _
          _ ≤ X ^ (k + 1) * Y := aA _ (aj hX (sN _))
      · have := i1 ⟨t, by rcases dh t k with z | z; exact z; exact absurd (by rw [show k = t by lia]; exact et) e, et⟩
        calc w (pm k) * _ ≤ X * (X ^ k * Y) := aE (h1 _ e) this
          _ = X ^ (k + 1) * Y := by rw [fw, <- cw, bU X]
    · rw [mul, fw, bU (X ^ k)];exact aE (h1 _ (h k (by lia))) (i2 fun t ht => h t (by lia))
theorem Le {pm w:Nat->Nat} {X Y s:Nat} (hX:1<=X) (hY:1<=Y) (h1:∀r,r≠s->w r<=X) (h2:w s<=Y) {k n:Nat} (hk:k<=n) (inj:∀i j,i < k->j < k->pm i=pm j->i=j):((mY pm k).map w).foldr (·*·) 1<=X^n*Y:=by
 obtain ⟨a,b⟩:=Jf (pm:=pm) (w:=w) hX hY h1 h2 k inj;have up:X^k<=X^n:=aj hX hk;by_cases e:∃t,t < k/\pm t=s
 ·exact ah (a e) (aA _ up)
 ·exact ah (b fun t ht z=>e ⟨t,ht,z⟩) (ah up (cJ _ hY))
theorem Jr (hK:∀xs∈K0,xs.length=n) (hL:L.length=n) (n15:n<=15) (D0:0 < D) (E0:0 < E) (w0:1<=W0) (tk:∀xs∈K0,∀x∈xs,Tp D W0 x) (tl:∀x∈L,Tp E W1 x) (RR:cu (dc (K0++[L]) (List.replicate K0.length 0++[1])) (n+1) R ps) (hn:n∉ps) :
  ∃q:Nat,0 < q/\q<=(16*W0)^n*(16*(W1+E))/\∀y∈fH R ps n,Tp q ((16*W0)^n*(16*(W1+E))) y:=by
 have hw:∀xs∈K0++[L],xs.length=n:=fun xs hx=>by
  rcases ax.mp hx with hx | hx
  ·exact hK xs hx
  ·rw[bW.mp hx];exact hL
 have hd:(List.replicate K0.length (0:Rat)++[1]).length=(K0++[L]).length:=by simp
 have lX:(K0++[L]).length=K0.length+1:=by simp
 have due:∀i,i < K0.length+1->(List.replicate K0.length (0:Rat)++[1]).getD i 0=if i=K0.length then 1 else 0:=fun i hi=>by
  rw[aa];by_cases e:i=K0.length
  ·rw[aW (by simp;lia),if_pos e];simp [e]
  ·rw[bF (by simp;lia),if_neg e,cX,if_pos (by lia)];rfl
 have tX:∀i c,Tp (if i=K0.length then E else D) (if i=K0.length then W1 else W0) (cv (K0++[L]) i c):=fun i c=>by
  by_cases e:i=K0.length
  ·rw[if_pos e,if_pos e,e];have:=yQ (X:=K0) (Y:=[L]) (i:=0);rw[Nat.add_zero] at this;rw[this];exact jN tl c
  ·rw[if_neg e,if_neg e];by_cases h:i < K0.length
   ·rw[CO h];unfold cv;rw[aa (l:=K0),ag h];exact jN (tk _ (aT h)) c
   ·unfold cv;rw[aa (l:=K0++[L]),aS (by rw[lX];lia)];exact jN (by intro x z;cases z) c
 have tj:∀xs∈dc (K0++[L]) (List.replicate K0.length 0++[1]),∀x∈xs,Tp (D*E) (W0*E+W1*D+D*E) x:=FT fun i hi c=>by
  rw[p8 hd] at hi;obtain ⟨j1,j2⟩:=yt hd hw hi;by_cases hc:c < n
  ·rw[j1 c hc];obtain ⟨z,e,b⟩:=tX i c;by_cases h:i=K0.length
   ·rw[if_pos h] at e b;exact ⟨z*D,by rw[eC,aQ,<- e,aM];grind,by rw[cF,bM];have:=aA D b;lia⟩
   ·rw[if_neg h] at e b;exact ⟨z*E,by rw[eC,aQ,<- e,aM];grind,by rw[cF,bM];have:=aA E b;lia⟩
  ·by_cases hc2:c=n
   ·rw[hc2,j2,due i (by lia)]
    split
    ·exact ⟨(D*E:Nat),by rw[Rat.one_mul,aM],by rw[bM];lia⟩
    ·exact ⟨0,by rw[mE];rfl,aY _⟩
   ·rw[EZ (wN hw) (by lia)];exact ⟨0,by rw[mE];rfl,aY _⟩
 obtain ⟨pm,pinj,plt,_,dne⟩:=Bp (wN hw) (W:=W0*E+W1*D+D*E) (by have:=bY D0 E0;lia) (bY D0 E0) tj RR;rw[p8 hd,lX] at plt
 have pl:∀j,j < ps.length->ps.getD j 0 < n:=fun j hj=>by
  have lo:=RR.2.2.low j hj;have ne:ps.getD j 0≠n:=fun z=>hn (by rw[<- z];exact getD_in hj)
  lia
 have kn:ps.length<=n:=by
  have inc:∀j,j < ps.length->j<=ps.getD j 0:=by
   intro j
   induction j with
   | zero=>intro _;exact aY _
   | succ j ih =>
    intro hj;have:=ih (by lia);have:=RR.2.2.inc j (j+1) (by lia) hj
    lia
  rcases oj ps.length with z | z
  ·lia
  ·have:=inc (ps.length - 1) (by lia);have:=pl (ps.length - 1) (by lia)
   lia
 obtain ⟨g,eg⟩:∃g:Nat->Rat,g=fun i=>((if i=K0.length then E else D:Nat):Rat):=⟨_,rfl⟩
 have gne:∀i,g i≠0:=fun i z=>by
  rw[eg] at z;have z:(((if i=K0.length then E else D:Nat):Int):Rat)=0:=by rw[aM];exact z
  have:=qJ z
  split at this <;> lia
 have rlt:∀r∈mY pm ps.length,r < K0.length+1:=fun r hr=>by
  obtain ⟨t,ht,rfl⟩:=mU hr;exact plt t ht
 obtain ⟨v,ev⟩:∃v:Nat->ic,v=fun j i=>g i*cv (K0++[L]) i (ps.getD j 0):=⟨_,rfl⟩
 obtain ⟨wt,ew⟩:∃wt:Nat->Nat,wt=fun i=>if i=K0.length then W1+E else W0:=⟨_,rfl⟩
 have vint:∀j r,Fr 1 (wt r) (v j r):=fun j r=>by
  obtain ⟨z,e,b⟩:=tX r (ps.getD j 0);rw[ev,eg,ew];show Fr 1 _ (_*_)
  rw[dC,e];refine (Fr.int b).mono ?_
  dsimp only
  split <;> lia
 have bnd:∀{vs:List ic},vs.length<=16->(∀w∈vs,∀r∈mY pm ps.length,Fr 1 (wt r) (w r))->∃z:Int,jI (mY pm ps.length) vs=(z:Rat)/\z.natAbs<=(16*W0)^n*(16*(W1+E)):=fun {vs} hl h=>by
  have f:=Kd hl h;obtain ⟨z,ez⟩:=rA f;rw[ez] at f;refine ⟨z,ez,ah (rz f) (Le (s:=K0.length) (by lia) (by lia) (fun r hr=>?_) ?_ kn pinj)⟩
  ·rw[ew];dsimp only;rw[if_neg hr];exact av _
  ·rw[ew];dsimp only;rw[if_pos rfl];exact av _
 have den:jI (mY pm ps.length) (iX v ps.length)≠0:=by
  have e1:jI (mY pm ps.length) ([]++iX v ps.length)=jI (mY pm ps.length) ([]++iX (fun j i=>g i*cv (dc (K0++[L]) (List.replicate K0.length 0++[1])) i (ps.getD j 0)) ps.length):=CB [] fun j hj r hr=>by
   have hr:=rlt r hr;obtain ⟨j1,_⟩:=yt hd hw (i:=r) (by rw[lX];exact hr);rw[j1 _ (pl j hj),ev]
  have e2:iX (fun j i=>g i*cv (dc (K0++[L]) (List.replicate K0.length 0++[1])) i (ps.getD j 0)) ps.length=(iX (fun j i=>cv (dc (K0++[L]) (List.replicate K0.length 0++[1])) i (ps.getD j 0)) ps.length).map fun v i=>g i*v i:=(cw_map (τ:=fun v i=>g i*v i)).symm
  have e1:jI (mY pm ps.length) (iX v ps.length)=jI (mY pm ps.length) (iX (fun j i=>g i*cv (dc (K0++[L]) (List.replicate K0.length 0++[1])) i (ps.getD j 0)) ps.length):=e1;rw[e1,e2,wU];intro z;rcases AE.mp z with z | z
  ·exact Cd (fun r _=>gne r) z
  ·exact dne z
 obtain ⟨q,eq,bq⟩:=bnd (vs:=iX v ps.length) (by rw[cw_len];lia) fun w hw r _=>by
  obtain ⟨t,_,rfl⟩:=cw_in hw;exact vint t r
 have q0:q≠0:=fun z=>den (by rw[eq,z];rfl)
 refine ⟨q.natAbs,by lia,bq,fun y hy=>?_⟩;rcases Fu RR hy with rfl | ⟨i,hi,rfl⟩
 ·exact ⟨0,by rw[mE];rfl,aY _⟩
 ·have hW:∀r∈mY pm ps.length,g r*(if r=K0.length then 1 else 0)=bQ ps.length fun j=>cv R j n*v j r:=fun r hr=>by
   have hr:=rlt r hr;rw[<- due r hr,Mt hd hw RR hn (i:=r) (by rw[lX];exact hr),<- dE];refine br fun j hj=>?_
   rw[ev]
   dsimp only
   grind
  have cr:=xZ (v:=v) (c:=fun j=>cv R j n) (W:=fun r=>g r*(if r=K0.length then 1 else 0)) hi hW
  obtain ⟨z,ez,bz⟩:=bnd (vs:=D8 v i ps.length++(fun r=>g r*(if r=K0.length then 1 else 0)) :: iX v i) (by
   have:=congrArg List.length (cw_split (v:=v) hi);rw[aw,ba,cw_len] at this;rw[aw,ba]
   lia) fun w hw r _=>by
    rcases ax.mp hw with hw | hw
    ·obtain ⟨s,_,rfl⟩:=Bo hw;exact vint s r
    ·rcases aG.mp hw with rfl | hw
     ·dsimp only
      by_cases e:r=K0.length
      ·rw[if_pos e,Kz,eg,ew]
       dsimp only
       rw[if_pos e,if_pos e,<- aM];exact Fr.int (by rw[bM];lia)
      ·rw[if_neg e,ji];exact Fr.zero
     ·obtain ⟨s,_,rfl⟩:=cw_in hw;exact vint s r
  rw[ez,eq] at cr;have key:cv R i n*(q:Rat)=(z:Rat):=cr.symm;rcases D7 q with h | h
  ·have hq:((q.natAbs:Nat):Rat)=(q:Rat):=by rw[<- aM,<- h]
   exact ⟨z,by rw[hq,key],bz⟩
  ·have hq:((q.natAbs:Nat):Rat)=-(q:Rat):=by rw[<- aM,<- dm];congr 1;lia
   exact ⟨-z,by rw[hq,dm,<- key];grind,by rw[pV];exact bz⟩
end
def gX (mv:List (List Rat)):Nat->List Rat->List Rat
 | 0,x=>x
 | t+1,x=>rd mv (gX mv t x)
section
variable {mv pt lk pus:List (List Rat)} {st pu go:List Rat} {n t T c:Nat}
theorem qZ (h:st.length=mv.length):∀t,(gX mv t st).length=mv.length
 | 0=>h
 | _+1=>xR
theorem Ao {x y:List Rat} (h:x.length=y.length) (e:∀c,c < x.length->x.getD c 0=y.getD c 0):x=y:=by
 apply dD h;intro c h1 h2;have:=e c h1;rwa [aa,aa,ag h1,ag h2] at this
theorem Mz (wm:∀xs∈mv,xs.length=mv.length) (h:st.length=mv.length) (hc:c < mv.length):(rd mv st).getD c 0=bQ mv.length fun j=>cv mv c j*st.getD j 0:=by
 have e:(rd mv st).getD c 0=dW mv[c] st:=by
  unfold rd;rw[aa,aN,ag hc];rfl
 have wc:=wm _ (aT hc);rw[e,fQ (by lia),wc];refine br fun j _=>?_
 unfold cv;rw[aa (l:=mv),ag hc];rfl
theorem JD (D:jq mv pt lk) (h:st.length=mv.length) (hp:pu.length=pt.length) (hc:c < mv.length):(kQ mv pt st pu).getD c 0=bQ mv.length (fun j=>cv mv c j*st.getD j 0)+bQ pt.length fun i=>pu.getD i 0*cv pt i c:=by
 have wc:=D.mw _ (aT hc)
 have e:(kQ mv pt st pu).getD c 0=dW (mv[c]++pt.map fun xs=>xs.getD c 0) (st++pu):=by
  unfold kQ;rw[aa,cU,ag hc,zv hc];rfl
 rw[e,Kg (by lia),fQ (by lia),fQ (by rw[ao];lia),wc,ao];congr 1
 ·refine br fun j _=>?_
  unfold cv;rw[aa (l:=mv),ag hc];rfl
 ·refine br fun i hi=>?_
  rw[dC];congr 1;unfold cv;rw[aa,aN,aa (l:=pt),ag hi];rfl
theorem oY:∀t,(kry mv pt t).length=t*pt.length
 | 0=>by rw[Nat.zero_mul];rfl
 | t+1=>by
  show (pt++(kry mv pt t).map (rd mv)).length=_
  rw[aw,ao,oY t,dr,zj]
theorem BP (D:jq mv pt lk) (ls:st.length=mv.length):∀k,k<=pus.length->(∀xs∈pus,xs.length=pt.length)->∀c,c < mv.length->(BQ mv pt st pus k).getD c 0=(gX mv k st).getD c 0+bQ (kry mv pt k).length fun i=>((pus.take k).reverse.flatten).getD i 0*cv (kry mv pt k) i c:=by
 intro k
 induction k with
 | zero =>
  intro _ _ c _;show st.getD c 0=st.getD c 0+0
  grind
 | succ k ih =>
  intro hk hp c hc;have hk':k < pus.length:=hk;have e:=ag hk';have hl:=hp _ (aT hk');have ls':=vZ (pt:=pt) (pus:=pus) ls (k:=k) (by lia)
  have lf:((pus.take k).reverse.flatten).length=(kry mv pt k).length:=by
   rw[oY,tT (i:=pt.length) fun xs hx=>hp xs (cC (iW.mp hx)),fq,dn,nU (by lia)]
  rw[zB e,JD D ls' hl hc]
  have er:(pus.take (k+1)).reverse.flatten=pus[k]++(pus.take k).reverse.flatten:=by
   rw[take_snoc e,List.reverse_append];simp
  have ek:kry mv pt (k+1)=pt++(kry mv pt k).map (rd mv):=rfl;rw[er,ek,aw,ao,xD]
  have p1:(bQ pt.length fun i=>(pus[k]++(pus.take k).reverse.flatten).getD i 0*cv (pt++(kry mv pt k).map (rd mv)) i c)=bQ pt.length fun i=>pus[k].getD i 0*cv pt i c:=br fun i hi=>by
   rw[CO hi,aa,bF (by lia),aa]
  have p2:(bQ (kry mv pt k).length fun i=>(pus[k]++(pus.take k).reverse.flatten).getD (pt.length+i) 0*cv (pt++(kry mv pt k).map (rd mv)) (pt.length+i) c)=bQ mv.length fun j=>cv mv c j*bQ (kry mv pt k).length fun i=>((pus.take k).reverse.flatten).getD i 0*cv (kry mv pt k) i j:=by
   have q1:∀i,i < (kry mv pt k).length->(pus[k]++(pus.take k).reverse.flatten).getD (pt.length+i) 0*cv (pt++(kry mv pt k).map (rd mv)) (pt.length+i) c=bQ mv.length fun j=>cv mv c j*(((pus.take k).reverse.flatten).getD i 0*cv (kry mv pt k) i j):=fun i hi=>by
    rw[yQ,Jw rfl D.mw (fe rfl D.pw k) hi,aa,aW (by lia),hl,PU,<- aa,<- dE];exact br fun j _=>by grind
   rw[br q1,kC];exact br fun j _=>dE
  rw[p1,p2];have p3:(gX mv (k+1) st).getD c 0=bQ mv.length fun j=>cv mv c j*(gX mv k st).getD j 0:=Mz D.mw (qZ ls k) hc
  rw[p3]
  have p4:(bQ mv.length fun j=>cv mv c j*(BQ mv pt st pus k).getD j 0)=(bQ mv.length fun j=>cv mv c j*(gX mv k st).getD j 0)+bQ mv.length fun j=>cv mv c j*bQ (kry mv pt k).length fun i=>((pus.take k).reverse.flatten).getD i 0*cv (kry mv pt k) i j:=by
   rw[<- sW];refine br fun j hj=>?_
   rw[ih (by lia) hp j hj];grind
  rw[p4];grind
end
section
variable {mv pt lk pus R:List (List Rat)} {st pu go w pr L:List Rat} {n t T c u k:Nat} {ps:List Nat}
theorem Eh (D:jq mv pt lk) (ls:st.length=mv.length):BQ mv pt st (List.replicate T (List.replicate pt.length 0)) T=gX mv T st:=by
 have l1:=vZ (pt:=pt) (pus:=List.replicate T (List.replicate pt.length 0)) ls (k:=T) (by rw[aF];exact av _);refine Ao (by rw[l1,qZ ls]) fun c hc=>?_
 rw[l1] at hc;rw[BP D ls T (by rw[aF];exact av _) (fun xs hx=>by rw[(di.mp hx).2,aF]) c hc,dG fun i _=>?_,zh]
 have z:(((List.replicate T (List.replicate pt.length (0:Rat))).take T).reverse.flatten).getD i 0=0:=by
  rw[aa];cases e:(((List.replicate T (List.replicate pt.length (0:Rat))).take T).reverse.flatten)[i]? with
  | none=>rfl
  | some y =>
   have:=ay e;obtain ⟨l,hl,hy⟩:=yI.mp this;have hl:=cC (iW.mp hl);rw[(di.mp hl).2] at hy;exact (di.mp hy).2
 rw[z,mE]
def mW (mv:List (List Rat)) (T:Nat) (st go:List Rat):List Rat:=List.zipWith (fun x y=>x - y) go (gX mv T st)
theorem JL (ls:st.length=mv.length) (lg:go.length=mv.length):(mW mv T st go).length=mv.length:=by
 unfold mW;rw[ck,qZ ls,lg,pU]
theorem Iu {x y:List Rat} (h:x.length=y.length) (hc:c < x.length):(List.zipWith (fun x y=>x - y) x y).getD c 0=x.getD c 0 - y.getD c 0:=by
 rw[aa,cU,aa (l:=x),aa (l:=y),ag hc,ag (by lia)];rfl
theorem FL:∀u,∃Z,kry mv pt (u+1)=kry mv pt u++Z
 | 0=>⟨pt++[],rfl⟩
 | u+1=>by
  obtain ⟨Z,e⟩:=FL u;refine ⟨Z.map (rd mv),?_⟩;show pt++(kry mv pt (u+1)).map (rd mv)=(pt++(kry mv pt u).map (rd mv))++_
  rw[e,fh,cb]
theorem DI {u:Nat}:∀s,∃Z,kry mv pt (u+s)=kry mv pt u++Z
 | 0=>⟨[],by rw[sR];rfl⟩
 | s+1=>by
  obtain ⟨Z,e⟩:=DI (u:=u) s;obtain ⟨Y,e'⟩:=FL (mv:=mv) (pt:=pt) (u+s);exact ⟨Z++Y,by rw[<- Nat.add_assoc,e',e,cb]⟩
def yO (w:List Rat) (u k:Nat):List (List Rat):=(List.range u).map fun t=>(w.drop (t*k)).take k
theorem DN:∀{u:Nat} {w:List Rat},w.length=u*k->(yO w u k).flatten=w
 | 0,w,h=>by
  rw[Nat.zero_mul] at h;rw[List.length_eq_zero_iff.mp h];rfl
 | u+1,w,h=>by
  have e:yO w (u+1) k=yO (w.take (u*k)) u k++[w.drop (u*k)]:=by
   unfold yO;rw[AG,fh];congr 1
   ·refine ux fun t ht=>?_
    have ht:=vD.mp ht;have:t*k+k<=u*k:=by rw[<- dr];exact aA _ ht
    rw[List.drop_take,List.take_take,nU (by lia)]
   ·show [(w.drop (u*k)).take k]=_
    rw[aI (by rw[Io,h,dr];lia)]
  rw[e,fu,DN (by rw[dn,h,dr];lia)];simp
theorem Pz (h:w.length=u*k):∀xs∈yO w u k,xs.length=k:=fun xs hx=>by
 obtain ⟨t,ht,rfl⟩:=aD.mp hx;have ht:=vD.mp ht;have:t*k+k<=u*k:=by rw[<- dr];exact aA _ ht
 rw[dn,Io]
 lia
theorem Km {x:Rat} {xs:List Rat} (hx:xs∈yO w u k) (hx':x∈xs):x∈w:=by
 obtain ⟨t,_,rfl⟩:=aD.mp hx;exact List.mem_of_mem_drop (cC hx')
def zN (w:List Rat) (T u k:Nat):List (List Rat):=List.replicate (T - u) (List.replicate k 0)++(yO w u k).reverse
theorem Fx (hu:u<=T):(zN w T u k).length=T:=by
 unfold zN yO;rw[aw,aF,fq,ao,cD]
 lia
theorem My (h:w.length=u*k):∀xs∈zN w T u k,xs.length=k:=fun xs hx=>by
 rcases ax.mp hx with hx | hx
 ·rw[(di.mp hx).2,aF]
 ·exact Pz h xs (iW.mp hx)
theorem LF {P:Rat->Prop} (h0:P 0) (h:∀x∈w,P x):∀xs∈zN w T u k,∀x∈xs,P x:=fun xs hx x hx'=>by
 rcases ax.mp hx with hx | hx
 ·rw[(di.mp hx).2] at hx';rw[(di.mp hx').2];exact h0
 ·exact h x (Km (iW.mp hx) hx')
theorem Jg {T k:Nat}:(List.replicate T (List.replicate k (0:Rat))).flatten=List.replicate (T*k) 0:=by
 rw[List.flatten_replicate_replicate]
theorem E5 (D:jq mv pt lk) (ls:st.length=mv.length) (lg:go.length=mv.length) (hu:u<=T) (hw:w.length=(kry mv pt u).length) (e:C6 (kry mv pt u) w mv.length=mW mv T st go):BQ mv pt st (zN w T u pt.length) T=go:=by
 have hw':w.length=u*pt.length:=by rw[hw,oY]
 have lp:=Fx (w:=w) (k:=pt.length) hu;have l1:=vZ (pt:=pt) (pus:=zN w T u pt.length) ls (k:=T) (by lia);refine Ao (by rw[l1,lg]) fun c hc=>?_
 rw[l1] at hc;rw[BP D ls T (by lia) (My hw') c hc,aI (by lia)]
 have er:(zN w T u pt.length).reverse.flatten=w++List.replicate ((T - u)*pt.length) 0:=by
  unfold zN;rw[List.reverse_append,gV,fu,DN hw',List.reverse_replicate,Jg]
 obtain ⟨Z,eZ⟩:=DI (mv:=mv) (pt:=pt) (u:=u) (T - u);rw[show u+(T - u)=T by lia] at eZ;rw[er,eZ,aw,xD]
 have p1:(bQ (kry mv pt u).length fun i=>(w++List.replicate ((T - u)*pt.length) 0).getD i 0*cv (kry mv pt u++Z) i c)=(mW mv T st go).getD c 0:=by
  rw[<- e,BK hc,hw];exact br fun i hi=>by rw[CO hi,aa,bF (by lia),aa]
 have p2:(bQ Z.length fun i=>(w++List.replicate ((T - u)*pt.length) 0).getD ((kry mv pt u).length+i) 0*cv (kry mv pt u++Z) ((kry mv pt u).length+i) c)=0:=dG fun i _=>by
  have z:(w++List.replicate ((T - u)*pt.length) (0:Rat)).getD ((kry mv pt u).length+i) 0=0:=by
   rw[aa,aW (by lia),cX]
   split <;> rfl
  rw[z,mE]
 rw[p1,p2,zh];unfold mW;rw[Iu (by rw[lg,qZ ls]) (by lia)];grind
theorem Hw {ps':List Nat} (wp:∀xs∈pt,xs.length=mv.length) (RRu:cu (kry mv pt u) mv.length R ps) (RRT:cu (kry mv pt T) mv.length R ps') (lp:pr.length=mv.length) (h:∀xs∈kry mv pt u,dW xs pr=0):∀xs∈kry mv pt T,dW xs pr=0:=fun xs hx=>by
 have wu:=fe (mv:=mv) rfl wp u;have wT:=fe (mv:=mv) rfl wp T;obtain ⟨i,hi,rfl⟩:=cz hx;have s1:eU (kry mv pt u).length (cv (kry mv pt u)) (cv (kry mv pt T) i):=eU.trans (fun t ht=>RRu.2.2.back t (by rw[<- RRu.1,RRT.1];exact ht)) (RRT.2.2.span i hi);obtain ⟨v,hv⟩:=s1
 have fn:∀{X:List (List Rat)} {i:Nat} (h:i < X.length) (c:Nat),X[i].getD c 0=cv X i c:=fun {X i} h c=>by
  unfold cv;rw[aa (l:=X),ag h];rfl
 have w1:=wT _ (aT hi);rw[fQ (by lia),w1]
 have e1:(bQ mv.length fun c=>(kry mv pt T)[i].getD c 0*pr.getD c 0)=bQ (kry mv pt u).length fun t=>v t*bQ mv.length fun c=>cv (kry mv pt u) t c*pr.getD c 0:=by
  have q:∀c,c < mv.length->(kry mv pt T)[i].getD c 0*pr.getD c 0=bQ (kry mv pt u).length fun t=>v t*(cv (kry mv pt u) t c*pr.getD c 0):=fun c _=>by
   rw[fn hi c,hv c,dC,<- dE];exact br fun t _=>by grind
  rw[br q,kC];exact br fun t _=>dE
 rw[e1];refine dG fun t ht=>?_
 have w2:=wu _ (aT ht);have:=h _ (aT ht);rw[fQ (by lia),w2] at this
 have q:(bQ mv.length fun c=>cv (kry mv pt u) t c*pr.getD c 0)=0:=by
  refine Eq.trans ?_ this;exact br fun c _=>by rw[fn ht c]
 rw[q,ji]
end
def AW (l:Addr):Hp:=fun q=>if q=l then some (.lst []) else none
theorem off_ne {l:Addr}:AW l l≠none:=by unfold AW;rw[if_pos rfl];exact fun z=>nomatch z
theorem Jz {l q:Addr} (h:q≠l):AW l q=none:=by unfold AW;rw[if_neg h]
def Il (K:PySem.W.Frag) (l:Addr) (H:Hp) (R:List (List Rat)) (v:V):Prop:=∃q,v=V.ref q/\q≠l/\bO K (AW l) H q R
section
variable {K:PySem.W.Frag} {H0 H H':Hp} {l p q:Addr} {R:List (List Rat)} {v:V} {mv pt:List (List Rat)} {u T:Nat}
theorem bO.off (h:bO K H0 H p R) (hl:H l=none):p≠l/\bO K (AW l) H p R:=by
 obtain ⟨xs,g,r,n⟩:=h;refine ⟨fun z=>(by rw[z,hl] at g;cases g),xs,g,Paired.imp' (fun _ _ ⟨q,a,b,c⟩=>⟨q,a,Jz fun z=>?_,c⟩) r,n⟩;obtain ⟨_,gg,_⟩:=c;rw[z,hl] at gg;cases gg
theorem Il.same (h:Il K l H R v) (s:aL H H'):Il K l H' R v:=by obtain ⟨q,a,b,c⟩:=h;exact ⟨q,a,b,c.same s⟩
theorem Il.upd {ys zs:List V} (h:Il K l H R v) (g:H l=some (.lst ys)):Il K l (upd H l (.lst zs)) R v:=by obtain ⟨q,a,b,c⟩:=h;exact ⟨q,a,b,c.updL g off_ne b⟩
def Ie (mv pt:List (List Rat)) (u:Nat):List (List (List Rat)):=(List.range u).map fun s=>pt.map (gX mv s)
theorem CS:Ie mv pt (u+1)=Ie mv pt u++[pt.map (gX mv u)]:=by unfold Ie;rw[AG,fh];rfl
theorem uM:∀u,(Ie mv pt u).flatten=kry mv pt u
 | 0=>rfl
 | u+1=>by
  have e:Ie mv pt (u+1)=pt :: (Ie mv pt u).map (List.map (rd mv)):=by
   unfold Ie;rw[List.range_succ_eq_map,hJ,uX];congr 1
   ·exact xt pt
   ·rw[uX];refine ux fun s _=>?_
    show pt.map (gX mv (s+1))=(pt.map (gX mv s)).map (rd mv)
    rw[uX];rfl
  rw[e,gW,<- List.map_flatten,uM u];rfl
theorem Ol {s:Nat} {xs:List Rat} (h:xs∈pt.map (gX mv s)):xs∈kry mv pt (s+1):=by
 rw[<- uM,CS,fu];exact bR _ (by simpa using h)
theorem sQ.fitP {a c s:Nat} (F:sQ mv pt a c) (wm:∀xs∈mv,xs.length=mv.length) (wp:∀xs∈pt,xs.length=mv.length) (hs:s+1<=mv.length):∀xs∈mv,∀r∈pt.map (gX mv s),yg xs r:=fun xs hx r hr=>by
 obtain ⟨M,V,M0,Ma,hV,fm,fp,a3,c3,e14,_⟩:=F;have f:=JO rfl wm wp hV fm fp (s+1) r (Ol hr);have V1:V<=2^c:=ah (cM _ (by lia)) hV;have e1:(s+1)*(a+c)<=mv.length*(a+c):=aA _ hs;have e2:mv.length*(a+c)+4<=mv.length*(mv.length*(a+c)+4):=cM _ (by lia);have e3:(s+1)*(a+c)=a*(s+1)+c*(s+1):=by rw[gU,bU,bU c]
 refine ⟨a,c,a*(s+1),c*(s+1),⟨M,V,M0,Ma,V1,fm xs hx⟩,⟨M^(s+1),2^(c*(s+1)),gR M0,?_,av _,f⟩,by lia⟩;exact ah (d7 Ma _) (by rw[<- oN];exact av _)
end
def IZ (K:PySem.W.Frag) (C:Addr):Sp:=fun vs H Q _=>∃(x:Addr) (u a c:Nat) (H0:Hp) (mv pt lk:List (List Rat)),vs=[.ref x,.int u]/\u<=mv.length/\oH K H0 H C x mv pt lk/\jq mv pt lk/\sQ mv pt a c /\
 ∀r us H',H r=none->aL H H'->H' r=some (.lst us)->Paired (Il K r H') (Ie mv pt u) us->Q (.ref r) H'
def IW (K:PySem.W.Frag):Sp:=fun vs H Q _=>∃(p:Addr) (xs:List V) (Rs:List (List (List Rat))),vs=[.ref p]/\H p=some (.lst xs)/\Paired (Il K p H) Rs xs/\Rs.flatten.length<=1000 /\
 ∀r H0 H',H r=none->aL H H'->bO K H0 H' r Rs.flatten->Q (.ref r) H'
def KZ (K:PySem.W.Frag):Sp:=fun vs H Q _=>∃(p:Addr) (u k:Nat) (w:List Rat),vs=[.ref p,.int u,.int k]/\cR K H p w/\w.length=u*k/\u*k<=1000/\u<=1000/\k<=1000 /\
 ∀r H',H r=none->aL H H'->bO K H H' r (yO w u k)->Q (.ref r) H'
def IQ (K:PySem.W.Frag) (C:Addr):Sp:=fun vs H Q _=>∃(x:Addr) (T:Nat) (H0:Hp) (mv pt lk:List (List Rat)),vs=[.ref x,.int T]/\T<=100/\oH K H0 H C x mv pt lk/\jq mv pt lk /\
 ∀r H',H r=none->aL H H'->bO K H H' r (List.replicate T (List.replicate pt.length 0))->Q (.ref r) H'
def IU (K:PySem.W.Frag) (C:Addr):Sp:=fun vs H Q _=>∃(x s g:Addr) (T:Nat) (H0:Hp) (mv pt lk:List (List Rat)) (st go:List Rat),vs=[.ref x,.ref s,.ref g,.int T]/\T<=99/\oH K H0 H C x mv pt lk/\jq mv pt lk/\D9 mv pt lk/\cR K H s st/\st.length=mv.length/\cR K H g go/\go.length=mv.length/\D6 mv pt st (List.replicate T (List.replicate pt.length 0))/\(∀x∈go,uf x) /\
 ∀r H',H r=none->aL H H'->cR K H' r (mW mv T st go)->Q (.ref r) H'
structure PN (mv pt:List (List Rat)) (L:List Rat) (D W0 E W1:Nat):Prop where
 d0:0 < D
 e0:0 < E
 w0:1<=W0
 w1:1<=W1
 tk:∀u,u<=mv.length->∀xs∈kry mv pt u,∀x∈xs,Tp D W0 x
 tl:∀x∈L,Tp E W1 x
 de:D*E<=2^4300
 sw:∃w,W0*E+W1*D+D*E<=2^w/\w<=4300/\(mv.length+1)*(w+4)<=8900
theorem PN.join {mv pt:List (List Rat)} {L:List Rat} {D W0 E W1:Nat} (F:PN mv pt L D W0 E W1) {rows:List (List Rat)} {due:List Rat} {n':Nat} (hd:due.length=rows.length) (h1:∀xs∈rows,∀x∈xs,Tp (D*E) (W0*E+W1*D+D*E) x) (h2:∀x∈due,Tp (D*E) (W0*E+W1*D+D*E) x) (n8:mv.length<=8) (hm:min rows.length n'<=mv.length+1):∃w,DX (dc rows due) n' w:=by
 obtain ⟨w,b1,b2,b3⟩:=F.sw;have:=bY F.d0 F.e0;refine ⟨w,D*E,W0*E+W1*D+D*E,bY F.d0 F.e0,F.de,by lia,b1,fun xs hx x hx'=>?_,b2,by rw[p8 hd];lia,by rw[p8 hd];exact ah (aA _ hm) b3⟩;unfold dc at hx;obtain ⟨i,hi,rfl⟩:=cz hx;rw[kz] at hx';rcases ax.mp hx' with z | z
 ·exact h1 _ (aT _) x z
 ·rw[bW.mp z];exact h2 _ (aT _)
theorem Tp.up {M W x:Nat} {q:Rat} (h:Tp M W q) (k:Nat) (hx:W*k<=x):Tp (M*k) x q:=by
 obtain ⟨z,e,b⟩:=h;exact ⟨z*k,by rw[eC,aQ,<- e,aM];grind,by rw[cF,bM];exact ah (aA _ b) hx⟩
theorem xP {mv:List (List Rat)} (wm:∀xs∈mv,xs.length=mv.length):∀t,gX mv t (List.replicate mv.length 0)=List.replicate mv.length 0
 | 0=>rfl
 | t+1=>by
  show rd mv (gX mv t _)=_
  rw[xP wm t];refine Ao (by rw[xR,aF]) fun c hc=>?_
  rw[xR] at hc;rw[Mz wm (by rw[aF]) hc,dG fun j _=>?_]
  ·rw[aa,cX,if_pos hc];rfl
  ·rw[aa,cX]
   split <;> exact ji _
section
variable {mv pt lk pus:List (List Rat)} {pr go:List Rat} {T:Nat}
theorem Pj (wm:∀xs∈mv,xs.length=mv.length) (lg:go.length=mv.length):mW mv T (List.replicate mv.length 0) go=go:=by
 unfold mW;rw[xP wm];refine Ao (by rw[ck,aF,lg,pU]) fun c hc=>?_
 rw[ck,aF,lg,pU] at hc;rw[Iu (by rw[aF,lg]) (by lia)];have:(List.replicate mv.length (0:Rat)).getD c 0=0:=by rw[aa,cX];split <;> rfl
 rw[this];grind
theorem cf0 (D:jq mv pt lk):D6 mv pt (List.replicate mv.length 0) (List.replicate T (List.replicate pt.length 0)):=fun k hk=>by
 rw[aF] at hk
 have e:BQ mv pt (List.replicate mv.length 0) (List.replicate T (List.replicate pt.length 0)) k=List.replicate mv.length 0:=by
  have:=Eh (T:=k) D (st:=List.replicate mv.length 0) (by rw[aF]);rw[xP D.mw] at this;refine Eq.trans ?_ this;unfold BQ;rw[List.take_replicate,List.take_replicate,nU hk,pU]
 refine ⟨1,1,by decide,cE,cE,fun x hx=>?_,fun xs hx x hx'=>?_⟩
 ·rw[e] at hx;rw[(di.mp hx).2];exact Fr.zero
 ·rw[(di.mp hx).2] at hx';rw[(di.mp hx').2];exact Fr.zero
end
structure Bd (mv pt:List (List Rat)) (M1 M2 V a1 a2 c:Nat):Prop where
 m1:0 < M1
 m2:0 < M2
 b1:M1<=2^a1
 b2:M2<=2^a2
 gm:GF M1 V mv
 gp:GF M2 V pt
 vc:(mv.length+4)*V<=2^c
section
variable {mv pt lk pus:List (List Rat)} {st pu go:List Rat} {M1 M2 V a1 a2 c N Np p t T ν:Nat}
theorem Bd.v1 (B:Bd mv pt M1 M2 V a1 a2 c):V<=2^c:=ah (cM _ (by lia)) B.vc
theorem Cv {M W:Nat} {x:Rat} (h0:0 < M) {a b:Nat} (h1:M<=2^a) (h2:W<=2^b) (hab:a+b<=3990) (h:Fr M W x):uf x:=by
 refine vG (Tp.of h (av _)) h0 (ah h1 (aj (by decide) (by lia))) ?_;refine ah (aE h2 h1) ?_;rw[<- aO];exact aj (by decide) (by lia)
end
section
variable {mv pt lk pus:List (List Rat)} {st pu go:List Rat} {M1 M2 V a1 a2 c N Np p t T ν k:Nat}
theorem Du {M a t N ν:Nat} (h:M<=2^a) (hN:N<=2^ν):M^t*N<=2^(a*t+ν):=by
 rw[aO,oN];exact aE (d7 h t) hN
def Qt (mv:List (List Rat)) (st:List Rat) (T:Nat):Prop:=∃M1 V a1 c N p ν,0 < M1/\M1<=2^a1/\GF M1 V mv/\(mv.length+4)*V<=2^c/\0 < N/\N<=2^ν/\(∀x∈st,Fr N (2^p) x)/\a1*(T+1)+ν+c*(T+1)+p<=3900
theorem NO (gm:GF M1 V mv) (wm:∀xs∈mv,xs.length=mv.length) (vc:(mv.length+4)*V<=2^c) (ls:st.length=mv.length) (hs:∀x∈st,Fr N (2^p) x):∀t,∀x∈gX mv t st,Fr (M1^t*N) (2^(c*t+p)) x:=by
 intro t
 induction t with
 | zero =>
  intro x hx;rw[Nat.pow_zero,xo,Nat.mul_zero,Nat.zero_add];exact hs x hx
 | succ t ih =>
  intro x hx;obtain ⟨row,hr,rfl⟩:=aD.mp (show x∈mv.map fun xs=>dW xs (gX mv t st) from hx);have f:=Fr.dot (gm row hr) ih;rw[<- cw,bU M1,<- fw] at f;refine f.mono ?_;rw[wm row hr,<- cw,show c*(t+1)+p=c+(c*t+p) by rw[gU];lia,aO 2 c];exact aA _ (ah (aA V (show mv.length<=mv.length+4 by lia)) vc)
theorem Qt.fit (h:Qt mv st T) (wm:∀xs∈mv,xs.length=mv.length) (ls:st.length=mv.length) (ht:t<=T):(∀xs∈mv,yg xs (gX mv t st))/\∀x∈gX mv t st,uf x:=by
 obtain ⟨M1,V,a1,c,N,p,ν,m0,m1,gm,vc,N0,hN,hs,sz⟩:=h;have f:=NO gm wm vc ls hs t;have V1:V<=2^c:=ah (cM _ (by lia)) vc;have e1:a1*t<=a1*T:=aP _ ht;have e2:c*t<=c*T:=aP _ ht;rw[gU,gU,Nat.mul_one,Nat.mul_one] at sz;exact ⟨fun xs hx=>⟨a1,c,a1*t+ν,c*t+p,⟨M1,V,m0,m1,V1,gm xs hx⟩,⟨M1^t*N,2^(c*t+p),bY (gR m0) N0,Du m1 hN,av _,f⟩,by lia⟩,fun x hx=>Cv (bY (gR m0) N0) (Du m1 hN) (av _) (by lia) (f x hx)⟩
def P6 (mv pt:List (List Rat)) (T:Nat):Prop:=∃M1 M2 V a1 a2 c,Bd mv pt M1 M2 V a1 a2 c/\a1*(T+1)+a2+c*(T+2)<=3900
theorem P6.row (h:P6 mv pt T) (wm:∀xs∈mv,xs.length=mv.length) (wp:∀xs∈pt,xs.length=mv.length):∀xs∈pt,Qt mv xs T:=fun xs hx=>by
 obtain ⟨M1,M2,V,a1,a2,c,B,sz⟩:=h;refine ⟨M1,V,a1,c,M2,c,a2,B.m1,B.b1,B.gm,B.vc,B.m2,B.b2,fun x hx'=>(B.gp xs hx x hx').mono B.v1,?_⟩;rw[gU c T 2] at sz;rw[gU c T 1]
 lia
end
section
variable {X:Cx}
end
def Mi (v:Nat):Rat:=⟨1,v+1,Nat.succ_ne_zero v,by simp⟩
theorem Mh {v:Nat} (h:v < 3):Fr 6 1 (Mi v):=by
 have e:(Mi v).num.natAbs<=1:=av _;have f:=Fr.own (Mi v) e
 have d:(Mi v).den∣6:=by
  show v+1∣6
  rcases (show v=0\/v=1\/v=2 by lia) with rfl | rfl | rfl <;> decide
 exact f.dvd d
theorem JC (ws vs:List V) (M1 M2 M3:Nat):∃μ:V->Nat,(∀x∈ws,μ x=M2)/\(∀x∈vs,x∉ws->μ x=M3)/\(∀x,x∉ws->x∉vs->μ x=M1)/\∀x,μ x=M1\/μ x=M2\/μ x=M3:=by
 classical
 refine ⟨fun x=>if x∈ws then M2 else if x∈vs then M3 else M1,fun x h=>if_pos h,fun x h h'=>?_,fun x h h'=>?_,fun x=>?_⟩
 ·show (if x∈ws then M2 else if x∈vs then M3 else M1)=M3
  rw[if_neg h',if_pos h]
 ·show (if x∈ws then M2 else if x∈vs then M3 else M1)=M1
  rw[if_neg h,if_neg h']
 ·show (if x∈ws then M2 else if x∈vs then M3 else M1)=M1\/(if x∈ws then M2 else if x∈vs then M3 else M1)=M2\/(if x∈ws then M2 else if x∈vs then M3 else M1)=M3
  by_cases h:x∈ws
  ·rw[if_pos h];exact .inr (.inl rfl)
  ·rw[if_neg h];by_cases h':x∈vs
   ·rw[if_pos h'];exact .inr (.inr rfl)
   ·rw[if_neg h'];exact .inl rfl
theorem ks.apart {K:PySem.W.Frag} {A:Addr->Prop} {H:Hp} {n:Nat} {C:V->Rat->Prop} {m p l b q0:Addr} {us ws vs:List V} (h:ks K A H n C m p l b q0 us ws vs):(∀x∈us,x∉ws/\x∉vs)/\∀x∈vs,x∉ws:=by
 obtain ⟨n1,n2,n3⟩:=du.mp h.nd;obtain ⟨n4,n5,n6⟩:=du.mp n1;exact ⟨fun x hx=>⟨fun z=>n3 x (ax.mpr (.inl hx)) x z rfl,fun z=>n6 x hx x z rfl⟩,fun x hx z=>n3 x (ax.mpr (.inr hx)) x z rfl⟩
theorem ks.fr3 {K:PySem.W.Frag} {A:Addr->Prop} {H:Hp} {n c:Nat} {m p l b q0:Addr} {us ws vs:List V} (h:ks K A H n (fun _=>Dr (2^c)) m p l b q0 us ws vs):∃M1 M2 M3,0 < M1/\0 < M2/\0 < M3/\M1<=2^(c*(n*n))/\M2<=2^(c*(ws.length*n))/\M3<=2^(c*(vs.length*n))/\(∀x∈us,fN K A H n (Fr M1 (2^c)) x)/\(∀x∈ws,fN K A H n (Fr M2 (2^c)) x)/\∀x∈vs,fN K A H n (Fr M3 (2^c)) x:=by
 have one:∀l:List V,(∀x∈l,x∈us++vs++ws)->∃M,0 < M/\M<=2^(c*(l.length*n))/\∀x∈l,fN K A H n (Fr M (2^c)) x:=fun l hl=>by
  obtain ⟨ra,pa,la,ha⟩:=zK fun x hx=>h.row x (hl x hx)
  obtain ⟨M,m0,m1,m2⟩:=Ld (c:=c) (n:=n) (rows:=ra) ha;exact ⟨M,m0,by rw[la] at m1;exact m1,EB pa fun qs hq=>⟨(ha qs hq).1,m2 qs hq⟩⟩
 obtain ⟨M1,a1,a2,a3⟩:=one us fun x hx=>by simp [hx]
 obtain ⟨M2,b1,b2,b3⟩:=one ws fun x hx=>by simp [hx]
 obtain ⟨M3,c1,c2,c3⟩:=one vs fun x hx=>by simp [hx]
 rw[h.lm] at a2;exact ⟨M1,M2,M3,a1,b1,c1,a2,b2,c2,a3,b3,c3⟩
def GP (K:PySem.W.Frag):Sp:=fun xs H Q _=>∃(b m p l q0:Addr) (n V1:Nat) (μ:V->Nat) (A:Addr->Prop) (us ws vs:List V),xs=[.ref b,.ref m,.ref p,.ref l]/\D3 A m p l b q0/\ks K A H n (fun x=>Fr (μ x) V1) m p l b q0 us ws vs/\n<=8/\ws.length<=4/\vs.length<=4/\(∀x,0 < μ x)/\(∀x,μ x<=2^800)/\(∃M,∀x,x∉ws->x∉vs->μ x=M)/\V1<=2^20/\(∀q,H q=none->A q) /\
 ∀r us' H',H' r=some (.tup [.ref m,.ref p,.ref l])->ks K A H' n (fun x=>Fr (μ x) (9^3*V1)) m p l b q0 us' ws vs->iU A b m H H'->Q (.ref r) H'
def Qr (n i o w c:Nat) (mv pt lk:List (List Rat)):Prop:=∃M1 M2 M3 V1:Nat,0 < M1/\0 < M2/\0 < M3/\GF M1 V1 mv/\GF M2 V1 pt/\GF M3 V1 lk/\((w<=9/\M1=2520/\M2=2520/\M3=2520/\V1=9^3*9)\/(9 < w/\M1<=2^(c*(n*n))/\M2<=2^(c*(i*n))/\M3<=2^(c*(o*n))/\V1=9^3*2^c))
def GK (K:PySem.W.Frag):Sp:=fun vs H Q _=>∃(b:Addr) (n i o w c:Nat),vs=[.ref b,.int n,.int i,.int o,.int w]/\ig H b/\n<=8/\i<=4/\o<=4/\1<=w/\w<=1000000/\max w 6<=2^c/\c<=20/\c*((n+i+o)*n)<=800 /\
 ∀r mv pt lk H',ko K H H' r mv pt lk->mv.length=n->pt.length=i->lk.length=o->jq mv pt lk->Qr n i o w c mv pt lk->ig H' b->cV b H H'->Q (.ref r) H'
def Rg (mv pt:List (List Rat)) (w:Nat):Prop:=(w<=9/\Bd mv pt 1 1 (9^3) 0 0 14)\/(w<=9/\mv.length<=5/\Bd mv pt 2520 2520 (9^3*9) 12 12 16)\/(w=1000/\mv.length<=2/\∃M1 M2,Bd mv pt M1 M2 (9^3*2^20) 80 160 33)
theorem EW {M V:Nat} {l:List (List Rat)} (h:GF M V l) (k:Nat):GF (k*M) V l:=fun xs hx x hx'=>(h xs hx x hx').scaleL k
theorem Qr.n {n i o w c:Nat} {mv pt lk:List (List Rat)} (h:Qr n i o w c mv pt lk):PtF n i o w c mv pt lk:=by
 obtain ⟨M1,M2,M3,V1,a1,a2,a3,f1,f2,f3,hc⟩:=h;rcases hc with ⟨w9,rfl,rfl,rfl,e⟩ | ⟨w9,e1,e2,e3,e⟩
 ·exact ⟨2520,V1,by decide,f1,f2,f3,.inl ⟨w9,rfl,e⟩⟩
 ·refine ⟨M1*M2*M3,V1,bY (bY a1 a2) a3,?_,?_,?_,.inr ⟨w9,?_,e⟩⟩
  ·have:=EW f1 (M2*M3);rwa [show M2*M3*M1=M1*M2*M3 by rw[bU (M2*M3),cw]] at this
  ·have:=EW f2 (M1*M3);rwa [show M1*M3*M2=M1*M2*M3 by rw[cw,bU M3,cw]] at this
  ·exact EW f3 (M1*M2)
  ·refine ah (aE (aE e1 e2) e3) ?_;rw[<- aO,<- aO,show c*((n+i+o)*n)=c*(n*n)+c*(i*n)+c*(o*n) by rw[Nat.add_mul,Nat.add_mul,gU,gU]];exact av _
section
variable {mv pt lk pus:List (List Rat)} {st pu go pr:List Rat} {M1 M2 V a1 a2 c B b g p t T w:Nat}
theorem Bd.kry (X:Bd mv pt M1 M2 V a1 a2 c) (D:jq mv pt lk):∀t,∀xs∈kry mv pt t,∀x∈xs,Fr (M1^(t - 1)*M2) (2^(c*t)) x:=by
 intro t
 induction t with
 | zero=>intro xs hx;exact nomatch hx
 | succ t ih =>
  intro xs hx x hx';rcases ax.mp (show xs∈pt++(L2.kry mv pt t).map (rd mv) from hx) with hx | hx
  ·refine Fr.up (X.gp xs hx x hx') (Im _ _) (ah X.v1 (aj (by decide) ?_));exact cJ _ (by lia)
  ·obtain ⟨ys,hy,rfl⟩:=aD.mp hx;obtain ⟨row,hr,rfl⟩:=aD.mp (show x∈mv.map fun zs=>dW zs ys from hx');rcases t with _ | t
   ·exact nomatch hy
   have f:=Fr.dot (X.gm row hr) (ih ys hy);rw[show M1*(M1^(t+1 - 1)*M2)=M1^(t+1+1 - 1)*M2 by rw[<- cw,show t+1 - 1=t by lia,show t+1+1 - 1=t+1 by lia,fw,bU M1]] at f;refine f.mono ?_;rw[D.mw row hr,<- cw,show c*(t+1+1)=c+c*(t+1) by rw[gU c (t+1)];lia,aO 2 c];exact aA _ (ah (aA V (show mv.length<=mv.length+4 by lia)) X.vc)
end
section
variable {mv pt lk pus pus':List (List Rat)} {st st' pu go pr:List Rat} {M1 M2 V a1 a2 c B b1 b2 g p t T w:Nat}
theorem DJ:∀(xs:List Rat) (k:Nat),dW xs (List.replicate k 0)=0
 | [],_=>by simp [dW]
 | x :: xs,0=>by simp [dW]
 | x :: xs,k+1=>by
  have:=DJ xs k;simp only[dW,iS,List.zipWith_cons_cons,List.sum_cons] at this ⊢;rw[this];grind
theorem zQ:∀t,gX mv t (List.replicate mv.length 0)=List.replicate mv.length 0
 | 0=>rfl
 | t+1=>by
  show (mv.map fun xs=>dW xs (gX mv t (List.replicate mv.length 0)))=_
  rw[zQ t]
  have:∀xs:List Rat,dW xs (List.replicate mv.length (0:Rat))=0:=fun xs=>by
   exact DJ xs _
  rw[ux fun xs _=>this xs,AH]
end
open PySem.MeetsSeq
section
variable {rows rows0 fs l2 R Hd:List (List Rat)} {hd:List Rat} {n P:Nat} {ps psd:List Nat}
def P5 (rows:List (List Rat)) (n S:Nat):Prop:=2*S<=3990/\∃J:Nat->List (List Rat)->List Nat->Prop,J 0 rows []/\(∀P rs ps,J P rs ps->(∀i,ps.length<=i->i < rs.length->cv rs i P=0)->J (P+1) rs ps) /\
 (∀P fs ls ps t,J P (fs++ls) ps->fs.length=ps.length->t < ls.length->P < n->(ls.getD t []).getD P 0≠0->(∀j,j < t->cv ls j P=0)->J (P+1) ((fs.map (Bg P (xu P (ls.getD t [])) )++[xu P (ls.getD t [])])++(ls.eraseIdx t).map (Bg P (xu P (ls.getD t [])))) (ps++[P])) /\
 (∀P rs ps,J P rs ps->BE rows n P rs ps)/\∀P rs ps,J P rs ps->P<=n->∀i,i < rows.length->∃D:Nat,0 < D/\D<=2^S/\∀c,Tp D (2^S) (cv rs i c)
theorem Qs.lwt {S:Nat} (h:Qs rows n S):P5 rows n S:=by
 obtain ⟨a,J,j0,j1,j2,j3,j4⟩:=h;exact ⟨a,J,j0,j1,fun P fs ls ps t h1 h2 h3 h4 h5 _=>j2 P fs ls ps t h1 h2 h3 h4 h5,j3,j4⟩
end
structure UnF (A lk:List (List Rat)) (e:Nat):Prop where
 n8:A.length<=8
 wm:∀xs∈A,xs.length=A.length
 wp:∀xs∈lk,xs.length=A.length
 kf:∃a c,sQ A lk a c/\A.length*((A.length - 1)*(a+c)+4)<=900/\∀p,p<=A.length->(A.length - p)*(p*((A.length - 1)*(a+c)+4)+4)<=e
 e1:e<=1650
def Qp (n w T:Nat):Prop:=T<=12/\(9 < w->T<=3)/\(3 < n->n<=5->T<=5)/\(n=3->T<=6)
structure V51 (A lk:List (List Rat)) (T e:Nat):Prop where
 un:UnF A lk e
 ad:P6 A lk T
 lw:∃S,P5 (kry A lk T) A.length S
 ft:∃k j,2*e+k+j<=3930/\∀xs∈kry A lk T,oJ k j xs
section
variable {A lk pk:List (List Rat)} {T w e:Nat}
theorem DS {M1 M2 Vx a1 a2 c n:Nat} (B:Bd A lk M1 M2 Vx a1 a2 c) (D:jq A lk pk) (hn:A.length<=n) (n15:n<=15) (sz:2*(n*(c*T+(a1*(T - 1)+a2)+4)+(a1*(T - 1)+a2))<=3990):(∃S,P5 (kry A lk T) A.length S)/\∀xs∈kry A lk T,oJ (a1*(T - 1)+a2) (c*T) xs:=by
 have f:=B.kry D T;have M0:0 < M1^(T - 1)*M2:=bY (gR B.m1) B.m2
 have hM:M1^(T - 1)*M2<=2^(a1*(T - 1)+a2):=by
  rw[aO];exact aE (ah (d7 B.b1 _) (by rw[<- oN];exact av _)) B.b2
 refine ⟨⟨_,(MP.lws (w:=c*T+(a1*(T - 1)+a2)) (a:=a1*(T - 1)+a2) ⟨_,2^(c*T+(a1*(T - 1)+a2)),M0,hM,cE,av _,fun xs hx x hx'=>Tp.of (f xs hx x hx') (by rw[aO];exact aP _ hM),by lia,?_⟩ (fe rfl D.pw T)).lwt⟩,fun xs hx=>⟨_,_,M0,hM,av _,f xs hx⟩⟩;have:min (kry A lk T).length A.length*(c*T+(a1*(T - 1)+a2)+4)<=n*(c*T+(a1*(T - 1)+a2)+4):=aA _ (by lia)
 lia
theorem Fv (G:Rg A lk w) (D:jq A lk pk) (St:Qp A.length w T):∃e,V51 A lk T e:=by
 obtain ⟨s1,s2,s3,s4⟩:=St;have tri:∀{n N:Nat} (E e:Nat),n<=N->(∀p,p<=N->(N - p)*(p*E+4)<=e)->∀p,p<=n->(n - p)*(p*E+4)<=e:=fun E e hn h p hp=>ah (aA _ (by lia)) (h p (by lia))
 rcases G with ⟨_,B⟩ | ⟨_,n5,B⟩ | ⟨w1,n2,M1,M2,B⟩
 ·obtain ⟨l1,l2⟩:=DS (T:=T) (n:=8) B D D.n8 (by decide) (by lia);refine ⟨1650,⟨D.n8,D.mw,D.pw,⟨0,14,Cr (M:=1) (V1:=9^3) (n0:=8) (by decide) (by decide) D.n8 (by decide) B.gm B.gp (by decide),?_,fun p hp=>?_⟩,by decide⟩,⟨_,_,_,_,_,_,B,by lia⟩,l1,⟨_,_,by lia,l2⟩⟩
  ·exact ah (aE D.n8 (show (A.length - 1)*(0+14)+4<=102 by have:=D.n8;lia)) (by decide)
  ·have:=tri 102 1650 D.n8 (by decide) p hp;exact ah (aP _ (BF (aP _ (by have:=D.n8;lia)) _)) this
 ·obtain ⟨l1,l2⟩:(∃S,P5 (kry A lk T) A.length S)/\∀xs∈kry A lk T,oJ (12*(T - 1)+12) (16*T) xs:=by
   rcases (show A.length<=2\/A.length=3\/3 < A.length by lia) with h | h | h
   ·exact DS (n:=2) B D h (by decide) (by lia)
   ·have:=s4 h;exact DS (n:=3) B D (by lia) (by decide) (by lia)
   ·have:=s3 h n5;exact DS (n:=5) B D n5 (by decide) (by lia)
  refine ⟨720,⟨D.n8,D.mw,D.pw,⟨12,16,Cr (M:=2520) (V1:=9^3*9) (n0:=5) (by decide) (by decide) n5 (by decide) B.gm B.gp (by decide),?_,fun p hp=>?_⟩,by decide⟩,⟨_,_,_,_,_,_,B,by lia⟩,l1,⟨_,_,by lia,l2⟩⟩
  ·exact ah (aE n5 (show (A.length - 1)*(12+16)+4<=116 by lia)) (by decide)
  ·have:=tri 116 720 n5 (by decide) p hp;exact ah (aP _ (BF (aP _ (by lia)) _)) this
 ·have t3:=s2 (by lia);obtain ⟨l1,l2⟩:=DS (T:=T) (n:=2) B D n2 (by decide) (by lia);have fm:GF (M1*M2) (9^3*2^20) A:=fun xs hx x hx'=>(B.gm xs hx x hx').scale M2
  have fp:GF (M1*M2) (9^3*2^20) lk:=fun xs hx x hx'=>(B.gp xs hx x hx').scaleL M1
  have hM:M1*M2<=2^240:=ah (aE B.b1 B.b2) (by rw[<- aO];exact av _);refine ⟨600,⟨D.n8,D.mw,D.pw,⟨240,32,Cr (n0:=2) (bY B.m1 B.m2) hM n2 (by decide) fm fp (by decide),?_,fun p hp=>?_⟩,by decide⟩,⟨_,_,_,_,_,_,B,by lia⟩,l1,⟨_,_,by lia,l2⟩⟩
  ·exact ah (aE n2 (show (A.length - 1)*(240+32)+4<=276 by lia)) (by decide)
  ·have:=tri 276 600 n2 (by decide) p hp;exact ah (aP _ (BF (aP _ (by lia)) _)) this
theorem yg.symm {xs ys:List Rat} (h:yg xs ys):yg ys xs:=by obtain ⟨k,j,k',j',a,b,c⟩:=h;exact ⟨k',j',k,j,b,a,by lia⟩
end
def IT (K:PySem.W.Frag):Sp:=fun vs H Q _=>∃(r:Addr) (T:Nat) (H0:Hp) (mv pt lk:List (List Rat)),vs=[.ref r,.int T]/\T<=12/\ko K H0 H r mv pt lk/\jq mv pt lk/\P6 (bC mv mv.length) lk T /\
 ∀q H',H q=none->aL H H'->bO K H H' q (kry (bC mv mv.length) lk T)->Q (.ref q) H'
def El:Sp:=fun vs H Q _=>∃(b:Addr) (n w:Nat),vs=[.ref b,.int n,.int w]/\ig H b/\n<=8/\∀(T:Nat) H',Qp n w T->ig H' b->cV b H H'->Q (.int T) H'
section
variable {K:PySem.W.Frag} {g:TG} {tf:TT} {te:TE} {Q:VK} {σ₀:St} {H:Hp}
theorem E4 {n:Nat} (f:Nat->List Rat) (hl:n<=1000)
  (hs:∀(i:Nat) H' NY NN,i < n->aL H H'->(∀q H2,aL H' H2->H' q=none->cR K H2 q (f i)->NY (.ref q) H2)->sU σ₀ g tf te (.int i) H' NY NN)
  (hd:∀ys H' p,H p=none->aL H H'->H' p=some (.lst ys)->ys.Nodup->Paired (dq K H H') ((List.range n).map f) ys->V.ref p∉ys->Q (.ref p) H'):uw (D4 0 n) σ₀ g tf te Q H:=by
 refine rJ (fun i ys H'=>aL H H'/\Paired (dq K H H') ((List.range i).map f) ys/\ys.Nodup/\∀y∈ys,∃q,y=V.ref q/\H' q≠none) (bp (bK (by lia))) ⟨aL.refl _,.nil,BH,(fun _ h=>nomatch h)⟩ ?_ ?_
 ·rintro i ys H' hi hlen ⟨s,pr,nd,ne⟩;rw[zm];refine hs i H' _ _ hi s fun q H2 s2 nq R=>⟨s.trans s2,?_,?_,fun y hy=>?_⟩
  ·rw[AG,fh];exact b6 (Paired.imp' (fun _ _ z=>dq.same z s2) pr) (.cons ⟨q,rfl,s.none nq,R⟩ .nil)
  ·refine du.mpr ⟨nd,by simp,fun a ha b hb z=>?_⟩;rw[bW.mp hb] at z;obtain ⟨q',e,h⟩:=ne a ha;rw[z] at e;cases e;exact h nq
  ·rcases ax.mp hy with hy | hy
   ·obtain ⟨q',e,h⟩:=ne y hy;exact ⟨q',e,fun z=>h (s2.none z)⟩
   ·obtain ⟨_,gg,_⟩:=R;exact ⟨q,bW.mp hy,by rw[gg];exact fun z=>nomatch z⟩
 ·rintro ys H' hy ⟨s,pr,nd,ne⟩ p hp;refine hd ys _ p (s.none hp) (s.trans (aL.new hp)) aK nd (Paired.imp' (fun _ _ z=>dq.same z (aL.new hp)) pr) fun z=>?_
  obtain ⟨q,e,h⟩:=ne _ z;cases e;exact h hp
end
def Er (K:PySem.W.Frag):Sp:=fun vs H Q _=>∃b:Addr,vs=[.ref b]/\ig H b /\
 ∀t r (w:Nat) mv pt lk H',H' t=some (.tup [.ref r,.int w])->ko K H H' r mv pt lk->jq mv pt lk->D9 mv pt lk->Rg (bC mv mv.length) lk w->1<=w->w<=1000->ig H' b->cV b H H'->Q (.ref t) H'
theorem D9.turn {mv pt lk:List (List Rat)} (h:D9 mv pt lk):D9 (bC mv mv.length) lk pt:=by
 obtain ⟨M,V,a,b,c,d,e,f⟩:=h;exact ⟨M,V,a,b,c,yS d,f,e⟩
def OD (mv pt:List (List Rat)) (T u:Nat):Prop:=(∃R ps ps',cu (kry mv pt u) mv.length R ps/\cu (kry mv pt T) mv.length R ps')/\∀i,i < u->∀R ps ps',cu (kry mv pt i) mv.length R ps->¬cu (kry mv pt T) mv.length R ps'
def Mf (mv pt:List (List Rat)) (T:Nat) (L:List Rat) (pus:List (List Rat)):Prop:=∃u R ps,OD mv pt T u/\cu (dc (bC (kry mv pt u) mv.length) L) ((kry mv pt u).length+1) R ps/\(kry mv pt u).length∉ps/\pus=zN (fH R ps (kry mv pt u).length) T u pt.length
def Ou (mv pt:List (List Rat)) (T:Nat) (L pr:List Rat):Prop:=∃u R ps R' ps',OD mv pt T u/\cu (dc (bC (kry mv pt u) mv.length) L) ((kry mv pt u).length+1) R ps/\(kry mv pt u).length∈ps/\cu (dc (kry mv pt u++[L]) (List.replicate (kry mv pt u).length 0++[1])) (mv.length+1) R' ps'/\pr=fH R' ps' mv.length
section
variable {mv pt:List (List Rat)} {T u u':Nat} {L pr pr':List Rat} {pus pus':List (List Rat)} {Rs:List (List (List Rat))}
theorem OD.uniq (h:OD mv pt T u) (h':OD mv pt T u'):u=u':=by
 obtain ⟨⟨R,ps,ps2,a,b⟩,c⟩:=h;obtain ⟨⟨R',ps',ps2',a',b'⟩,c'⟩:=h';rcases kx u u' with h | h | h
 ·exact absurd b (c' u h _ _ _ a)
 ·exact h
 ·exact absurd b' (c u' h _ _ _ a')
theorem Mf.uniq (h:Mf mv pt T L pus) (h':Mf mv pt T L pus'):pus=pus':=by
 obtain ⟨u,R,ps,a,b,_,rfl⟩:=h;obtain ⟨u',R',ps',a',b',_,rfl⟩:=h';cases a.uniq a';obtain ⟨rfl,rfl⟩:=b.same b';rfl
theorem Ou.uniq (h:Ou mv pt T L pr) (h':Ou mv pt T L pr'):pr=pr':=by
 obtain ⟨u,R,ps,R2,ps2,a,b,_,c,rfl⟩:=h;obtain ⟨u',R',ps',R2',ps2',a',b',_,c',rfl⟩:=h';cases a.uniq a';obtain ⟨rfl,rfl⟩:=c.same c';rfl
theorem Mf.not (h:Mf mv pt T L pus) (h':Ou mv pt T L pr):False:=by
 obtain ⟨u,R,ps,a,b,n,rfl⟩:=h;obtain ⟨u',R',ps',R2',ps2',a',b',m,c',rfl⟩:=h';cases a.uniq a';obtain ⟨rfl,rfl⟩:=b.same b';exact n m
theorem ug.lt (h:ug mv pt Rs):∀(k i:Nat) (R R':List (List Rat)),Rs[i]?=some R->Rs[i+1+k]?=some R'->R.length < R'.length
 | 0,i,R,R',a,b=>h.up i R R' a b
 | k+1,i,R,R',a,b=>by
  have hk:i+1+k < Rs.length:=by have:=(aH.mp b).1;lia
  have e:Rs[i+1+k]?=some Rs[i+1+k]:=ag hk;exact Nat.lt_trans (h.lt k i R _ a e) (h.up (i+1+k) _ R' e b)
theorem ug.cmu (h:ug mv pt Rs) {R:List (List Rat)} {psT:List Nat} (eR:Rs[u]?=some R) (RRT:cu (kry mv pt T) mv.length R psT):OD mv pt T u:=by
 obtain ⟨ps,RRu⟩:=h.rr u R eR;refine ⟨⟨R,ps,psT,RRu,RRT⟩,fun i hi R1 ps1 ps2 a b=>?_⟩;have hu:=(aH.mp eR).1;have ei:Rs[i]?=some (Rs[i]'(by lia)):=ag (by lia);obtain ⟨psi,RRi⟩:=h.rr i _ ei;have lt:=h.lt (u - i - 1) i _ R ei (by rw[show i+1+(u - i - 1)=u by lia];exact eR);have e1:=(RRi.same a).1;have e2:=(RRT.same b).1;rw[e1,e2] at lt;exact dZ _ lt
end
def IY (K:PySem.W.Frag) (C:Addr):Sp:=fun vs H Q _=>∃(x s g:Addr) (T a c D W0 E W1:Nat) (H0:Hp) (mv pt lk:List (List Rat)) (st go:List Rat),vs=[.ref x,.ref s,.ref g,.int T]/\T<=99/\oH K H0 H C x mv pt lk/\jq mv pt lk/\D9 mv pt lk/\sQ mv pt a c/\cR K H s st/\st.length=mv.length/\cR K H g go/\go.length=mv.length/\D6 mv pt st (List.replicate T (List.replicate pt.length 0))/\(∀x∈go,uf x)/\PN mv pt (mW mv T st go) D W0 E W1 /\
 (∀t p pus q H',H' t=some (.tup [.str (Str.ofString "puts"),.ref p])->H p=none->aL H H'->bO K H H' p pus->pus.length=T->(∀xs∈pus,xs.length=pt.length)->BQ mv pt st pus T=go->Mf mv pt T (mW mv T st go) pus->0 < q->q<=(16*W0)^mv.length->(∀xs∈pus,∀x∈xs,Tp (E*q) (D*(mv.length*(W1*(16*W0)^mv.length))) x)->Q (.ref t) H') /\
 (∀t p pr q H',H' t=some (.tup [.str (Str.ofString "never"),.ref p])->H p=none->aL H H'->cR K H' p pr->pr.length=mv.length->(∀xs∈kry mv pt T,dW xs pr=0)->dW pr (mW mv T st go)=1->Ou mv pt T (mW mv T st go) pr->0 < q->q<=(16*W0)^mv.length*(16*(W1+E))->(∀y∈pr,Tp q ((16*W0)^mv.length*(16*(W1+E))) y)->Q (.ref t) H')
def IL (K:PySem.W.Frag) (C:Addr):Sp:=fun vs H Q _=>∃(x g:Addr) (T a c D W0 E W1:Nat) (H0:Hp) (mv pt lk:List (List Rat)) (go:List Rat),vs=[.ref x,.ref g,.int T]/\T<=99/\oH K H0 H C x mv pt lk/\jq mv pt lk/\D9 mv pt lk/\sQ (bC mv mv.length) lk a c/\cR K H g go/\go.length=mv.length/\(∀x∈go,uf x)/\PN (bC mv mv.length) lk go D W0 E W1 /\
 (∀t p ws q H',H' t=some (.tup [.str (Str.ofString "from"),.ref p])->H p=none->aL H H'->bO K H H' p ws->ws.length=T->(∀xs∈ws,xs.length=lk.length)->BQ (bC mv mv.length) lk (List.replicate mv.length 0) ws.reverse T=go->Mf (bC mv mv.length) lk T go ws.reverse->0 < q->q<=(16*W0)^mv.length->(∀xs∈ws,∀x∈xs,Tp (E*q) (D*(mv.length*(W1*(16*W0)^mv.length))) x)->Q (.ref t) H') /\
 (∀t p pr q H',H' t=some (.tup [.str (Str.ofString "alike"),.ref p])->H p=none->aL H H'->cR K H' p pr->pr.length=mv.length->(∀xs∈kry (bC mv mv.length) lk T,dW xs pr=0)->dW pr go=1->Ou (bC mv mv.length) lk T go pr->0 < q->q<=(16*W0)^mv.length*(16*(W1+E))->(∀y∈pr,Tp q ((16*W0)^mv.length*(16*(W1+E))) y)->Q (.ref t) H')
def IM (K:PySem.W.Frag):Sp:=fun vs H Q E=>∃p q n,vs=[p,q,n]/\GD K [q,p,n] H Q E
def IV (K:PySem.W.Frag):Sp:=fun vs H Q _=>∃(p:Addr) (H0:Hp) (rows:List (List Rat)) (c:Nat),vs=[.ref p]/\bO K H0 H p rows/\rows.length<=100/\c<=100/\(∀xs∈rows,xs.length=c)/\∀r H',H r=none->aL H H'->cR K H' r rows.flatten->Q (.ref r) H'
def MS (d j:Nat) (go:List Rat):Prop:=∃E,0 < E/\E<=2^(d+22)/\∀z∈go,Fr E (2^(j+22)) z
structure Ik (A lk:List (List Rat)) (T:Nat) (go:List Rat) (a c D W0 E W1 M d j e g x y v:Nat):Prop where
 kf:sQ A lk a c
 m0:0 < M
 m1:M<=2^d
 rows:∀xs∈kry A lk T,∀z∈xs,Fr M (2^j) z
 co:PN A lk go D W0 E W1
 e0:0 < E
 e1:E<=2^e
 gf:∀z∈go,Fr E (2^g) z
 qx:(16*W0)^A.length<=2^x
 wy:W1+E<=2^y
 dv:D*(A.length*W1)<=2^v
 s1:d+e+x<=3990
 s2:7+(j+d)+(v+x)<=3990
 s3:2*(x+4+y)+d+j<=3930
 s4:2*(x+4+y)+e+g<=3930
def PB (N T a1 a2 c:Nat):Prop :=
 let dd:=a1*(N - 1)+a2
 let d:=a1*(T - 1)+a2
 let x:=N*(4+(c*N+dd))
 let y:=c*T+22+(d+22)+1
 let w:=(c*N+dd)+(d+22)+(c*T+22+(d+22))+dd+2
 d+(d+22)+x<=3990/\7+(c*T+d)+(dd+3+(c*T+22+(d+22))+x)<=3990/\2*(x+4+y)+d+c*T<=3930/\2*(x+4+y)+(d+22)+(c*T+22)<=3930/\w<=4300/\(N+1)*(w+4)<=8900
section
variable {A lk pk:List (List Rat)} {M1 M2 Vx a1 a2 c N T a k w t:Nat} {go:List Rat}
theorem Oj (B:Bd A lk M1 M2 Vx a1 a2 c) (D:jq A lk pk) (KF:sQ A lk a k) (hn:A.length<=N) (N1:1<=N) (Z:PB N T a1 a2 c) (h:MS (a1*(T - 1)+a2) (c*T) go) (ht:t<=T):∃a c D W0 E W1 M d j e g x y v,Ik A lk t go a c D W0 E W1 M d j e g x y v:=by
 obtain ⟨E,E0,E1,gf⟩:=h;obtain ⟨z1,z2,z3,z4,z5,z6⟩:=Z;have n8:A.length<=2^3:=D.n8
 have pw:∀{m p a r:Nat},m<=2^a->p<=2^r->∀i,m^i*p<=2^(a*i+r):=fun h1 h2 i=>by
  rw[aO];exact aE (ah (d7 h1 _) (by rw[<- oN];exact av _)) h2
 have D0:0 < M1^(N - 1)*M2:=bY (gR B.m1) B.m2;have D1:=pw B.b1 B.b2 (N - 1);have MT:=pw B.b1 B.b2 (T - 1)
 have kf:∀u m,u<=m->∀xs∈kry A lk u,∀x∈xs,Fr (M1^(m - 1)*M2) (2^(c*m)) x:=fun u m hu xs hx x hx' =>
  Fr.up (B.kry D u xs hx x hx') (Nat.mul_dvd_mul_right (Nat.pow_dvd_pow _ (by lia)) _) (aj (by decide) (aP _ hu))
 have W0:2^(c*N)*(M1^(N - 1)*M2)<=2^(c*N+(a1*(N - 1)+a2)):=by rw[aO];exact aP _ D1
 have W1:2^(c*T+22)*E<=2^(c*T+22+(a1*(T - 1)+a2+22)):=by rw[aO 2 (c*T+22)];exact aP _ E1
 generalize a1*(N - 1)+a2=dd at *
 generalize a1*(T - 1)+a2=d at *
 have q2:(16*(2^(c*N)*(M1^(N - 1)*M2)))^A.length<=2^(N*(4+(c*N+dd))):=by
  have e1:16*(2^(c*N)*(M1^(N - 1)*M2))<=2^(4+(c*N+dd)):=by rw[aO 2 4];exact aP _ W0
  refine ah (d7 e1 _) ?_;rw[<- oN,bU N];exact aj (by decide) (aP _ hn)
 have E2:E<=2^(c*T+22+(d+22)):=ah E1 (aj (by decide) (by lia));refine ⟨a,k,M1^(N - 1)*M2,2^(c*N)*(M1^(N - 1)*M2),E,2^(c*T+22)*E,M1^(T - 1)*M2,d,c*T,d+22,c*T+22,N*(4+(c*N+dd)),c*T+22+(d+22)+1,dd+3+(c*T+22+(d+22)),KF,bY (gR B.m1) B.m2,?_,kf t T ht,?_,E0,E1,gf,q2,?_,?_,z1,z2,z3,z4⟩
 ·exact MT
 ·refine ⟨D0,E0,bY (gR (by decide)) D0,bY (gR (by decide)) E0,fun u hu xs hx x hx'=>Tp.of (kf u N (by lia) xs hx x hx') (av _),fun x hx=>Tp.of (gf x hx) (av _),?_,⟨(c*N+dd)+(d+22)+(c*T+22+(d+22))+dd+2,?_,z5,?_⟩⟩
  ·refine ah (aE D1 E1) ?_;rw[<- aO];exact aj (by decide) (by lia)
  ·have S:∀{x y k j:Nat},x<=2^k->y<=2^j->k+j<=(c*N+dd)+(d+22)+(c*T+22+(d+22))+dd->x*y<=2^((c*N+dd)+(d+22)+(c*T+22+(d+22))+dd):=fun hx hy hk=>by
    refine ah (aE hx hy) ?_;rw[<- aO];exact aj (by decide) hk
   have s1:=S W0 E1 (by lia);have s2:=S W1 D1 (by lia);have s3:=S D1 E1 (by lia);rw[aO 2 ((c*N+dd)+(d+22)+(c*T+22+(d+22))+dd) 2];generalize 2^((c*N+dd)+(d+22)+(c*T+22+(d+22))+dd)=P at s1 s2 s3 ⊢
   lia
  ·exact ah (aA _ (by lia)) z6
 ·rw[aO 2 (c*T+22+(d+22)) 1];generalize 2^(c*T+22+(d+22))=P at W1 E2 ⊢;generalize 2^(c*T+22)*E=P' at W1 ⊢
  lia
 ·refine ah (aE D1 (aE n8 W1)) ?_;rw[<- aO,<- aO,<- Nat.add_assoc];exact av _
theorem Nj (G:Rg A lk w) (D:jq A lk pk) (St:Qp A.length w T):∃M d j,0 < M/\M<=2^d/\d+j<=500/\(∀xs∈kry A lk T,∀z∈xs,Fr M (2^j) z)/\∀go,MS d j go->∀t,t<=T->∃a c D W0 E W1 M d j e g x y v,Ik A lk t go a c D W0 E W1 M d j e g x y v:=by
 obtain ⟨e,VV⟩:=Fv G D St;obtain ⟨a,k,KF,_⟩:=VV.un.kf;obtain ⟨s1,s2,_,_⟩:=St
 have key:∀{M1 M2 Vx a1 a2 c N Tm:Nat},Bd A lk M1 M2 Vx a1 a2 c->A.length<=N->1<=N->T<=Tm->PB N Tm a1 a2 c->a1*(Tm - 1)+a2+c*Tm<=500->∃M d j,0 < M/\M<=2^d/\d+j<=500/\(∀xs∈kry A lk T,∀z∈xs,Fr M (2^j) z)/\∀go,MS d j go->∀t,t<=T->∃a c D W0 E W1 M d j e g x y v,Ik A lk t go a c D W0 E W1 M d j e g x y v:=fun {M1 M2 Vx a1 a2 c N Tm} B hn N1 hT Z hd=>by
  refine ⟨M1^(Tm - 1)*M2,a1*(Tm - 1)+a2,c*Tm,bY (gR B.m1) B.m2,?_,hd,fun xs hx x hx'=>Fr.up (B.kry D T xs hx x hx') (Nat.mul_dvd_mul_right (Nat.pow_dvd_pow _ (by lia)) _) (aj (by decide) (aP _ hT)),fun go h t ht=>Oj B D KF hn N1 Z h (by lia)⟩;rw[aO];exact aE (ah (d7 B.b1 _) (by rw[<- oN];exact av _)) B.b2
 rcases G with ⟨_,B⟩ | ⟨_,n5,B⟩ | ⟨w1,n2,M1,M2,B⟩
 ·exact key (N:=8) (Tm:=12) B D.n8 (by decide) s1 (by unfold PB;decide) (by decide)
 ·exact key (N:=5) (Tm:=12) B n5 (by decide) s1 (by unfold PB;decide) (by decide)
 ·exact key (N:=2) (Tm:=3) B n2 (by decide) (s2 (by lia)) (by unfold PB;decide) (by decide)
variable {D W0 E W1 M d j e g x y v q:Nat} {pr:List Rat} {ws:List (List Rat)}
theorem Ik.rowT (h:Ik A lk t go a c D W0 E W1 M d j e g x y v):∀xs∈kry A lk t,∀z∈xs,Tp M (2^(j+d)) z:=fun xs hx z hz=>Tp.of (h.rows xs hx z hz) (by rw[aO];exact aP _ h.m1)
theorem Ik.wsT (h:Ik A lk t go a c D W0 E W1 M d j e g x y v) (q0:0 < q) (q1:q<=(16*W0)^A.length) {n:Nat} (en:n=A.length) (hw:∀xs∈ws,∀z∈xs,Tp (E*q) (D*(n*(W1*(16*W0)^n))) z):(∀z∈ws.flatten,Tp (E*q) (2^(v+x)) z)/\(∀xs∈ws,∀z∈xs,uf z)/\0 < E*q/\M*(E*q)<=2^3990/\128*(2^(j+d)*2^(v+x))<=2^3990:=by
 have s1:=h.s1;have s2:=h.s2;have up:∀{p r:Nat},p<=r->2^p<=2^r:=fun z=>aj (by decide) z
 have E0:0 < E*q:=bY h.e0 q0;have Eq:E*q<=2^(e+x):=by rw[aO];exact aE h.e1 (ah q1 h.qx)
 have b:D*(n*(W1*(16*W0)^n))<=2^(v+x):=by
  rw[en,<- cw A.length,<- cw,aO];exact aE h.dv h.qx
 have tw:∀xs∈ws,∀z∈xs,Tp (E*q) (2^(v+x)) z:=fun xs hx z hz=>by
  obtain ⟨i,e,l⟩:=hw xs hx z hz;exact ⟨i,e,ah l b⟩
 refine ⟨fun z hz=>?_,fun xs hx z hz=>vG (tw xs hx z hz) E0 (ah Eq (up (by lia))) (up (by lia)),E0,?_,?_⟩
 ·obtain ⟨xs,hx,hz⟩:=yI.mp hz;exact tw xs hx z hz
 ·refine ah (aE h.m1 Eq) ?_;rw[<- aO];exact up (by lia)
 ·rw[show 128=2^7 by decide,<- aO,<- aO];exact up (by lia)
theorem Ik.prF (h:Ik A lk t go a c D W0 E W1 M d j e g x y v) (q0:0 < q) {n:Nat} (en:n=A.length) (q1:q<=(16*W0)^n*(16*(W1+E))) (hp:∀z∈pr,Tp q ((16*W0)^n*(16*(W1+E))) z):(∀z∈pr,uf z)/\yg go pr/\∀xs∈kry A lk t,yg xs pr:=by
 have s3:=h.s3;have s4:=h.s4
 have b:(16*W0)^n*(16*(W1+E))<=2^(x+(4+y)):=by
  rw[en,aO 2 x,aO 2 4];exact aE h.qx (aP _ h.wy)
 have f:oJ (x+(4+y)) (x+(4+y)) pr:=⟨q,_,q0,ah q1 b,b,fun z hz=>(hp z hz).fr q0⟩;refine ⟨fun z hz=>vG (hp z hz) q0 (ah (ah q1 b) (aj (by decide) (by lia))) (ah b (aj (by decide) (by lia))),⟨_,_,_,_,⟨E,_,h.e0,h.e1,av _,h.gf⟩,f,by lia⟩,fun xs hx=>⟨_,_,_,_,⟨M,_,h.m0,h.m1,av _,h.rows xs hx⟩,f,by lia⟩⟩
theorem Ik.goS (h:Ik A lk t go a c D W0 E W1 M d j e g x y v):∀z∈go,uf z:=fun z hz=>Cv h.e0 h.e1 (av _) (by have:=h.s4;lia) (h.gf z hz)
end
section
theorem Fo {M V:Nat} {f:Nat->Rat}:∀k,(∀i,i < k->Fr M V (f i))->Fr M (k*V) (bQ k f)
 | 0,_=>Fr.zero
 | k+1,h=>by
  rw[dr];exact (Fo k fun i hi=>h i (by lia)).add (h k (by lia))
theorem OI {rows:List (List Rat)} {ws:List Rat} {n M V N W:Nat} (hr:∀xs∈rows,∀x∈xs,Fr M V x) (hw:∀x∈ws,Fr N W x):∀z∈C6 rows ws n,Fr (N*M) (ws.length*(W*V)) z:=fun z hz=>by
 unfold C6 Fj at hz;obtain ⟨c,_,rfl⟩:=aD.mp hz;refine Fo _ fun i hi=>Fr.mul (hw _ (getD_in hi)) ?_
 unfold cv;rw[aa (l:=rows)];cases hr':rows[i]? with
 | none=>exact Fr.zero
 | some xs =>
  show Fr M V (xs.getD c 0)
  rw[aa];cases hx:xs[c]? with
  | none=>exact Fr.zero
  | some y=>exact hr xs (ay hr') y (ay hx)
variable {d j n w M:Nat} {go ws:List Rat} {rows:List (List Rat)}
theorem Kt:MS d j (List.replicate n 0):=⟨1,by decide,cE,fun z hz=>by rw[OF hz];exact Fr.zero⟩
theorem Ku (h:∀x∈go,Dr (max w 6) x) (hw:w<=9\/w=1000/\go.length<=2):MS d j go:=by
 rcases hw with w9 | ⟨w9,l2⟩
 ·exact ⟨2520,by decide,ah (show 2520<=2^22 by decide) (aj (by decide) (by lia)),fun z hz=>(CD ⟨ah (h z hz).1 (by lia),ah (h z hz).2 (by lia)⟩ (Gs _)).mono (ah (show 9<=2^22 by decide) (aj (by decide) (by lia)))⟩
 ·obtain ⟨B,h0,h1,h2⟩:=HX (c:=10) (l:=go) (fun x hx=>⟨ah (h x hx).1 (by rw[w9];decide),ah (h x hx).2 (by rw[w9];decide)⟩) (by decide);exact ⟨B,h0,ah h1 (aj (by decide) (by lia)),fun z hz=>(h2 z hz).mono (aj (by decide) (by lia))⟩
def MN (d j:Nat) (go:List Rat):Prop:=∃M,0 < M/\M<=2^(d+12)/\∀z∈go,Fr M (2^(j+12)) z
theorem K7 (m0:0 < M) (m1:M<=2^d) (hr:∀xs∈rows,∀x∈xs,Fr M (2^j) x) (hw:∀x∈ws,Dr 9 x) (hl:ws.length<=100):MN d j (C6 rows ws n):=by
 refine ⟨2520*M,by lia,?_,fun z hz=>(OI hr (fun x hx=>CD (hw x hx) (Gs 2520)) z hz).mono ?_⟩
 ·rw[aO,bU];exact aE m1 (by decide)
 ·rw[<- cw,aO,bU];exact aP _ (by lia)
theorem MN.asd (h:MN d j go):MS d j go:=by
 obtain ⟨M,a,b,c⟩:=h;exact ⟨M,a,ah b (aj (by decide) (by lia)),fun z hz=>(c z hz).mono (aj (by decide) (by lia))⟩
theorem MN.szn (h:MN d j go) (hd:d+j<=500):∀z∈go,uf z:=fun z hz=>by
 obtain ⟨M,a,b,c⟩:=h;exact Cv a b (av _) (by lia) (c z hz)
theorem MN.set {a v:Nat} (h:MN d j go) (hv:v < 3):MS d j (go.set a (go.getD a 0+Mi v)):=by
 obtain ⟨M,m0,m1,c⟩:=h;have up:∀z,Fr M (2^(j+12)) z->Fr (M*6) (2^(j+12)) z:=fun z h=>h.scale 6
 have le:2^(j+12)+1<=2^(j+22):=by
  rw[show j+22=j+12+10 by lia,aO 2 (j+12)];have:0 < 2^(j+12):=gR (by decide);generalize 2^(j+12)=P at this ⊢
  lia
 refine ⟨M*6,by lia,?_,fun z hz=>?_⟩
 ·rw[show d+22=d+12+10 by lia,aO 2 (d+12)];exact aE m1 (by decide)
 ·rcases cx hz with hz | rfl
  ·exact (up z (c z hz)).mono (ah (sN _) le)
  ·have g:Fr M (2^(j+12)) (go.getD a 0):=by
    rw[aa];cases hx:go[a]? with
    | none=>exact Fr.zero
    | some y=>exact c y (ay hx)
   exact ((up _ g).add ((Mh hv).scaleL M)).mono le
end
section
variable {K:PySem.W.Frag} {g:TG} {tf:TT} {te:TE} {Q:VK} {σ₀:St} {H:Hp}
theorem Ib {β:Type} {a b:Addr} {xs:List V} (G:Hp->β->V->Prop) (C:β->Prop) (hx:H a=some (.lst xs)) (ab:a≠b) (hB:ig H b) (hl:xs.length<=1000) (hG:∀{H' H'' c x},G H' c x->cV b H' H''->ig H' b->G H'' c x)
  (hs:∀x H' NY NN,x∈xs->cV b H H'->ig H' b->(∀y c H2,cV b H' H2->ig H2 b->C c->G H2 c y->NY y H2)->sU σ₀ g tf te x H' NY NN)
  (hd:∀ys cs H' p,H p=none->cV b H H'->ig H' b->H' p=some (.lst ys)->cs.length=xs.length->(∀c∈cs,C c)->Paired (G H') cs ys->Q (.ref p) H'):uw (Me K a) σ₀ g tf te Q H:=by
 refine fE (K:=K) (xs:=xs) (fun i ys H'=>cV b H H'/\ig H' b/\∃cs,cs.length=i/\(∀c∈cs,C c)/\Paired (G H') cs ys) (bp (bK (by lia))) ⟨(aL.refl _).upto,hB,[],rfl,(fun _ z=>nomatch z),.nil⟩ (fun i ys H' _ ⟨u,_⟩=>bV.of (u.other ab hx)) ?_ ?_
 ·rintro i x ys H' hx' hlen ⟨u,B,cs,lc,hc,pr⟩;refine hs x H' _ _ (ay hx') u B fun y c H2 u2 B2 cc gy=>⟨u.trans u2,B2,cs++[c],by simp [lc],CN hc cc,b6 (Paired.imp' (fun _ _ z=>hG z u2 B) pr) (.cons gy .nil)⟩
 ·rintro ys H' hy ⟨u,B,cs,lc,hc,pr⟩ p hp;have s:aL H' (upd H' p (.lst ys)):=aL.new hp;exact hd ys cs _ p (u.none B hp) (u.same s) (B.same s) aK lc hc (Paired.imp' (fun _ _ z=>hG z s.upto B) pr)
end
theorem OH {A lk pk ws:List (List Rat)} {T:Nat} (D:jq A lk pk) (l:ws.length=T) (hw:∀xs∈ws,xs.length=lk.length):C6 (kry A lk T) ws.flatten A.length=BQ A lk (List.replicate A.length 0) ws.reverse T:=by
 have l0:(List.replicate A.length (0:Rat)).length=A.length:=aF ..;have lr:ws.reverse.length=T:=by rw[fq];exact l
 have ls:=vZ (mv:=A) (pt:=lk) (pus:=ws.reverse) (k:=T) l0 (by lia);refine Ao (by rw[show (C6 (kry A lk T) ws.flatten A.length).length=A.length from qU,ls]) fun c hc=>?_
 rw[show (C6 (kry A lk T) ws.flatten A.length).length=A.length from qU] at hc;rw[BK hc,BP D l0 T (by lia) (fun xs hx=>hw xs (iW.mp hx)) c hc,zQ,aI (by lia),gV,tT hw,oY,l]
 have:(List.replicate A.length (0:Rat)).getD c 0=0:=by
  rw[aa];cases h:(List.replicate A.length (0:Rat))[c]? with
  | none=>rfl
  | some x=>exact OF (ay h)
 rw[this,Rat.zero_add]
def K3 (K:PySem.W.Frag):Sp:=fun vs H Q _=>∃(b p:Addr) (n w M d j:Nat) (H0:Hp) (rows:List (List Rat)),vs=[.ref b,.ref p,.int n,.int w]/\ig H b/\H0 b≠none/\p≠b/\bO K H0 H p rows/\rows.length<=100/\n<=8/\(∀xs∈rows,xs.length=n)/\1<=w/\(w<=9\/w=1000/\n<=2)/\0 < M/\M<=2^d/\d+j<=500/\(∀xs∈rows,∀x∈xs,Fr M (2^j) x) /\
 ∀r go H',H r=none->cR K H' r go->go.length=n->MS d j go->ig H' b->cV b H H'->Q (.ref r) H'
def DW (K:PySem.W.Frag) (A lk:List (List Rat)) (T:Nat) (go:List Rat) (H H':Hp) (t:Addr):Prop:=(∃p ws,H' t=some (.tup [.str (Str.ofString "from"),.ref p])/\bO K H H' p ws/\Mf A lk T go ws.reverse)\/∃p pr,H' t=some (.tup [.str (Str.ofString "alike"),.ref p])/\cR K H' p pr/\Ou A lk T go pr
section
variable {K:PySem.W.Frag} {A lk:List (List Rat)} {T:Nat} {go:List Rat} {H0 H H' H'':Hp} {t t':Addr}
theorem DW.same (h:DW K A lk T go H H' t) (s:aL H' H''):DW K A lk T go H H'' t:=by
 rcases h with ⟨p,ws,a,b,c⟩ | ⟨p,pr,a,b,c⟩
 ·exact .inl ⟨p,ws,s _ _ a,b.same s,c⟩
 ·exact .inr ⟨p,pr,s _ _ a,b.same s,c⟩
theorem DW.weak (h:DW K A lk T go H H' t) (s:aL H0 H):DW K A lk T go H0 H' t:=by
 rcases h with ⟨p,ws,a,b,c⟩ | ⟨p,pr,a,b,c⟩
 ·exact .inl ⟨p,ws,a,b.weak s,c⟩
 ·exact .inr ⟨p,pr,a,b,c⟩
theorem DW.tup (h:DW K A lk T go H H' t):∃zs,H' t=some (.tup zs):=by
 rcases h with ⟨p,ws,a,b,c⟩ | ⟨p,pr,a,b,c⟩
 ·exact ⟨_,a⟩
 ·exact ⟨_,a⟩
theorem DW.ne {Q:VK} (h:DW K A lk T go H H' t) (h':DW K A lk T go H H' t') (q:Q (.bl false) H'):Pd K (.ref t) (.ref t') H' Q:=by
 rcases h with ⟨p,ws,a,b,c⟩ | ⟨p,pr,a,b,c⟩
 ·rcases h' with ⟨p',ws',a',b',c'⟩ | ⟨p',pr',a',b',c'⟩
  ·have e:=c.uniq c';have e:ws=ws':=by rw[<- gV ws,e,gV]
   subst e;refine ⟨_,_,MC Pk JQ,(Str.ofString "from",ws),(Str.ofString "from",ws),by decide,⟨t,_,_,rfl,oI.of a,rfl,b.kind⟩,⟨t',_,_,rfl,oI.of a',rfl,b'.kind⟩,?_⟩;rw[decide_eq_true rfl];exact q
  ·exact absurd c' fun c'=>c.not c'
 ·rcases h' with ⟨p',ws',a',b',c'⟩ | ⟨p',pr',a',b',c'⟩
  ·exact absurd c fun c=>c'.not c
  ·have e:=c.uniq c';subst e;refine ⟨_,_,MC Pk Bi,(Str.ofString "alike",pr),(Str.ofString "alike",pr),by decide,⟨t,_,_,rfl,oI.of a,rfl,b.kind⟩,⟨t',_,_,rfl,oI.of a',rfl,b'.kind⟩,?_⟩;rw[decide_eq_true rfl];exact q
end
def En (K:PySem.W.Frag) (C:Addr):Sp:=fun vs H Q _=>∃(x rw g:Addr) (T a c D W0 E W1 M d j e γ χ y v:Nat) (H0 H1:Hp) (mv pt lk:List (List Rat)) (go:List Rat),vs=[.ref x,.ref rw,.ref g,.int T,.int mv.length]/\T<=12/\oH K H0 H C x mv pt lk/\jq mv pt lk/\D9 mv pt lk/\bO K H1 H rw (kry (bC mv mv.length) lk T)/\cR K H g go/\go.length=mv.length/\Ik (bC mv mv.length) lk T go a c D W0 E W1 M d j e γ χ y v /\
 ∀t H',aL H H'->DW K (bC mv mv.length) lk T go H H' t->Q (.ref t) H'
def Qc (K:PySem.W.Frag):R2:=fun x y H Q=>∃p xs,x=.non/\y=.ref p/\bV K H p xs/\(∀v∈xs,∃t zs,v=.ref t/\oI K H t zs)/\Q (.bl false) H
theorem C8 {w:Value}:∀{xs:List V} {us:List Value},cL xs us->w∈us->∃x,x∈xs/\RelV x w
 | _,_,.nil,h=>by cases h
 | x :: xs,u :: us,.cons r t,h=>by
  rcases aG.mp h with rfl | h
  ·exact ⟨x,dk ..,r⟩
  ·obtain ⟨y,a,b⟩:=C8 t h;exact ⟨y,bP _ a,b⟩
theorem LM {X:Cx} (hu:X.A.units+50 < cLine):yR X (compareOp .In) (Qc X.K):=by
 intro pins s σ H x y v u Q I rx ry h;obtain ⟨p,xs,rfl,rfl,hq,ht,q⟩:=h;cases rx;cases ry;obtain ⟨its,r,pl,hz⟩:=I.list hq;refine SeqAt.in_listAt (fun _=>false) pl.isList (fun w hw=>?_) ⟨.bl _,H,I,rfl,?_⟩
 ·obtain ⟨x,hx,rw⟩:=C8 (w:=w) r (by simpa using hw);obtain ⟨t,zs,rfl,hT⟩:=ht x hx;cases rw;obtain ⟨_,_,pt,_⟩:=I.tuple hT;exact SeqAt.EqAt.tuple_none pt (by have:X.A.in1.units=X.A.units+1:=rfl;lia)
 ·rw[show its.toArray.any (fun _=>false)=false by simp];exact q
end L2
open L2
local macro_rules | `(tactic| walk_at "hl") => `(tactic| first | (show _ ≤ sizeLine; with_unfolding_all decide) | (with_unfolding_all exact (by decide)))
local macro_rules | `(tactic| walk_at "sq") => `(tactic| first | with_reducible assumption | with_reducible exact oI.of (by assumption) | with_reducible exact bV.of (by assumption) | with_reducible exact oI.of aK | with_reducible exact bV.of aK | assumption)
local macro_rules | `(tactic| walk_at "sc") => `(tactic| first | (with_reducible show (0 : Int) < _; decide) | with_reducible exact FZ (by decide) (by decide) | with_reducible exact CJ (by decide) (by decide) | with_reducible exact cpow_of (by decide) (by decide) (by decide))
local macro_rules | `(tactic| walk_at "rd") => `(tactic| first
  | with_reducible refine Nr ?_
  | with_reducible refine Lk ?_
  | with_reducible refine NI ?_
  | with_reducible refine Jn ?_
  | ((with_reducible refine' Nl ?hx1 ?_); (case hx1 => with_unfolding_all rfl))
  | with_reducible refine Qa ?_
  | with_reducible refine O8 ?_
  | with_reducible refine Pb ?_
  | with_reducible refine O4 ?_
  | with_reducible refine Qb ?_
  | with_reducible refine NH ?_
  | with_reducible refine Nx ?_
  | with_reducible refine NG ?_
  | with_reducible refine rd_neS ?_
  | with_reducible refine rd_eqB ?_
  | with_reducible refine rd_neB ?_
  | with_reducible refine Ln ?_
  | with_reducible refine ED ?_
  | with_reducible refine NF ?_
  | with_reducible refine Lh ?_
  | with_reducible refine Ll ?_
  | with_reducible refine Lm ?_
  | with_reducible refine Jm ?_
  | with_reducible refine Lg ?_
  | with_reducible refine O5 ?_
  | with_reducible refine Nt ?_
  | with_reducible refine rd_retN ?_
  | with_reducible refine NB ?_
  | with_reducible refine NJ ?_
  | with_reducible refine O7 ?_
  | with_reducible refine Nv ?_
  | with_reducible refine LA ?_
  | with_reducible refine rd_orV ?_
  | with_reducible refine Lj ?_
  | with_reducible refine NC ?_
  | with_reducible refine Nk ?_
  | with_reducible refine HQ ?_
  | with_reducible refine Po ?_
  | with_reducible refine Pp ?_
  | with_reducible refine Pq ?_
  | with_reducible refine Mv ?_
  | with_reducible refine Nw ?_
  | with_reducible refine Lv ?_
  | with_reducible refine Nn ?_
  | with_reducible refine Ny ?_
  | with_reducible refine Ly ?_
  | with_reducible refine O9 ?_
  | with_reducible refine Lu ?_
  | with_reducible refine Nu ?_
  | with_reducible refine Lz ?_
  | ((with_reducible refine' rd_aug ?hx1 ?_); (case hx1 => with_unfolding_all rfl))
  | with_reducible refine NA ?_
  | with_reducible refine Lq ?_
  | with_reducible refine Jo ?_
  | with_reducible refine Lr ?_
  | with_reducible refine O6 ?_
  | with_reducible refine Ht ?_
  | with_reducible refine Li ?_
  | with_reducible refine ND ?_
  | with_reducible refine Jl ?_
  | with_reducible refine Lo ?_
  | with_reducible refine Jk ?_
  | with_reducible refine Jj ?_
  | ((with_reducible refine' Lx ?hx1 ?_); (case hx1 => with_unfolding_all rfl))
  | with_reducible refine Lf ?_
  | with_reducible refine Pa ?_
  | with_reducible refine rd_bm0 ?_
  | with_reducible refine rd_brk ?_
  | ((with_reducible refine' Lp ?hx1 ?hx2 ?_); (case hx1 => walk_at "sq"); (case hx2 => with_unfolding_all rfl))
  | with_reducible refine rd_cont ?_
  | ((with_reducible refine' h7 ?hx1 ?_); (case hx1 => walk_at "sc"))
  | ((with_reducible refine' Nz ?hx1 ?hx2 ?_); (case hx1 => walk_at "sq"); (case hx2 => with_unfolding_all rfl))
  | ((with_reducible refine' cN ?hx1 ?hx2 ?_); (case hx1 => walk_at "sq"); (case hx2 => with_unfolding_all rfl))
  | ((with_reducible refine' Ls ?hx1 ?hx2 ?_); (case hx1 => walk_at "sq"); (case hx2 => with_unfolding_all rfl))
  | ((with_reducible refine' fb ?hx1 ?hx2 ?hx3 ?_); (case hx1 => with_reducible first | assumption | exact aK); (case hx2 => with_unfolding_all rfl); (case hx3 => with_unfolding_all rfl))
  | with_reducible refine ⟨_, rfl, ?_⟩
  | with_reducible refine ⟨_, _, rfl, ?_⟩)
local macro_rules | `(tactic| walk_at "w") => `(tactic| repeat walk_at "rd")
local macro_rules | `(tactic| walk_at "d") => `(tactic| exact ⟨rfl,rfl,rfl,by decide +kernel,rfl,by decide +kernel,by decide +kernel⟩)
namespace Lw
open PySem PySem.Spec PyProof.Rows L2 Nm
set_option maxHeartbeats 4000000
def top (i:Nat):Stmt:=PySem.Challenge.pw_helmsum_k52_told_or_alike.main.body.getD i (.Pass ⟨0,0,0,0⟩)
abbrev kJ:Stmt:=top 56
abbrev jy:Stmt:=top 57
abbrev kH:Stmt:=top 58
abbrev kF:Stmt:=top 59
abbrev jA:Stmt:=top 64
abbrev jz:Stmt:=top 60
abbrev oi:Stmt:=top 65
abbrev iw:Stmt:=top 67
abbrev jC:Stmt:=top 75
abbrev fK:Stmt:=top 70
abbrev gi:Stmt:=top 61
abbrev kG:Stmt:=top 62
abbrev jB:Stmt:=top 66
abbrev iu:Stmt:=top 68
abbrev iB:Stmt:=top 76
abbrev jt:Stmt:=top 52
abbrev kE:Stmt:=top 9
abbrev eJ:Stmt:=top 10
abbrev jw:Stmt:=top 12
abbrev qE:Stmt:=top 16
abbrev fY:Stmt:=top 53
abbrev d5:Stmt:=inClass (top 54) 0
abbrev gB:Stmt:=top 69
abbrev fZ:Stmt:=top 74
abbrev iq:Stmt:=top 78
abbrev kI:Stmt:=top 63
abbrev eK:Stmt:=top 77
abbrev gh:Stmt:=top 79
abbrev eO:Stmt:=top 80
abbrev ju:Stmt:=top 19
abbrev d4:Stmt:=top 11
abbrev eX:Stmt:=top 18
abbrev il:Stmt:=top 30
abbrev oh:Stmt:=top 32
abbrev ip:Stmt:=top 31
abbrev uy:Stmt:=top 33
abbrev qD:Stmt:=top 13
abbrev nZ:Stmt:=top 34
abbrev nY:Stmt:=top 20
abbrev og:Stmt:=top 23
abbrev ik:Stmt:=top 40
abbrev fV:Stmt:=top 42
abbrev xJ:Stmt:=top 25
abbrev jx:Stmt:=top 41
abbrev ij:Stmt:=top 21
abbrev qC:Stmt:=top 36
abbrev fX:Stmt:=top 24
abbrev uz:Stmt:=top 37
abbrev fU:Stmt:=top 38
abbrev uA:Stmt:=top 14
abbrev jv:Stmt:=top 17
abbrev fB:Stmt:=inClass (top 54) 1
abbrev qF:Stmt:=top 28
abbrev fW:Stmt:=top 43
abbrev oa:Stmt:=top 44
abbrev A7:Stmt:=top 26
abbrev xK:Stmt:=top 45
abbrev eY:Stmt:=inClass (top 54) 3
abbrev nX:Stmt:=top 47
abbrev eN:Stmt:=top 71
abbrev gA:Stmt:=top 72
abbrev fA:Stmt:=top 73
abbrev jD:Stmt:=top 81
abbrev ir:Stmt:=top 82
abbrev A6:Stmt:=top 83
set_option genInjectivity false in
set_option genSizeOf false in
structure Ads where
 rW:Addr
 rH:FuncData
 pM:Addr
 o9:FuncData
 rT:Addr
 rF:FuncData
 rR:Addr
 rD:FuncData
 pO:Addr
 pe:FuncData
 pN:Addr
 pd:FuncData
 uU:Addr
 uK:FuncData
 nN:Addr
 nB:FuncData
 pQ:Addr
 pz:FuncData
 nJ:Addr
 ni:FuncData
 mf:Addr
 lN:FuncData
 rS:Addr
 rE:FuncData
 pP:Addr
 ph:FuncData
 nM:Addr
 nA:FuncData
 nO:Addr
 nC:FuncData
 pG:Addr
 oZ:FuncData
 rQ:Addr
 rC:FuncData
 iL:Addr
 iF:FuncData
 pK:Addr
 o7:FuncData
 xl:Addr
 wY:FuncData
 ma:Addr
 lJ:FuncData
 gP:Addr
 gM:FuncData
 mi:Addr
 lQ:FuncData
 md:Addr
 lK:FuncData
 nH:Addr
 m9:FuncData
 rV:Addr
 rG:FuncData
 iM:Addr
 iG:FuncData
 me:Addr
 lM:FuncData
 iO:Addr
 iI:FuncData
 pH:Addr
 o5:FuncData
 gO:Addr
 gL:FuncData
 jg:Addr
 jd:FuncData
 nF:Addr
 m7:FuncData
 uS:Addr
 uJ:FuncData
 nG:Addr
 m8:FuncData
 zb:Addr
 yZ:FuncData
 xk:Addr
 wX:FuncData
 uP:Addr
 uG:FuncData
 uO:Addr
 uF:FuncData
 uR:Addr
 uI:FuncData
 nE:Addr
 m6:FuncData
 lW:Addr
 lF:FuncData
 CT:Addr
 CG:FuncData
 pL:Addr
 o8:FuncData
 nD:Addr
 m5:FuncData
 xj:Addr
 wW:FuncData
 lZ:Addr
 lH:FuncData
 zd:Addr
 y7:FuncData
 lV:Addr
 lE:FuncData
 ze:Addr
 y8:FuncData
 pJ:Addr
 o6:FuncData
 kj:Addr
 kd:FuncData
 xm:Addr
 wZ:FuncData
 lY:Addr
 lG:FuncData
 uQ:Addr
 uH:FuncData
 Gi:Addr
 FY:FuncData
 CV:Addr
 CH:FuncData
 jh:Addr
 je:FuncData
 uN:Addr
 uE:FuncData
 iN:Addr
 iH:FuncData
 mh:Addr
 lO:FuncData
 ki:Addr
 ka:FuncData
 pR:Addr
 pA:FuncData
 nK:Addr
 nk:FuncData
 Kv:Addr
 Kj:FuncData
 a_NOUGHT:Addr
 a_ONE:Addr
 t_MOST_STATES:Tok
 t_MOST_PUTS:Tok
 t_MOST_LOOKS:Tok
 a_System:Addr
structure Txt (K:W.Frag) (mg:Str->Option Value) (Z:Ads):Prop where
 yp:mg "_law_bag"=some (.ref Z.rW)
 Ay:Binds K Z.rH ["_law_script"] []
 vV:ie K "_law_bag" "_law_bag" kJ Z.rW Z.rH
 bf:mg "_law_take"=some (.ref Z.pM)
 bD:Binds K Z.o9 ["_law_bag_here","_law_many"] []
 bx:ie K "_law_take" "_law_take" jy Z.pM Z.o9
 jH:mg "_law_low"=some (.ref Z.rT)
 kU:Binds K Z.rF ["_law_top","_law_bottom"] []
 js:ie K "_law_low" "_law_low" kH Z.rT Z.rF
 jG:mg "_law_sum"=some (.ref Z.rR)
 kT:Binds K Z.rD ["_law_one","_law_other"] []
 jr:ie K "_law_sum" "_law_sum" kF Z.rR Z.rD
 rj:mg "_law_plus"=some (.ref Z.pO)
 t8:Binds K Z.pe ["_law_one","_law_other"] []
 pS:ie K "_law_plus" "_law_plus" jA Z.pO Z.pe
 j8:mg "_law_prod"=some (.ref Z.pN)
 mO:Binds K Z.pd ["_law_one","_law_other"] []
 jM:ie K "_law_prod" "_law_prod" jz Z.pN Z.pd
 vR:mg "_law_by"=some (.ref Z.uU)
 yd:Binds K Z.uK ["_law_factor","_law_row_here"] []
 uW:ie K "_law_by" "_law_by" oi Z.uU Z.uK
 p7:mg "_law_mixed"=some (.ref Z.nN)
 rO:Binds K Z.nB ["_law_bag_here","_law_move_here","_law_put","_law_look"] []
 nR:ie K "_law_mixed" "_law_mixed" iw Z.nN Z.nB
 wK:mg "_law_line"=some (.ref Z.pQ)
 yA:Binds K Z.pz ["_law_bag_here"] []
 ur:ie K "_law_line" "_law_line" jC Z.pQ Z.pz
 vo:mg "_law_sizes"=some (.ref Z.nJ)
 xf:Binds K Z.ni ["_law_bag_here"] []
 sv:ie K "_law_sizes" "_law_sizes" fK Z.nJ Z.ni
 oE:mg "_law_number"=some (.ref Z.mf)
 qh:Binds K Z.lN ["_law_bag_here","_law_wide"] []
 mC:ie K "_law_number" "_law_number" gi Z.mf Z.lN
 mM:mg "_law_row"=some (.ref Z.rS)
 oG:Binds K Z.rE ["_law_bag_here","_law_many","_law_wide"] []
 kY:ie K "_law_row" "_law_row" kG Z.rS Z.rE
 wJ:mg "_law_move"=some (.ref Z.pP)
 yz:Binds K Z.ph ["_law_bag_here","_law_n","_law_way","_law_first","_law_wide"] []
 uq:ie K "_law_move" "_law_move" jB Z.pP Z.ph
 vp:mg "_law_parts"=some (.ref Z.nM)
 xg:Binds K Z.nA ["_law_bag_here","_law_n","_law_ins","_law_outs","_law_wide"] []
 sA:ie K "_law_parts" "_law_parts" iu Z.nM Z.nA
 vq:mg "_law_drawn"=some (.ref Z.nO)
 xh:Binds K Z.nC ["_law_bag_here"] []
 sC:ie K "_law_drawn" "_law_drawn" iB Z.nO Z.nC
 m3:mg "want_list"=some (.ref Z.pG)
 pC:Binds K Z.oZ ["thing","at","most"] []
 mQ:ie K "want_list" "want_list" jt Z.pG Z.oZ
 tQ:mg "is_whole"=some (.ref Z.rQ)
 vT:Binds K Z.rC ["thing"] []
 rY:ie K "is_whole" "is_whole" kE Z.rQ Z.rC
 gK:mg "common_divisor"=some (.ref Z.iL)
 iK:Binds K Z.iF ["one","other"] []
 fF:ie K "common_divisor" "common_divisor" eJ Z.iL Z.iF
 wH:mg "is_number"=some (.ref Z.pK)
 yx:Binds K Z.o7 ["thing"] []
 uj:ie K "is_number" "is_number" jw Z.pK Z.o7
 Be:mg "is_row"=some (.ref Z.xl)
 DT:Binds K Z.wY ["thing","many"] []
 AA:ie K "is_row" "is_row" qE Z.xl Z.wY
 j7:mg "copied_rows"=some (.ref Z.ma)
 lU:Binds K Z.lJ ["things","wide"] []
 jc:ie K "copied_rows" "copied_rows" fY Z.ma Z.lJ
 kh:Binds K Z.gM ["self","move","put","look"] []
 pT:ie K "__init__" "System.__init__" d5 Z.gP Z.gM
 ib:mg "_law_copied"=some (.ref Z.mi)
 jb:Binds K Z.lQ ["_law_grid"] []
 gF:ie K "_law_copied" "_law_copied" gB Z.mi Z.lQ
 tR:mg "_law_system"=some (.ref Z.md)
 vz:Binds K Z.lK ["_law_parts_here"] []
 qA:ie K "_law_system" "_law_system" fZ Z.md Z.lK
 vn:mg "_law_steps"=some (.ref Z.nH)
 xc:Binds K Z.m9 ["_law_bag_here","_law_n","_law_wide"] []
 su:ie K "_law_steps" "_law_steps" iq Z.nH Z.m9
 oX:mg "_law_dot"=some (.ref Z.rV)
 rP:Binds K Z.rG ["_law_one","_law_other"] []
 oM:ie K "_law_dot" "_law_dot" kI Z.rV Z.rG
 oV:mg "_law_look_rows"=some (.ref Z.iM)
 qO:Binds K Z.iG ["_law_parts_here","_law_steps_here"] []
 kZ:ie K "_law_look_rows" "_law_look_rows" eK Z.iM Z.iG
 oC:mg "_law_summed"=some (.ref Z.me)
 qg:Binds K Z.lM ["_law_weights","_law_rows","_law_n"] []
 mB:ie K "_law_summed" "_law_summed" gh Z.me Z.lM
 j9:mg "_law_asked_row"=some (.ref Z.iO)
 kW:Binds K Z.iI ["_law_bag_here","_law_rows","_law_n","_law_wide"] []
 iQ:ie K "_law_asked_row" "_law_asked_row" eO Z.iO Z.iI
 m4:mg "tops_over"=some (.ref Z.pH)
 pE:Binds K Z.o5 ["row","bottom"] []
 mR:ie K "tops_over" "tops_over" ju Z.pH Z.o5
 oB:mg "common_multiple"=some (.ref Z.gO)
 pF:Binds K Z.gL ["wholes"] []
 ku:ie K "common_multiple" "common_multiple" d4 Z.gO Z.gL
 iE:mg "common_bottom"=some (.ref Z.jg)
 jf:Binds K Z.jd ["row"] []
 fR:ie K "common_bottom" "common_bottom" eX Z.jg Z.jd
 vh:mg "first_with"=some (.ref Z.nF)
 w5:Binds K Z.m7 ["lines","begin","place"] []
 rZ:ie K "first_with" "first_with" il Z.nF Z.m7
 Ae:mg "cleared"=some (.ref Z.uS)
 BC:Binds K Z.uJ ["lines","at","place","before"] []
 yl:ie K "cleared" "cleared" oh Z.uS Z.uJ
 vm:mg "brought_up"=some (.ref Z.nG)
 xa:Binds K Z.m8 ["lines","at","to"] []
 so:ie K "brought_up" "brought_up" ip Z.nG Z.m8
 Aa:mg "swept"=some (.ref Z.zb)
 CL:Binds K Z.yZ ["rows","wide"] []
 zg:ie K "swept" "swept" uy Z.zb Z.yZ
 qH:mg "lowest"=some (.ref Z.xk)
 tZ:Binds K Z.wX ["top","bottom"] []
 qR:ie K "lowest" "lowest" qD Z.xk Z.wX
 Ab:mg "reduced"=some (.ref Z.uP)
 By:Binds K Z.uG ["rows","wide"] []
 yi:ie K "reduced" "reduced" nZ Z.uP Z.uG
 vQ:mg "row_dot"=some (.ref Z.uO)
 yc:Binds K Z.uF ["one","other"] []
 uV:ie K "row_dot" "row_dot" nY Z.uO Z.uF
 Ad:mg "grid_on"=some (.ref Z.uR)
 BB:Binds K Z.uI ["grid","row"] []
 yk:ie K "grid_on" "grid_on" og Z.uR Z.uI
 p0:mg "moved_rows"=some (.ref Z.nE)
 rM:Binds K Z.m6 ["system","rows"] []
 nP:ie K "moved_rows" "moved_rows" ik Z.nE Z.m6
 tP:mg "reach_grown"=some (.ref Z.lW)
 vw:Binds K Z.lF ["system","steps"] []
 qq:ie K "reach_grown" "reach_grown" fV Z.lW Z.lF
 FF:mg "flat"=some (.ref Z.CT)
 Kr:Binds K Z.CG ["lists"] []
 Fe:ie K "flat" "flat" xJ Z.CT Z.CG
 wI:mg "additions"=some (.ref Z.pL)
 yy:Binds K Z.o8 ["system","steps"] []
 uo:ie K "additions" "additions" jx Z.pL Z.o8
 i5:mg "nought_row"=some (.ref Z.nD)
 kg:Binds K Z.m5 ["many"] []
 iP:ie K "nought_row" "nought_row" ij Z.nD Z.m5
 xU:mg "solved"=some (.ref Z.xj)
 Ax:Binds K Z.wW ["rows","wide","due"] []
 xn:ie K "solved" "solved" qC Z.xj Z.wW
 ia:mg "grid_turned"=some (.ref Z.lZ)
 ja:Binds K Z.lH ["grid","wide"] []
 gE:ie K "grid_turned" "grid_turned" fX Z.lZ Z.lH
 DC:mg "solve"=some (.ref Z.zd)
 Ge:Binds K Z.y7 ["rows","wide","due"] []
 C0:ie K "solve" "solve" uz Z.zd Z.y7
 tO:mg "weights_for"=some (.ref Z.lV)
 vv:Binds K Z.lE ["rows","wide","row"] []
 qo:ie K "weights_for" "weights_for" fU Z.lV Z.lE
 DD:mg "minus"=some (.ref Z.ze)
 Gg:Binds K Z.y8 ["one","other"] []
 C1:ie K "minus" "minus" uA Z.ze Z.y8
 wG:mg "row_minus"=some (.ref Z.pJ)
 yw:Binds K Z.o6 ["one","other"] []
 ui:ie K "row_minus" "row_minus" jv Z.pJ Z.o6
 sG:Kw K Z.a_System "moved" Z.kj
 ue:Binds K Z.kd ["self","state","puts"] []
 uv:ie K "moved" "System.moved" fB Z.kj Z.kd
 Bf:mg "course"=some (.ref Z.xm)
 DU:Binds K Z.wZ ["system","start","puts"] []
 AB:ie K "course" "course" qF Z.xm Z.wZ
 oA:mg "nothing_for"=some (.ref Z.lY)
 qe:Binds K Z.lG ["system","steps"] []
 my:ie K "nothing_for" "nothing_for" fW Z.lY Z.lG
 Ac:mg "lacking"=some (.ref Z.uQ)
 BA:Binds K Z.uH ["system","start","goal","steps"] []
 yj:ie K "lacking" "lacking" oa Z.uQ Z.uH
 JF:mg "cut"=some (.ref Z.Gi)
 MM:Binds K Z.FY ["row","many","wide"] []
 Ky:ie K "cut" "cut" A7 Z.Gi Z.FY
 FG:mg "come"=some (.ref Z.CV)
 Ks:Binds K Z.CH ["system","start","goal","steps"] []
 Ff:ie K "come" "come" xK Z.CV Z.CH
 qI:Kw K Z.a_System "turned" Z.jh
 sH:Binds K Z.je ["self"] []
 sJ:ie K "turned" "System.turned" eY Z.jh Z.je
 z9:mg "told_by"=some (.ref Z.uN)
 Bx:Binds K Z.uE ["system","asked","steps"] []
 yh:ie K "told_by" "told_by" nX Z.uN Z.uE
 oW:mg "_law_is_number"=some (.ref Z.iN)
 qP:Binds K Z.iH ["_law_thing"] []
 lh:ie K "_law_is_number" "_law_is_number" eN Z.iN Z.iH
 oF:mg "_law_is_row"=some (.ref Z.mh)
 qi:Binds K Z.lO ["_law_thing","_law_many"] []
 mD:ie K "_law_is_row" "_law_is_row" gA Z.mh Z.lO
 sF:mg "_law_is_grid"=some (.ref Z.ki)
 uc:Binds K Z.ka ["_law_thing","_law_many","_law_wide"] []
 oK:ie K "_law_is_grid" "_law_is_grid" fA Z.ki Z.ka
 wL:mg "_law_flat"=some (.ref Z.pR)
 yB:Binds K Z.pA ["_law_grid"] []
 uu:ie K "_law_flat" "_law_flat" jD Z.pR Z.pA
 p6:mg "_law_right"=some (.ref Z.nK)
 rN:Binds K Z.nk ["_law_system_here","_law_rows","_law_asked","_law_steps_here","_law_n"] []
 nQ:ie K "_law_right" "_law_right" ir Z.nK Z.nk
 MR:ie K "law" "law" A6 Z.Kv Z.Kj
 abs:mg "abs"=none
 len:mg "len"=none
 range:mg "range"=none
 int:mg "int"=none
 min:mg "min"=none
 isinstance:mg "isinstance"=none
 list:mg "list"=none
 bool:mg "bool"=none
 tuple:mg "tuple"=none
 all:mg "all"=none
 enumerate:mg "enumerate"=none
 zip:mg "zip"=none
 sum:mg "sum"=none
 reversed:mg "reversed"=none
 mg_NOUGHT:mg "NOUGHT"=some (.ref Z.a_NOUGHT)
 sq_NOUGHT:∀H,oI K H Z.a_NOUGHT [.int 0,.int 1]
 mg_ONE:mg "ONE"=some (.ref Z.a_ONE)
 sq_ONE:∀H,oI K H Z.a_ONE [.int 1,.int 1]
 mg_MOST_STATES:mg "MOST_STATES"=some (.int 8 Z.t_MOST_STATES)
 mg_MOST_PUTS:mg "MOST_PUTS"=some (.int 4 Z.t_MOST_PUTS)
 mg_MOST_LOOKS:mg "MOST_LOOKS"=some (.int 4 Z.t_MOST_LOOKS)
 mg_System:mg "System"=some (.ref Z.a_System)
 cl_System:Ig K Z.a_System
 na_move:kr K Z.a_System "move"
 na_states:kr K Z.a_System "states"
 na_put:kr K Z.a_System "put"
 na_ins:kr K Z.a_System "ins"
 na_look:kr K Z.a_System "look"
 na_outs:kr K Z.a_System "outs"
 mk_System:Mk K Z.a_System Z.gP
section
variable {P:Program} {w:World} {K:W.Frag} {mg:Str->Option Value} {base:Heap} {Z:Ads}
theorem Dl:bo ["_law_script"] ["_law_script"] (az kJ):=by walk_at "d"
theorem Dy (T:Txt K mg Z):cS P w K mg base gZ 1 Z.rW Z.rH ["_law_script"] (Nc K):=by
 refine T.vV.ok Dl (fun vs H Q E h=>?_) (fun cdv A outer s H vs Q E hr h=>?_)
 ·obtain ⟨a,ns,rfl,hS,hlen,k⟩:=h;rfl
 ·obtain ⟨a,ns,rfl,hS,hlen,k⟩:=h;refine ⟨_,(aB (aV (dX (ae ar (ae ar (ae ar (ae (cQ ["_law_cell"] [] [] (cZ (zS BV (pv 0) Fy (yV ar))) (fun _=>(aR (i:=0) (show List.Nodup (α:=PySem.Str) ["_law_cell"] by decide +kernel))) (fun _=>cP) (fun _=>(bX Av (by rfl) T.abs PyProof.Rows.boot_abs (ae (pv 0) ai)))) ai))))))),?_⟩;refine aU (σ:=[some (.ref a)]) rfl ?_;walk_at "w";refine ⟨a,_,rfl,hS,fun l hl=>?_⟩;have hcl:(uY (ns.map V.int) none (some 63)).length<=63:=ah (yv _ _ _) (by simpa using hlen);refine ⟨l,rfl,⟨_,bV.of aK⟩,?_⟩;refine fE (K:=K) (a:=l) (xs:=uY (ns.map V.int) none (some 63)) (fun i ys H'=>H'=upd H l (.lst (uY (ns.map V.int) none (some 63)))/\∃cs:List Int,ys=cs.map V.int/\∀x∈cs,0<=x) (ah hcl (by decide)) ⟨rfl,[],rfl,fun _ z=>nomatch z⟩ (fun i ys H' _ ⟨e,_⟩=>by subst e;exact bV.of aK) ?_ ?_
  ·rintro i x ys H' hx hi ⟨rfl,cs,rfl,hcs⟩
   obtain ⟨z,rfl⟩:∃z,x=V.int z:=by
    have hm:x∈ns.map V.int:=List.mem_of_mem_drop (cC (ay hx));obtain ⟨z,_,e⟩:=aD.mp hm;exact ⟨z,e.symm⟩
   walk_at "w";refine ⟨rfl,cs++[if z < 0 then -z else z],by simp,fun x hx=>?_⟩;rcases ax.mp hx with hx | hx
   ·exact hcs x hx
   ·have e:x=if z < 0 then -z else z:=by simpa using hx
    subst e
    split <;> lia
  ·rintro ys H' hy ⟨rfl,cs,rfl,hcs⟩ p hp;walk_at "w";refine ⟨by show 4<=sizeLine;decide,fun b hb=>?_⟩;have n1:b≠p:=fun z=>by rw[z,aK] at hb;cases hb
   have hb1:(upd H l (.lst (uY (ns.map V.int) none (some 63)))) b=none:=by rw[bu n1] at hb;exact hb
   have s1:aL H (upd H l (.lst (uY (ns.map V.int) none (some 63)))):=aL.new hl;refine k b _ (s1.free hb1) ⟨p,0,1234567891,0,cs,aK,by rw[bu n1.symm];exact aK,by decide,by decide,by lia,hcs⟩ ((s1.trans (aL.new hp)).trans (aL.new hb))
theorem fJ:bo ["_law_bag_here","_law_many","_law_more","_law_cell","_law_value","_law_first","_law_second"] ["_law_bag_here","_law_many"] (az jy):=by walk_at "d"
theorem bE (T:Txt K mg Z):cS P w K mg base gZ 1 Z.pM Z.o9 ["_law_bag_here","_law_many"] KU:=by
 refine T.bx.ok fJ (fun vs H Q E h=>?_) (fun cdv A outer s H vs Q E hr h=>?_)
 ·obtain ⟨p,n,rfl,⟨q,a,b,c,cs,hp,hq,ha,hc,hcl,hcs⟩,hn,hn2,k⟩:=h;rfl
 ·obtain ⟨p,n,rfl,⟨q,a,b,c,cs,hp,hq,ha,hc,hcl,hcs⟩,hn,hn2,k⟩:=h;have nqp:q≠p:=Ic hp hq
  refine ⟨_,(jF (cT (bc eB (bJ bZ (pv 0) ar) ar (bB _)) (au (bh (i:=2) fJ.nd rfl (Or.inl rfl) ar)
   (jF (cT (bc vd (bJ bZ (pv 0) ar) (bX bL (by rfl) T.len bH (ae (bJ bZ (pv 0) ar) ai)) (bB _)) (au (bh (i:=3) fJ.nd rfl (Or.inl rfl) (bJ bZ (bJ bZ (pv 0) ar) (bJ bZ (pv 0) ar)))
   (au (LG (pv 0) ar JY ar N6 set_list)
   (au (cT (bc A8 (pv 3) ar (bB _)) (aB (eV (pv 3) (h8 (pv 0) ar set_list))) bS)
   (aB (bh (i:=2) fJ.nd rfl (Or.inl rfl) (bT fL (bT pY (pv 3) ar) ar)))))) bS)
   (aB (eV (bT pY (bT fL (bT dM (bJ bZ (pv 0) ar) ar) (pv 2)) ar) (h8 (pv 0) ar set_list))))) bS)
   (au (cT (bc tE (bJ bZ (pv 0) ar) ar (bB _)) (au (bh (i:=4) fJ.nd rfl (Or.inl rfl) (bT pY (bJ bZ (pv 0) ar) (pv 1)))
   (au (eV (bT jX (bJ bZ (pv 0) ar) (pv 1)) (h8 (pv 0) ar set_list))
   (aB (aV (pv 4))))) bS)
   (au (bh (i:=5) fJ.nd rfl (Or.inl rfl) (bT pY (bT dM (bJ bZ (pv 0) ar) ar) ar))
   (au (bh (i:=6) fJ.nd rfl (Or.inl rfl) (bT pY (bT dM (pv 5) ar) ar))
   (au (cT (bc tE (pv 1) ar (bB _)) (aB (aV (bT pY (bT fL (bT dM (pv 6) ar) (pv 5)) (pv 1)))) bS)
   (aB (aV (bT pY (bT jX (pv 6) ar) (pv 1))))))))),?_⟩
  refine aU (σ:=[some (.ref p),some (.int n),none,none,none,none,none]) rfl ?_;refine ⟨fun σ' H'=>∃(x y:Option V) (a' b' c':Int),σ'=[some (.ref p),some (.int n),x,y,none,none,none]/\H' p=some (.lst [.int a',.int b',.int c',.ref q])/\0<=a'/\0<=c'/\c'<=cs.length/\cV p H H',?_,?_⟩
  ·walk_at "w";refine gG (fun h0=>?_) (fun h0=>?_)
   ·walk_at "w";refine ⟨fun σ' H'=>∃(m:Int) (y:Option V) (a' c':Int),σ'=[some (.ref p),some (.int n),some (.int m),y,none,none,none]/\H' p=some (.lst [.int a',.int b,.int c',.ref q])/\0<=a'/\0<=c'/\c'<=cs.length/\cV p H H',?_,?_⟩
    ·walk_at "w";refine ⟨_,_,rfl,.inl (bV.of hq),?_⟩;walk_at "w";refine gG (fun h1=>?_) (fun h1=>?_)
     ·have h1':c < cs.length:=by simpa using of_decide_eq_true h1
      obtain ⟨z,hz⟩:∃z,cs[c.toNat]?=some z:=⟨_,ag (by lia)⟩;have hz0:0<=z:=hcs z (ay hz);walk_at "w";refine cN (bV.of hq) (v:=.int z) ?_ ?_
      ·have:=gN (xs:=cs.map V.int) (j:=c.toNat) (v:=.int z) (by rw[aN,hz];rfl);rwa [Int.toNat_of_nonneg hc] at this
      walk_at "w";refine gG (fun h2=>?_) (fun h2=>?_)
      ·walk_at "w";exact ⟨_,_,z,c+1,rfl,aK,hz0,by lia,by lia,(cV.set hp).trans (cV.set aK)⟩
      ·walk_at "w";exact ⟨_,_,a,c+1,rfl,aK,ha,by lia,by lia,cV.set hp⟩
     ·walk_at "w";exact ⟨_,_,a,c,rfl,hp,ha,hc,hcl,cV.refl _⟩
    ·rintro σ' H' ⟨m,y,a',c',rfl,hp',ha',hc',hcl',u'⟩;walk_at "w";exact ⟨_,_,a',_,c',rfl,aK,ha',hc',hcl',u'.trans (cV.set hp')⟩
   ·walk_at "w";exact ⟨_,_,a,b,c,rfl,hp,ha,hc,hcl,cV.refl _⟩
  ·rintro σ' H' ⟨x,y,a',b',c',rfl,hp',ha',hc',hcl',u'⟩;have hq':H' q=some (.lst (cs.map V.int)):=u'.1 q _ hq nqp
   have sn:Sz 8999 n:=by
    show n.natAbs < 2^8999
    exact bG (show n.natAbs < 2^64 by lia) (aj (by decide) (by decide))
   walk_at "w";refine gG (fun h0=>?_) (fun h0=>?_)
   ·walk_at "w";refine h7 (show (0:Int) < n from hn) ?_;walk_at "w";refine h7 (show sL _ _ from ⟨by lia,sn⟩) ?_;walk_at "w";refine k _ _ (nV _ (by lia)) (jk _ hn) ⟨q,_,b',c',cs,aK,by rw[bu nqp];exact hq',?_,hc',hcl',hcs⟩ (u'.trans (cV.set hp'));rw[cG _ (by lia)];exact Int.ediv_nonneg ha' (by lia)
   ·walk_at "w";refine gG (fun h1=>?_) (fun h1=>?_)
    ·walk_at "w";refine h7 (show (0:Int) < n from hn) ?_;exact k _ _ (nV _ (by lia)) (jk _ hn) ⟨q,a',b',c',cs,hp',hq',ha',hc',hcl',hcs⟩ u'
    ·walk_at "w";refine h7 (show sL _ _ from ⟨by decide,by show (3:Nat) < 2^8999;exact bG (show 3 < 2^2 by decide) (aj (by decide) (by decide))⟩) ?_;walk_at "w";refine h7 (show (0:Int) < n from hn) ?_;exact k _ _ (nV _ (by lia)) (jk _ hn) ⟨q,a',b',c',cs,hp',hq',ha',hc',hcl',hcs⟩ u'
theorem oP:bo ["_law_top","_law_bottom","_law_one","_law_other"] ["_law_top","_law_bottom"] (az kH):=by walk_at "d"
theorem mK (T:Txt K mg Z):cS P w K mg base gZ 1 Z.rT Z.rF ["_law_top","_law_bottom"] M8:=by
 refine T.js.ok oP (fun vs H Q E h=>?_) (fun cdv A outer s H vs Q E hr h=>?_)
 ·obtain ⟨t,b,rfl,hb,hs,k⟩:=h;rfl
 ·obtain ⟨t,b,rfl,hb,hs,k⟩:=h
  refine ⟨_,(au (bh (i:=2) oP.nd rfl (Or.inl rfl) (bX Av (by rfl) T.abs PyProof.Rows.boot_abs (ae (pv 0) ai)))
   (au (bh (i:=3) oP.nd rfl (Or.inl rfl) (pv 1))
   (au (zO PassesOwn.never (bc wA (pv 2) ar (bB _))
    (aB (Jp (i:=2) (j:=3) rfl oP.nd rfl rfl (by decide) rfl rfl (ae (bT pY (pv 3) (pv 2)) (ae (pv 2) ai)) rfl)))
   (aB (aV (df (ae (bT jX (pv 0) (pv 3)) (ae (bT jX (pv 1) (pv 3)) ai)))))))),?_⟩
  refine aU (σ:=[some (.int t),some (.int b),none,none]) rfl ?_;walk_at "w"
  refine BL (fun σ' H'=>∃(u v:Int),σ'=[some (.int t),some (.int b),some (.int u),some (.int v)]/\H'=H/\0<=u/\0 < v/\Int.gcd u v=Int.gcd t b) (fun σ' _=>match σ' with | [_,_,some (.int u),_]=>u.natAbs | _=>0) ⟨_,b,rfl,rfl,by split <;> lia,hb,by
   split
   ·rw[Int.neg_gcd]
   ·rfl⟩ ?_
  rintro σ' H' ⟨u,v,rfl,rfl,hu,hv,hg⟩;walk_at "w";refine gG (fun h=>?_) (fun h=>?_)
  ·have hu0:u≠0:=fun z=>by subst z;simp at h
   walk_at "w";refine h7 (show (0:Int) < u by lia) ?_;walk_at "w";have h1:=nV v hu0;have h2:=jk v (show 0 < u by lia);exact ⟨⟨v % u,u,rfl,rfl,h1,by lia,by rw[mH,J5,mH];exact hg⟩,by show (v % u).natAbs < u.natAbs;lia⟩
  ·have hu0:u=0:=by
    by_cases z:u=0
    ·exact z
    ·exfalso;apply h;simp [z]
   subst hu0
   have e:v=g t b:=by
    unfold g;rw[<- hg,Int.gcd_zero_left]
    lia
   have hgs:Sz 8999 v:=hs.le (by
    rw[e];have h1:(g t b).natAbs=Int.gcd t b:=by unfold g;simp
    rw[h1];exact mX (by lia) (by have:=fg (a:=t) (b:=b);exact eI.mpr this |> fun z=>by simpa using z))
   walk_at "w";refine h7 (show sL _ _ from ⟨by lia,hgs⟩) ?_;walk_at "w";refine h7 (show sL _ _ from ⟨by lia,hgs⟩) ?_;walk_at "w";refine b9 fun r H' s' h'=>?_
   rw[cG _ (by lia),cG _ (by lia),e] at h';exact k r H' s' h'
theorem Dj:bo ["_law_one","_law_other"] ["_law_one","_law_other"] (az kF):=by walk_at "d"
theorem mJ (T:Txt K mg Z):cS P w K mg base gZ 2 Z.rR Z.rD ["_law_one","_law_other"] (vI K (fun x y=>x+y)):=by
 refine T.jr.ok Dj (fun vs H Q E h=>?_) (fun cdv A outer s H vs Q E hr h=>?_)
 ·obtain ⟨p,q,a,b,c,d,rfl,hp,hq,hb,hd,sa,sb,sc,sd,k⟩:=Gh h;rfl
 ·obtain ⟨p,q,a,b,c,d,rfl,hp,hq,hb,hd,sa,sb,sc,sd,k⟩:=Gh h;refine ⟨_,(aB (aV (dg (mK T) hr T.jH T.js.kp T.kU (ae (bT fL (bT dM (bJ cO (pv 0) ar) (bJ cO (pv 1) ar)) (bT dM (bJ cO (pv 1) ar) (bJ cO (pv 0) ar))) (ae (bT dM (bJ cO (pv 0) ar) (bJ cO (pv 1) ar)) ai))))),?_⟩;refine aU (σ:=[some (.ref p),some (.ref q)]) rfl ?_;have hbd:0 < b*d:=sP hb hd;have sbd:Sz 8999 (b*d):=(sb.mul sd).mono (by decide);walk_at "w";refine h7 (show kv _ _ from .inr ⟨_,_,sa,sd,by decide⟩) ?_;walk_at "w";refine h7 (show kv _ _ from .inr ⟨_,_,sc,sb,by decide⟩) ?_;walk_at "w";refine h7 (show kv _ _ from .inr ⟨_,_,sb,sd,by decide⟩) ?_;walk_at "w";walk_at "w";refine ⟨_,_,rfl,hbd,sbd,k⟩
theorem Cc:bo ["_law_one","_law_other"] ["_law_one","_law_other"] (az jA):=by walk_at "d"
theorem wC (T:Txt K mg Z):cS P w K mg base gZ 3 Z.pO Z.pe ["_law_one","_law_other"] (IP K):=by
 refine T.pS.ok Cc (fun vs H Q E h=>?_) (fun cdv A outer s H vs Q E hr h=>?_)
 ·obtain ⟨p,q,xs,ys,rfl,hp,hq,hl,hz,h1,h2,kk⟩:=h;rfl
 ·obtain ⟨p,q,xs,ys,rfl,hp,hq,hl,hz,h1,h2,kk⟩:=h;refine ⟨_,(aB (aV (cQ ["_law_k"] ["_law_one","_law_other"] [0,1] (cK rfl T.range (ae (bX bL (by rfl) T.len bH (ae (pv 0) ai)) ai)) (fun _=>(aR (i:=0) (show List.Nodup (α:=PySem.Str) ["_law_k","_law_one","_law_other"] by decide +kernel))) (fun _=>cP) (fun _=>(dg (mJ T) hr T.jG T.jr.kp T.kT (ae (bJ (mN K (by rfl)) (pv 1) (pv 0)) (ae (bJ (mN K (by rfl)) (pv 2) (pv 0)) ai))))))),?_⟩;refine aU (σ:=[some (.ref p),some (.ref q)]) rfl ?_;obtain ⟨us,gu,qu⟩:=id hp;obtain ⟨ws,gw,qw⟩:=id hq;have lu:=qu.length;walk_at "w";refine ⟨_,_,rfl,.inl (bV.of gu),?_⟩;walk_at "w";refine ⟨by lia,by lia,?_⟩;refine gC (n:=us.length) (cB K) (fun i=>xs.getD i 0+ys.getD i 0) (by lia) (fun a b=>a.same b) ?_ ?_
  ·rintro i H' NY NN hi s k1;have ix:i < xs.length:=by lia
   have iy:i < ys.length:=by lia
   obtain ⟨vx,ex,nx⟩:=JR (Paired.imp' (fun _ _ z=>z.same s) qu) ix;obtain ⟨vy,ey,ny⟩:=JR (Paired.imp' (fun _ _ z=>z.same s) qw) iy;walk_at "w";refine cN (bV.of (s _ _ gu)) ex ?_;walk_at "w";refine cN (bV.of (s _ _ gw)) ey ?_;walk_at "w";exact ⟨_,_,_,_,rfl,nx,ny,h1 _ (getD_mem ix),h2 _ (getD_mem iy),fun r3 H3 s3 n3=>k1 _ _ s3 n3⟩
  ·rintro ys' H' l hl' s g pr nx;exact kk l H' hl' s ⟨ys',g,by rw[Gv (by lia)];rw[<- lu] at pr;exact pr⟩
theorem Cb:bo ["_law_one","_law_other"] ["_law_one","_law_other"] (az jz):=by walk_at "d"
theorem mZ (T:Txt K mg Z):cS P w K mg base gZ 2 Z.pN Z.pd ["_law_one","_law_other"] (vI K (fun x y=>x*y)):=by
 refine T.jM.ok Cb (fun vs H Q E h=>?_) (fun cdv A outer s H vs Q E hr h=>?_)
 ·obtain ⟨p,q,a,b,c,d,rfl,hp,hq,hb,hd,sa,sb,sc,sd,k⟩:=FD h;rfl
 ·obtain ⟨p,q,a,b,c,d,rfl,hp,hq,hb,hd,sa,sb,sc,sd,k⟩:=FD h;refine ⟨_,(aB (aV (dg (mK T) hr T.jH T.js.kp T.kU (ae (bT dM (bJ cO (pv 0) ar) (bJ cO (pv 1) ar)) (ae (bT dM (bJ cO (pv 0) ar) (bJ cO (pv 1) ar)) ai))))),?_⟩;refine aU (σ:=[some (.ref p),some (.ref q)]) rfl ?_;have hbd:0 < b*d:=sP hb hd;have sbd:Sz 8999 (b*d):=(sb.mul sd).mono (by decide);walk_at "w";refine h7 (show kv _ _ from .inr ⟨_,_,sa,sc,by decide⟩) ?_;walk_at "w";refine h7 (show kv _ _ from .inr ⟨_,_,sb,sd,by decide⟩) ?_;walk_at "w";walk_at "w";refine ⟨_,_,rfl,hbd,sbd,k⟩
theorem Ez:bo ["_law_factor","_law_row_here"] ["_law_factor","_law_row_here"] (az oi):=by walk_at "d"
theorem z7 (T:Txt K mg Z):cS P w K mg base gZ 3 Z.uU Z.uK ["_law_factor","_law_row_here"] (Nb K):=by
 refine T.uW.ok Ez (fun vs H Q E h=>?_) (fun cdv A outer s H vs Q E hr h=>?_)
 ·obtain ⟨u,q,c,ys,rfl,hc,sc,hq,hz,h2,kk⟩:=h;rfl
 ·obtain ⟨u,q,c,ys,rfl,hc,sc,hq,hz,h2,kk⟩:=h;refine ⟨_,(aB (aV (cQ ["_law_one"] ["_law_factor"] [0] (cZ (pv 1)) (fun _=>(aR (i:=0) (show List.Nodup (α:=PySem.Str) ["_law_one","_law_factor"] by decide +kernel))) (fun _=>cP) (fun _=>(dg (mZ T) hr T.j8 T.jM.kp T.mO (ae (pv 1) (ae (pv 0) ai))))))),?_⟩;refine aU (σ:=[some u,some (.ref q)]) rfl ?_;obtain ⟨us,gu,qu⟩:=id hq;walk_at "w";refine ⟨⟨_,bV.of gu⟩,?_⟩;refine gD (K:=K) (F:=cB K) (cB K) (fun y=>c*y) gu qu hz (fun a b=>a.same b) (fun a b=>a.same b) ?_ ?_
  ·rintro i y x H' NY NN en s hx k;walk_at "w";exact ⟨_,_,_,_,rfl,hc.same s,hx,sc,h2 y (ay en),fun r H2 s2 h2'=>k _ _ s2 h2'⟩
  ·rintro ys' H' r hr s g pr nx;exact kk r H' hr s ⟨ys',g,pr⟩
theorem dU:bo ["_law_bag_here","_law_move_here","_law_put","_law_look","_law_n","_law_turn","_law_i","_law_j","_law_by_here","_law_less","_law_row_here"] ["_law_bag_here","_law_move_here","_law_put","_law_look"] (az iw):=by walk_at "d"
theorem vg (T:Txt K mg Z):cS P w K mg base gZ 4 Z.nN Z.nB ["_law_bag_here","_law_move_here","_law_put","_law_look"] (GP K):=by
 refine T.nR.ok dU (fun vs H Q E h=>?_) (fun cdv A outer s H vs Q E hr h=>?_)
 ·obtain ⟨b,m,p,l,q0,n,WV,μ,A,us,ws,vs,rfl,MA,X,n8,i4,o4,M0,M1,⟨M,eM⟩,V1,hA,k⟩:=h;rfl
 ·obtain ⟨b,m,p,l,q0,n,WV,μ,A,us,ws,vs,rfl,MA,X,n8,i4,o4,M0,M1,⟨M,eM⟩,V1,hA,k⟩:=h
  refine ⟨_,(au (bh (i:=4) dU.nd rfl (Or.inl rfl) (bX bL (by rfl) T.len bH (ae (pv 1) ai)))
   (au (cT (PW.pt (mV (bc vd (pv 4) ar (bB _)) (jm (bc eB (dg (bE T) hr T.bf T.bx.kp T.bD (ae (pv 0) (ae ar ai))) ar (bB _))))) (aB (aV (df (ae (pv 1) (ae (pv 2) (ae (pv 3) ai)))))) bS)
   (au (eT PassesOwn.never rfl (cK rfl T.range (ae (bT fL ar (dg (bE T) hr T.bf T.bx.kp T.bD (ae (pv 0) (ae ar ai)))) ai)) (aR (i:=5) dU.nd)
    (au (bh (i:=6) dU.nd rfl (Or.inl rfl) (dg (bE T) hr T.bf T.bx.kp T.bD (ae (pv 0) (ae (pv 4) ai))))
   (au (bh (i:=7) dU.nd rfl (Or.inl rfl) (bT pY (bT fL (bT fL (pv 6) ar) (dg (bE T) hr T.bf T.bx.kp T.bD (ae (pv 0) (ae (bT pX (pv 4) ar) ai)))) (pv 4)))
   (au (bh (i:=8) dU.nd rfl (Or.inl rfl) (df (ae (bJ bZ (dX (ae ar (ae (ym sS ar) (ae ar (ae (ym sS ar) ai))))) (dg (bE T) hr T.bf T.bx.kp T.bD (ae (pv 0) (ae ar ai)))) (ae ar ai))))
   (au (bh (i:=9) dU.nd rfl (Or.inl rfl) (df (ae (bT pX ar (bJ cO (pv 8) ar)) (ae ar ai))))
   (au (eV (dg (wC T) hr T.rj T.pS.kp T.t8 (ae (bJ bZ (pv 1) (pv 6)) (ae (dg (z7 T) hr T.vR T.uW.kp T.yd (ae (pv 8) (ae (bJ bZ (pv 1) (pv 7)) ai))) ai))) (h8 (pv 1) (pv 6) set_list))
   (au (eT PassesOwn.never rfl (cZ (bT tF (pv 1) (pv 3))) (aR (i:=10) dU.nd)
    (aB (eV (dg (mJ T) hr T.jG T.jr.kp T.kT (ae (bJ bZ (pv 10) (pv 7)) (ae (dg (mZ T) hr T.j8 T.jM.kp T.mO (ae (pv 9) (ae (bJ bZ (pv 10) (pv 6)) ai))) ai))) (h8 (pv 10) (pv 7) set_list))))
   (aB (eT PassesOwn.never rfl (cZ (pv 2)) (aR (i:=10) dU.nd)
    (aB (eV (dg (mJ T) hr T.jG T.jr.kp T.kT (ae (bJ bZ (pv 10) (pv 6)) (ae (dg (mZ T) hr T.j8 T.jM.kp T.mO (ae (pv 8) (ae (bJ bZ (pv 10) (pv 7)) ai))) ai))) (h8 (pv 10) (pv 6) set_list))))))))))))
   (aB (aV (df (ae (pv 1) (ae (pv 2) (ae (pv 3) ai))))))))),?_⟩
  refine aU (σ:=[some (.ref b),some (.ref m),some (.ref p),some (.ref l),none,none,none,none,none,none,none]) rfl ?_;have done:∀r us' H' t,t<=3->H' r=some (.tup [.ref m,.ref p,.ref l])->ks K A H' n (fun x=>Fr (μ x) (9^t*WV)) m p l b q0 us' ws vs->iU A b m H H'->Q (.ref r) H':=fun r us' H' t ht g x kp=>k r us' H' g (x.weak fun _ _ y h=>h.mono (aA _ (aj (by decide) ht))) kp
  have X0:ks K A H n (fun x=>Fr (μ x) (9^0*WV)) m p l b q0 us ws vs:=X.weak fun _ _ y h=>h.mono (by simp)
  clear X k;have gu:=X0.gm;have lu:=X0.lm;walk_at "w";refine ⟨_,_,rfl,.inl (bV.of gu),?_⟩;rw[lu];clear gu lu;have kp0:iU A b m H H:=fun _ _ h _ _ _=>h
  walk_at "w";refine gG (fun h0=>?_) (fun h0=>?_)
  ·walk_at "w";refine b9 fun r H' s' g'=>?_
   exact done r us H' 0 (by decide) g' (X0.same s') (kp0.same s')
  have n2:2<=n:=by
   rcases dh n 2 with z | z
   ·exact absurd (decide_eq_true (show (n:Int) < 2 by lia)) h0
   ·exact z
  walk_at "w";refine ⟨b,2,rfl,X0.bag,by decide,by decide,fun v H1 v0 v1 B1 u1=>?_⟩;have X1:=X0.upto MA u1 B1;have kp1:=kp0.upto u1;walk_at "w";refine gG (fun h1=>?_) (fun h1=>?_)
  ·walk_at "w";refine b9 fun r H' s' g'=>?_
   exact done r us H' 0 (by decide) g' (X1.same s') (kp1.same s')
  walk_at "w";refine ⟨b,3,rfl,B1,by decide,by decide,fun c H2 c0 c1 B2 u2=>?_⟩;have X2:=X1.upto MA u2 B2;have kp2:=kp1.upto u2;clear X0 X1 kp0 kp1 u1 u2 B1;walk_at "w";refine ⟨by lia,by lia,?_⟩;refine fM (n:=(1+c).toNat) (fun t σ' H'=>∃(x1 x2 x3 x4 x5 x6:Option V) (us:List V),σ'=[some (.ref b),some (.ref m),some (.ref p),some (.ref l),some (.int n),x1,x2,x3,x4,x5,x6]/\ks K A H' n (fun x=>Fr (μ x) (9^t*WV)) m p l b q0 us ws vs/\iU A b m H H') ⟨none,none,none,none,none,none,us,rfl,X2,kp2⟩ ?_ ?_
  ·rintro t σ' H' ht ⟨x1,x2,x3,x4,x5,x6,us,rfl,X,kp⟩;have t3:t<=2:=by lia
   walk_at "w";refine ⟨b,n,rfl,X.bag,by lia,by lia,fun ii Ha i0 i1 Ba ua=>?_⟩;obtain ⟨ii,rfl⟩:=b8 i0;have Xa:=X.upto MA ua Ba;have kpa:=kp.upto ua;walk_at "w";refine ⟨b,_,rfl,Ba,by lia,by lia,fun d Hb d0 d1 Bb ub=>?_⟩;have Xb:=Xa.upto MA ub Bb;have kpb:=kpa.upto ub;walk_at "w";refine h7 (show (0:Int) < n by lia) ?_;have j0:=nV ((ii:Int)+1+d) (show (n:Int)≠0 by lia);have j1:=jk ((ii:Int)+1+d) (show (0:Int) < n by lia);generalize ((ii:Int)+1+d) % (n:Int)=jj at j0 j1 ⊢;obtain ⟨jj,rfl⟩:=b8 j0;walk_at "w";refine dz fun l0 Hc sc nc gc=>?_
   walk_at "w";refine ⟨b,4,rfl,Bb.same sc,by decide,by decide,fun v' Hd v0' v1' Bd ud=>?_⟩;have gd:=ud.other (fun z=>Bb.at (by rw[<- z];exact nc)) gc;obtain ⟨x,ex,mx,_⟩:=qQ (xs:=[V.int 1,V.int (-1),V.int 2,V.int (-2)]) v0' (by simpa using v1')
   obtain ⟨z,rfl,hz⟩:∃z:Int,x=.int z/\z.natAbs<=2:=by
    simp only[aG,aZ,or_false] at mx;rcases mx with rfl | rfl | rfl | rfl
    ·exact ⟨1,rfl,by decide⟩
    ·exact ⟨-1,rfl,by decide⟩
    ·exact ⟨2,rfl,by decide⟩
    ·exact ⟨-2,rfl,by decide⟩
   have Xd:=(Xb.same sc).upto MA ud Bd;have kpd:=(kpb.same sc).upto ud;walk_at "w";refine cN (bV.of gd) ex ?_;walk_at "w";refine b9 fun bt He se ge=>?_
   walk_at "w";refine b9 fun lt Hf sf gf=>?_
   have Xf:=(Xd.same se).same sf;have kpf:=(kpd.same se).same sf;have nb:cB K Hf ((z:Int):Rat) (.ref bt):=cB.mk (sf _ _ ge) rfl;have nl:cB K Hf ((0 - z:Int):Rat) (.ref lt):=cB.mk gf rfl;clear X Xa Xb Xd kp kpa kpb kpd ua ub ud sc gc gd ex mx ge gf se sf Ba Bb Bd nc;have gu:=Xf.gm;have lu:=Xf.lm
   have ru:∀x∈us,fN K A Hf n (Fr M (9^t*WV)) x:=fun x hx=>by
    have:=Xf.row x (by simp [hx]);rwa [eM x (Xf.apart.1 x hx).1 (Xf.apart.1 x hx).2] at this
   have hM:0 < M/\M<=2^800:=by
    have hx:us[ii]'(by lia)∈us:=aT _;have:=eM _ (Xf.apart.1 _ hx).1 (Xf.apart.1 _ hx).2;rw[<- this];exact ⟨M0 _,M1 _⟩
   have e1:us[ii]?=some (us[ii]'(by lia)):=by simp
   have e2:us[jj]?=some (us[jj]'(by lia)):=by simp
   obtain ⟨q1,z1,qs1,w1,a1,g1,k1,p1,l1,c1⟩:=(ru _ (ay e1)).at;obtain ⟨q2,z2,qs2,w2,a2,g2,k2,p2,l2,c2⟩:=(ru _ (ay e2)).at;rw[w1] at e1;rw[w2] at e2;generalize eW:9^t*WV=W at *
   have W9:9*W<=2^140:=by rw[<- eW];exact LH (by lia) V1 (by decide)
   have sz9M:∀{x:Rat} {U:Nat},U<=9*W->Fr M U x->uf x:=fun hU h=>FR hM.1 hM.2 (ah hU W9) h
   have sz9:∀{x:Rat} {U:Nat} {v:V},U<=9*W->Fr (μ v) U x->uf x:=fun hU h=>FR (M0 _) (M1 _) (ah hU W9) h
   walk_at "w";refine cN (bV.of gu) (gN e1) ?_;walk_at "w";refine cN (bV.of gu) (gN e2) ?_;walk_at "w";refine ⟨_,q2,_,qs2,rfl,nb,BO (by lia),⟨z2,g2,p2⟩,by lia,fun y hy=>sz9M (by lia) (c2 y hy),fun r1 Hg n1 sg R1=>?_⟩;walk_at "w";refine ⟨q1,r1,qs1,_,rfl,⟨z1,sg _ _ g1,Paired.imp' (fun _ _ y=>y.same sg) p1⟩,R1,by rw[ao,l1,l2],by lia,fun y hy=>sz9M (by lia) (c1 y hy),fun y hy=>?_,fun r2 Hh n2' sh R2=>?_⟩
   ·obtain ⟨y',hy',rfl⟩:=aD.mp hy;exact zz hz (c2 y' hy') hM.1 hM.2 (by lia)
   have sfh:=sg.trans sh
   have new:V.ref r2∉us++vs++ws:=fun z=>by
    obtain ⟨q',_,_,e',_,g',_⟩:=((Xf.same sg).row _ z).at;cases e';rw[n2'] at g';cases g'
   have Xh:=(Xf.same sfh).weak (C':=fun x y=>(x∈ws->Fr (μ x) W y)/\Fr (μ x) (3*W) y) fun x _ y h=>⟨fun _=>h,h.mono (by lia)⟩
   have kph:=kpf.same sfh;have guh:=sfh _ _ gu;have ar2:A r2:=(kpf.same sg).new hA (Xf.same sg).bag (by rw[sg _ _ gu];simp) n2'
   have rp2:fN K A Hh n (fun y=>(V.ref r2∈ws->Fr (μ (.ref r2)) W y)/\Fr (μ (.ref r2)) (3*W) y) (.ref r2):=by
    rw[eM (.ref r2) (fun z=>new (ax.mpr (.inr z))) (fun z=>new (ax.mpr (.inl (ax.mpr (.inr z)))))];refine ⟨r2,_,rfl,ar2,R2,by rw[ck,ao];lia,fun y hy=>⟨fun z=>absurd (ax.mpr (.inr z)) new,?_⟩⟩;obtain ⟨j',hj',e⟩:=cz hy;rw[kz,fG] at e;rw[<- e];exact Cw hz (c1 _ (aT _)) (c2 _ (aT _))
   walk_at "w";refine fb guh (fv (by lia)) rfl ?_;have Xi:=Xh.set MA rp2 new ii;have kpi:=kph.upd (o:=.lst (us.set ii (.ref r2))) (q:=m) (.inr rfl);have nli:cB K (upd Hh m (.lst (us.set ii (.ref r2)))) ((0 - z:Int):Rat) (.ref lt):=(nl.same sfh).updL guh;have nbi:cB K (upd Hh m (.lst (us.set ii (.ref r2)))) ((z:Int):Rat) (.ref bt):=(nb.same sfh).updL guh;generalize upd Hh m (.lst (us.set ii (.ref r2)))=Hi at Xi kpi nli nbi ⊢;generalize us.set ii (.ref r2)=um at Xi;clear nb nl Xf kpf gu ru e1 e2 g1 p1 g2 p2 R1 R2 Xh kph guh rp2 sg sh sfh new;have gm:=Xi.gm;have lm:=Xi.lm;have gl:=Xi.gl;have nd:=Xi.nd;obtain ⟨nd1,nd2,nd3⟩:=du.mp nd;walk_at "w";refine tq gm gl (bp (bK (by lia))) fun cl Hj sj nj gj=>?_
   have kpj:=kpi.same sj
   have rows:∀x∈um++vs,∀q,x=V.ref q->q≠cl:=fun x hx q e y=>by
    obtain ⟨q',zs,_,e',_,g',_⟩:=(Xi.row x (ax.mpr (.inl hx))).at;rw[e] at e';cases e';rw[y,nj] at g';cases g'
   have Xj:=(Xi.same sj).weak (C':=fun x y=>(x∈ws->Fr (μ x) W y)/\(x∈(um++vs).drop 0->Fr (μ x) (3*W) y)/\Fr (μ x) (9*W) y) fun x _ y h=>⟨h.1,fun _=>h.2,h.2.mono (by lia)⟩
   have lj:cB K Hj ((0 - z:Int):Rat) (.ref lt):=nli.same sj;have bj:cB K Hj ((z:Int):Rat) (.ref bt):=nbi.same sj;clear Xi kpi nli nbi;refine ⟨_,rfl,⟨_,bV.of gj⟩,?_⟩;refine i8 (K:=K) (a:=cl) (xs:=um++vs) (fun s σ' H'=>∃x6:Option V,σ'=[some (.ref b),some (.ref m),some (.ref p),some (.ref l),some (.int n),some (.int t),some (.int ii),some (.int jj),some (.ref bt),some (.ref lt),x6]/\ks K A H' n (fun x y=>(x∈ws->Fr (μ x) W y)/\(x∈(um++vs).drop s->Fr (μ x) (3*W) y)/\Fr (μ x) (9*W) y) m p l b q0 um ws vs/\iU A b m H H'/\H' cl=some (.lst (um++vs))/\cB K H' ((0 - z:Int):Rat) (.ref lt)/\cB K H' ((z:Int):Rat) (.ref bt)) ⟨_,rfl,Xj,kpj,gj,lj,bj⟩ (fun s σ' H' _ ⟨_,_,_,_,e,_⟩=>bV.of e) ?_ ?_
   ·rintro s x σ' Hk hx ⟨y6,rfl,Xk,kpk,gk,lk,bk⟩;have hs:s < (um++vs).length:=(aH.mp hx).1;have mx:=ay hx
    have xd:x∈(um++vs).drop s:=by
     rw[eG hs,(aH.mp hx).2];exact .head _
    have xd2:x∉(um++vs).drop (s+1):=fun z=>by
     have:=nd1.sublist (List.drop_sublist s _);rw[eG hs,eE,(aH.mp hx).2] at this;exact this.1 z
    have xw:x∉ws:=fun z=>nd3 x mx x z rfl
    have rx:=Xk.row x (ax.mpr (.inl mx));obtain ⟨q,zs,qs,rfl,aq,gq,lq,pq,lq2,cq⟩:=rx.at;have qcl:=rows _ mx q rfl;obtain ⟨vj,ej,nj'⟩:=JR pq (j:=jj) (by lia);obtain ⟨vi,ei,ni'⟩:=JR pq (j:=ii) (by lia);have cj:=(cq _ (getD_mem (xs:=qs) (i:=jj) (by lia))).2.1 xd;have ci:=(cq _ (getD_mem (xs:=qs) (i:=ii) (by lia))).2.1 xd;walk_at "w";refine cN (bV.of gq) ej ?_;walk_at "w";refine cN (bV.of gq) ei ?_;walk_at "w";refine ⟨_,_,_,_,rfl,lk,ni',BO (by lia),sz9 (by lia) ci,fun r3 Hl sl n3=>?_⟩;walk_at "w";refine ⟨_,_,_,_,rfl,nj'.same sl,n3,sz9 (by lia) cj,zz (by lia) ci (M0 _) (M1 _) (by lia),fun r4 Hm sm n4=>?_⟩;have slm:=sl.trans sm;walk_at "w";refine fb (slm _ _ gq) (fv (by lia)) rfl ?_;refine ⟨_,rfl,?_,(kpk.same slm).upd (.inl aq),by rw[bu qcl.symm];exact slm _ _ gk,(lk.same slm).updL (slm _ _ gq),(bk.same slm).updL (slm _ _ gq)⟩;refine ((Xk.same slm).weak fun x' _ y h=>⟨h.1,fun z=>h.2.1 ?_,h.2.2⟩).put MA aq (slm _ _ gq) n4 ⟨fun z=>absurd z xw,fun z=>absurd z xd2,?_⟩ jj
    ·rw[eG hs];exact .tail _ z
    ·exact (Cw (by lia) cj ci).mono (by lia)
   ·rintro σ' Hk ⟨y6,rfl,Xk,kpk,gk,lk,bk⟩;have gp:=Xk.gp;have Xk2:=Xk.weak (C':=fun x y=>(x∈ws.drop 0->Fr (μ x) W y)/\Fr (μ x) (9*W) y) fun x _ y h=>⟨fun z=>h.1 (by simpa using z),h.2.2⟩
    clear Xk;walk_at "w";refine ⟨⟨_,bV.of gp⟩,?_⟩;refine i8 (K:=K) (a:=p) (xs:=ws) (fun s σ' H'=>∃x6:Option V,σ'=[some (.ref b),some (.ref m),some (.ref p),some (.ref l),some (.int n),some (.int t),some (.int ii),some (.int jj),some (.ref bt),some (.ref lt),x6]/\ks K A H' n (fun x y=>(x∈ws.drop s->Fr (μ x) W y)/\Fr (μ x) (9*W) y) m p l b q0 um ws vs/\iU A b m H H'/\cB K H' ((z:Int):Rat) (.ref bt)) ⟨_,rfl,Xk2,kpk,bk⟩ (fun s σ' H' _ ⟨_,_,X,_⟩=>bV.of X.gp) ?_ ?_
    ·rintro s x σ' Hl hx ⟨w6,rfl,Xl,kpl,bl⟩;have hs:s < ws.length:=(aH.mp hx).1;have mx:=ay hx
     have xd:x∈ws.drop s:=by
      rw[eG hs,(aH.mp hx).2];exact .head _
     have xd2:x∉ws.drop (s+1):=fun z=>by
      have:=nd2.sublist (List.drop_sublist s _);rw[eG hs,eE,(aH.mp hx).2] at this;exact this.1 z
     have rx:=Xl.row x (ax.mpr (.inr mx));obtain ⟨q,zs,qs,rfl,aq,gq,lq,pq,lq2,cq⟩:=rx.at;obtain ⟨vj,ej,nj'⟩:=JR pq (j:=jj) (by lia);obtain ⟨vi,ei,ni'⟩:=JR pq (j:=ii) (by lia);have cj:=(cq _ (getD_mem (xs:=qs) (i:=jj) (by lia))).1 xd;have ci:=(cq _ (getD_mem (xs:=qs) (i:=ii) (by lia))).1 xd;walk_at "w";refine cN (bV.of gq) ei ?_;walk_at "w";refine cN (bV.of gq) ej ?_;walk_at "w";refine ⟨_,_,_,_,rfl,bl,nj',BO (by lia),sz9 (by lia) cj,fun r3 Hm sm n3=>?_⟩;walk_at "w";refine ⟨_,_,_,_,rfl,ni'.same sm,n3,sz9 (by lia) ci,zz (by lia) cj (M0 _) (M1 _) (by lia),fun r4 Hn sn n4=>?_⟩;have smn:=sm.trans sn;walk_at "w";refine fb (smn _ _ gq) (fv (by lia)) rfl ?_;refine ⟨_,rfl,?_,(kpl.same smn).upd (.inl aq),(bl.same smn).updL (smn _ _ gq)⟩;refine ((Xl.same smn).weak fun x' _ y h=>⟨fun z=>h.1 ?_,h.2⟩).put MA aq (smn _ _ gq) n4 ⟨fun z=>absurd z xd2,?_⟩ ii
     ·rw[eG hs];exact .tail _ z
     ·exact (Cw (by lia) ci cj).mono (by lia)
    ·rintro σ' Hl ⟨w6,rfl,Xl,kpl,bl⟩;refine ⟨_,_,_,_,_,_,um,rfl,Xl.weak fun _ _ y h=>h.2.mono ?_,kpl⟩;rw[<- eW,fw,bU (9^t) 9,cw];exact av _
  ·rintro σ' H' ⟨x1,x2,x3,x4,x5,x6,us',rfl,X,kp⟩;walk_at "w";refine b9 fun r H2' s' g'=>?_
   exact done r us' H2' _ (by lia) g' (X.same s') (kp.same s')
theorem jU:bo ["_law_bag_here","_law_n","_law_move_here","_law_put","_law_look"] ["_law_bag_here"] (az jC):=by walk_at "d"
theorem Ck (T:Txt K mg Z):cS P w K mg base gZ 5 Z.pQ Z.pz ["_law_bag_here"] (KS K):=by
 refine T.ur.ok jU (fun vs H Q E h=>?_) (fun cdv A outer s H vs Q E hr h=>?_)
 ·obtain ⟨b,rfl,hB,k⟩:=h;rfl
 ·obtain ⟨b,rfl,hB,k⟩:=h
  refine ⟨_,(au (bh (i:=1) jU.nd rfl (Or.inr rfl) (bT fL ar (dg (bE T) hr T.bf T.bx.kp T.bD (ae (pv 0) (ae ar ai)))))
   (au (oS 2 ["_law_i"] ["_law_n"] [1] jU.nd rfl rfl (cK rfl T.range (ae (pv 1) ai)) (fun _=>(aR (i:=0) (show List.Nodup (α:=PySem.Str) ["_law_i","_law_n"] by decide +kernel) rfl (Or.inr rfl) (Or.inl rfl))) (fun _=>cP) (fun _=>(cQ ["_law_j"] ["_law_i"] [0] (cK rfl T.range (ae (pv 1) ai)) (fun _=>(aR (i:=0) (show List.Nodup (α:=PySem.Str) ["_law_j","_law_i"] by decide +kernel))) (fun _=>cP) (fun _=>(df (ae (e8 qL (by rfl) T.int PyProof.Rows.boot_int (ae (lC eB (pv 0) (bT fL (pv 1) ar) (bB _)) ai)) (ae ar ai)))))))
   (au (bh (i:=3) jU.nd rfl (Or.inl rfl) (dX (ae (cQ ["_law_j"] ["_law_n"] [1] (cK rfl T.range (ae (pv 1) ai)) (fun _=>(aR (i:=0) (show List.Nodup (α:=PySem.Str) ["_law_j","_law_n"] by decide +kernel))) (fun _=>cP) (fun _=>(df (ae (e8 qL (by rfl) T.int PyProof.Rows.boot_int (ae (lC eB (pv 0) (bT pX (pv 1) ar) (bB _)) ai)) (ae ar ai))))) ai)))
   (au (bh (i:=4) jU.nd rfl (Or.inl rfl) (dX (ae (cQ ["_law_j"] [] [] (cK rfl T.range (ae (pv 1) ai)) (fun _=>(aR (i:=0) (show List.Nodup (α:=PySem.Str) ["_law_j"] by decide +kernel))) (fun _=>cP) (fun _=>(df (ae (e8 qL (by rfl) T.int PyProof.Rows.boot_int (ae (lC eB (pv 0) ar (bB _)) ai)) (ae ar ai))))) ai)))
   (aB (aV (dg (vg T) hr T.p7 T.nR.kp T.rO (ae (pv 0) (ae (pv 2) (ae (pv 3) (ae (pv 4) ai))))))))))),?_⟩
  refine aU (σ:=[some (.ref b),none,none,none,none]) rfl ?_;obtain ⟨q0,I0,xs0,gq0⟩:=hB.inner;walk_at "w";refine ⟨b,3,rfl,hB,by decide,by decide,fun t Ha t0 t1 Ba ua=>?_⟩;obtain ⟨t,rfl⟩:=b8 t0;walk_at "w";obtain ⟨n,en,n6,n8⟩:∃n:Nat,(6:Int)+(t:Int)=(n:Int)/\6<=n/\n<=8:=⟨6+t,by lia,by lia,by lia⟩;rw[en];refine ⟨by lia,by lia,?_⟩;refine E4 (K:=K) (n:=n) (fun (i:Nat)=>(List.range n).map fun (j:Nat)=>(((if decide ((j:Int)=(i:Int)+1)=true then 1 else 0:Int)):Rat)) (by lia) ?_ ?_
  ·rintro i Hb NY NN hi sa k1;walk_at "w";refine ⟨by lia,by lia,?_⟩;refine gC (n:=n) (cB K) (fun (j:Nat)=>(((if decide ((j:Int)=(i:Int)+1)=true then 1 else 0:Int)):Rat)) (by lia) (fun a b=>a.same b) ?_ ?_
   ·rintro j Hz NY2 NN2 hj sz k2;walk_at "w";refine b9 fun t Hy sy gy=>?_
    exact k2 _ _ sy (cB.mk gy rfl)
   ·rintro ys Hz t ht sz g pr nx;exact k1 _ _ sz ht ⟨ys,g,pr⟩
  rintro ys H1 mm hm s1 g1 nd1 pr1 nx1;walk_at "w";refine ⟨by lia,by lia,?_⟩;refine gC (n:=n) (cB K) (fun (j:Nat)=>(((if decide ((j:Int)=(n:Int) - 1)=true then 1 else 0:Int)):Rat)) (by lia) (fun a b=>a.same b) ?_ ?_
  ·rintro j Hz NY2 NN2 hj sz k2;walk_at "w";refine b9 fun t Hy sy gy=>?_
   exact k2 _ _ sy (cB.mk gy rfl)
  rintro ys2 H2 q2 hq2 s2 g2 pr2 nx2;walk_at "w";refine dz fun p3 H3 s3 n3 g3=>?_
  have q23:q2≠p3:=fun z=>by rw[z,n3] at g2;cases g2
  have hp3:H1 p3=none:=s2.none n3;walk_at "w";refine ⟨by lia,by lia,?_⟩;refine gC (n:=n) (cB K) (fun (j:Nat)=>(((if decide ((j:Int)=0)=true then 1 else 0:Int)):Rat)) (by lia) (fun a b=>a.same b) ?_ ?_
  ·rintro j Hz NY2 NN2 hj sz k2;walk_at "w";refine b9 fun t Hy sy gy=>?_
   exact k2 _ _ sy (cB.mk gy rfl)
  rintro ys4 H4 q4 hq4 s4 g4 pr4 nx4;walk_at "w";refine dz fun p5 H5 s5 n5 g5=>?_
  have q45:q4≠p5:=fun z=>by rw[z,n5] at g4;cases g4
  have hp5:H3 p5=none:=s4.none n5;have s35:=s4.trans s5;have s23:=s2.trans s3;have s15:=s23.trans s35;have s05:=s1.trans s15;have B5:=Ba.same s05;have hu:∀{q},Ha q=none->H q=none:=fun h=>ua.none Ba h
  have hm0:H mm=none:=hu hm;have hp0:H p3=none:=hu (s1.none hp3);have hl0:H p5=none:=hu (s1.none (s23.none hp5));have mb:mm≠b:=fun z=>Ba.at (by rw[<- z];exact hm)
  have pb:p3≠b:=fun z=>hB.at (by rw[<- z];exact hp0)
  have lb:p5≠b:=fun z=>hB.at (by rw[<- z];exact hl0)
  have g13:=s23 _ _ g1;have mp:mm≠p3:=fun z=>by rw[z,hp3] at g1;cases g1
  have ml:mm≠p5:=fun z=>by rw[z,hp5] at g13;cases g13
  have pl:p3≠p5:=fun z=>by rw[z,hp5] at g3;cases g3
  have mq:mm≠q0:=fun z=>Inner.at Ba (ua.2 _ I0) (by rw[<- z];exact hm)
  have g15:=s15 _ _ g1;have g35:=s35 _ _ g3;obtain ⟨A,eA⟩:∃A:Addr->Prop,A=fun q=>H q=none/\q≠mm/\q≠p3/\q≠p5:=⟨_,rfl⟩
  have mkA:∀{q},H q=none->q≠mm->q≠p3->q≠p5->A q:=fun h1 h2 h3 h4=>by rw[eA];exact ⟨h1,h2,h3,h4⟩
  have unA:∀{q},A q->H q=none/\q≠mm/\q≠p3/\q≠p5:=fun h=>by rw[eA] at h;exact h
  have MA:D3 A mm p3 p5 b q0:=⟨fun z=>(unA z).2.1 rfl,fun z=>(unA z).2.2.1 rfl,fun z=>(unA z).2.2.2 rfl,fun z=>hB.at (unA z).1,(fun z=>by have z1:=(unA z).1;rw[gq0] at z1;cases z1),mb,pb,lb,mp,ml,mq⟩;clear eA;have f01:∀{i:Int},i=0\/i=1->Fr 1 1 (i:Rat):=fun h=>OY h
  have R2:cR K H5 q2 _:=cR.same ⟨ys2,g2,pr2⟩ (s3.trans s35);have R4:cR K H5 q4 _:=cR.same ⟨ys4,g4,pr4⟩ s5;have g23:=s3 _ _ g2
  have ney:∀y∈ys,∃q,y=V.ref q/\H1 q≠none:=fun y hy=>by
   obtain ⟨_,_,q,e,_,_,gg,_⟩:=dF pr1 hy;exact ⟨q,e,by rw[gg];exact fun z=>nomatch z⟩
  have X5:ks K A H5 n (fun _=>Fr 1 1) mm p3 p5 b q0 ys [.ref q2] [.ref q4]:=by
   refine ⟨B5,(s05.upto (p:=b)).2 _ (ua.2 _ I0),g15,g35,g5,by rw[<- pr1.length,ao,cD],fun x hx=>?_,?_⟩
   ·rcases ax.mp hx with hx | hx
    ·rcases ax.mp hx with hx | hx
     ·refine fN.same (EC (A:=A) pr1 (fun qs hq=>?_) (fun q hq a b'=>?_) x hx) s15
      ·obtain ⟨i,_,rfl⟩:=aD.mp hq;refine ⟨by rw[ao,cD],fun y hy=>?_⟩;obtain ⟨j,_,rfl⟩:=aD.mp hy;exact f01 (by split <;> simp)
      ·have b3:H3 q≠none:=fun z=>b' (s23.none z)
       exact mkA (hu a) (fun y=>nx1 (by rw[<- y];exact hq)) (fun y=>b' (by rw[y];exact hp3)) (fun y=>b3 (by rw[y];exact hp5))
     ·rw[bW.mp hx];refine ⟨q4,_,rfl,mkA (hu (s1.none (s23.none hq4))) (fun y=>by rw[y,g13] at hq4;cases hq4) (fun y=>by rw[y,g3] at hq4;cases hq4) q45,R4,by rw[ao,cD],fun y hy=>?_⟩;obtain ⟨j,_,rfl⟩:=aD.mp hy;exact f01 (by split <;> simp)
    ·rw[bW.mp hx];refine ⟨q2,_,rfl,mkA (hu (s1.none hq2)) (fun y=>by rw[y,g1] at hq2;cases hq2) q23 (fun y=>by rw[y,hp5] at g23;cases g23),R2,by rw[ao,cD],fun y hy=>?_⟩;obtain ⟨j,_,rfl⟩:=aD.mp hy;exact f01 (by split <;> simp)
   ·refine du.mpr ⟨du.mpr ⟨nd1,by simp,fun a ha c hc z=>?_⟩,by simp,fun a ha c hc z=>?_⟩
    ·rw[bW.mp hc] at z;obtain ⟨q,e,h⟩:=ney a ha;rw[z] at e;cases e;exact h (s23.none hq4)
    ·rw[bW.mp hc] at z;rcases ax.mp ha with ha | ha
     ·obtain ⟨q,e,h⟩:=ney a ha;rw[z] at e;cases e;exact h hq2
     ·rw[bW.mp ha] at z;cases z;rw[g23] at hq4;cases hq4
  clear pr1 nx1 pr2 nx2 pr4 nx4 R2 R4 g1 g2 g3 g4 g13 g23;walk_at "w";refine ⟨b,mm,p3,p5,q0,n,1,fun _=>1,A,ys,[.ref q2],[.ref q4],rfl,MA,X5,n8,by simp,by simp,fun _=>Nat.zero_lt_one,fun _=>cE,⟨1,fun _ _ _=>rfl⟩,by decide,fun q hq=>?_,fun r us' H' g Y kp=>?_⟩
  ·exact mkA (hu (s05.none hq)) (fun z=>by rw[z,g15] at hq;cases hq) (fun z=>by rw[z,g35] at hq;cases hq) (fun z=>by rw[z,g5] at hq;cases hq)
  ·obtain ⟨mv,Gm,lmv,hmv⟩:=kS (H0:=H) (n:=n) (C:=Fr 1 (9^3*1)) (m:=n) ⟨us',Y.gm,Y.lm,MA.am,fun x hx=>Y.row x (by simp [hx])⟩ fun q h=>(unA h).1
   obtain ⟨pt,Gp,lpt,hpt⟩:=kS (H0:=H) (n:=n) (C:=Fr 1 (9^3*1)) (m:=1) ⟨_,Y.gp,rfl,MA.ap,fun x hx=>Y.row x (ax.mpr (.inr hx))⟩ fun q h=>(unA h).1
   obtain ⟨lk,Gl,llk,hlk⟩:=kS (H0:=H) (n:=n) (C:=Fr 1 (9^3*1)) (m:=1) ⟨_,Y.gl,rfl,MA.al,fun x hx=>Y.row x (ax.mpr (.inl (ax.mpr (.inr hx))))⟩ fun q h=>(unA h).1
   refine k r mv pt lk H' ⟨mm,p3,p5,g,hm0,hp0,hl0,Gm,Gp,Gl⟩ (by lia) ⟨by lia,by lia,by lia,fun xs hx=>by rw[(hmv xs hx).1,lmv],fun xs hx=>by rw[(hpt xs hx).1,lmv],fun xs hx=>by rw[(hlk xs hx).1,lmv]⟩ (fun xs hx=>(hmv xs hx).2) (fun xs hx=>(hpt xs hx).2) (fun xs hx=>(hlk xs hx).2) Y.bag ⟨fun c' u e n1=>kp c' u (s05 _ _ (ua.1 c' u e n1)) n1 (fun z=>by have:=(unA z).1;rw[e] at this;cases this) (fun z=>by rw[z,hm0] at e;cases e),fun q h=>by rw[<- Inner.inj I0 h];exact Y.inn⟩
theorem AX:∃x1 x2 x3 x4 x5 x6 x7 x8 x9 x10 x11 x12 x13 x14 x15 x16:Expr,x1=(Expr.Constant (Const.int 0) 0 ⟨308,16,308,17⟩)/\x2=(Expr.Constant (Const.int 1) 0 ⟨308,19,308,20⟩)/\x3=(Expr.Constant (Const.int 1) 0 ⟨308,22,308,23⟩)/\x4=(Expr.Constant (Const.int 1) 0 ⟨308,25,308,26⟩)/\x5=(Expr.Constant (Const.int 2) 0 ⟨308,28,308,29⟩)/\x6=(Expr.Constant (Const.int 2) 0 ⟨308,31,308,32⟩)/\x7=(Expr.Constant (Const.int 3) 0 ⟨308,34,308,35⟩)/\x8=(Expr.Constant (Const.int 4) 0 ⟨308,37,308,38⟩)/\x9=(Expr.Constant (Const.int 0) 0 ⟨309,17,309,18⟩)/\x10=(Expr.Constant (Const.int 1) 0 ⟨309,20,309,21⟩)/\x11=(Expr.Constant (Const.int 1) 0 ⟨309,23,309,24⟩)/\x12=(Expr.Constant (Const.int 1) 0 ⟨309,26,309,27⟩)/\x13=(Expr.Constant (Const.int 2) 0 ⟨309,29,309,30⟩)/\x14=(Expr.Constant (Const.int 2) 0 ⟨309,32,309,33⟩)/\x15=(Expr.Constant (Const.int 3) 0 ⟨309,35,309,36⟩)/\x16=(Expr.Constant (Const.int 4) 0 ⟨309,38,309,39⟩)/\be fK=[ (Stmt.Assign (targets:=[(Expr.Name "_law_n" ⟨305,4,305,10⟩)]) (value:=(Expr.Call (func:=(Expr.Name "_law_take" ⟨305,13,305,22⟩)) (args:=[ (Expr.Name "_law_bag_here" ⟨305,23,305,36⟩),(Expr.Constant (Const.int 5) 0 ⟨305,38,305,39⟩)]) (keywords:=[]) (pos:=⟨305,13,305,40⟩))) (pos:=⟨305,4,305,40⟩)),(Stmt.If (test:=(Expr.Compare (left:=(Expr.Call (func:=(Expr.Name "_law_take" ⟨306,7,306,16⟩)) (args:=[ (Expr.Name "_law_bag_here" ⟨306,17,306,30⟩),(Expr.Constant (Const.int 8) 0 ⟨306,32,306,33⟩)]) (keywords:=[]) (pos:=⟨306,7,306,34⟩))) (ops:=[PySem.CmpOp.Eq]) (comparators:=[(Expr.Constant (Const.int 7) 0 ⟨306,38,306,39⟩)]) (pos:=⟨306,7,306,39⟩))) (body:=[ (Stmt.Assign (targets:=[(Expr.Name "_law_n" ⟨307,8,307,14⟩)]) (value:=(Expr.Constant (Const.int 5) 0 ⟨307,17,307,18⟩)) (pos:=⟨307,8,307,18⟩))]) (orelse:=[]) (pos:=⟨306,4,307,18⟩)),(Stmt.Assign (targets:=[(Expr.Name "_law_ins" ⟨308,4,308,12⟩)]) (value:=(Expr.Subscript (value:=(Expr.List (elts:=[x1,x2,x3,x4,x5,x6,x7,x8]) (pos:=⟨308,15,308,39⟩))) (slice:=(Expr.Call (func:=(Expr.Name "_law_take" ⟨308,40,308,49⟩)) (args:=[ (Expr.Name "_law_bag_here" ⟨308,50,308,63⟩),(Expr.Constant (Const.int 8) 0 ⟨308,65,308,66⟩)]) (keywords:=[]) (pos:=⟨308,40,308,67⟩))) (pos:=⟨308,15,308,68⟩))) (pos:=⟨308,4,308,68⟩)),(Stmt.Assign (targets:=[(Expr.Name "_law_outs" ⟨309,4,309,13⟩)]) (value:=(Expr.Subscript (value:=(Expr.List (elts:=[x9,x10,x11,x12,x13,x14,x15,x16]) (pos:=⟨309,16,309,40⟩))) (slice:=(Expr.Call (func:=(Expr.Name "_law_take" ⟨309,41,309,50⟩)) (args:=[ (Expr.Name "_law_bag_here" ⟨309,51,309,64⟩),(Expr.Constant (Const.int 8) 0 ⟨309,66,309,67⟩)]) (keywords:=[]) (pos:=⟨309,41,309,68⟩))) (pos:=⟨309,16,309,69⟩))) (pos:=⟨309,4,309,69⟩)),(Stmt.If (test:=(Expr.Compare (left:=(Expr.Name "_law_n" ⟨310,7,310,13⟩)) (ops:=[PySem.CmpOp.Eq]) (comparators:=[(Expr.Constant (Const.int 5) 0 ⟨310,17,310,18⟩)]) (pos:=⟨310,7,310,18⟩))) (body:=[ (Stmt.Assign (targets:=[ (Expr.Tuple (elts:=[(Expr.Name "_law_ins" ⟨311,8,311,16⟩),(Expr.Name "_law_outs" ⟨311,18,311,27⟩)]) (k:=0) (pos:=⟨311,8,311,27⟩))]) (value:=(Expr.Tuple (elts:=[ (Expr.Call (func:=(Expr.Name "min" ⟨311,31,311,34⟩)) (args:=[ (Expr.Name "_law_ins" ⟨311,35,311,43⟩),(Expr.Constant (Const.int 2) 0 ⟨311,45,311,46⟩)]) (keywords:=[]) (pos:=⟨311,31,311,47⟩)),(Expr.Call (func:=(Expr.Name "min" ⟨311,49,311,52⟩)) (args:=[ (Expr.Name "_law_outs" ⟨311,53,311,62⟩),(Expr.Constant (Const.int 2) 0 ⟨311,64,311,65⟩)]) (keywords:=[]) (pos:=⟨311,49,311,66⟩))]) (k:=0) (pos:=⟨311,30,311,67⟩))) (pos:=⟨311,8,311,67⟩))]) (orelse:=[]) (pos:=⟨310,4,311,67⟩)),(Stmt.Assign (targets:=[(Expr.Name "_law_wide" ⟨312,4,312,13⟩)]) (value:=(Expr.Subscript (value:=(Expr.List (elts:=[ (Expr.Constant (Const.int 4) 0 ⟨312,17,312,18⟩),(Expr.Constant (Const.int 4) 0 ⟨312,20,312,21⟩),(Expr.Constant (Const.int 9) 0 ⟨312,23,312,24⟩),(Expr.Constant (Const.int 1000000) 0 ⟨312,26,312,33⟩)]) (pos:=⟨312,16,312,34⟩))) (slice:=(Expr.Call (func:=(Expr.Name "_law_take" ⟨312,35,312,44⟩)) (args:=[ (Expr.Name "_law_bag_here" ⟨312,45,312,58⟩),(Expr.Constant (Const.int 4) 0 ⟨312,60,312,61⟩)]) (keywords:=[]) (pos:=⟨312,35,312,62⟩))) (pos:=⟨312,16,312,63⟩))) (pos:=⟨312,4,312,63⟩)),(Stmt.If (test:=(Expr.Compare (left:=(Expr.Name "_law_wide" ⟨313,7,313,16⟩)) (ops:=[PySem.CmpOp.Gt]) (comparators:=[(Expr.Constant (Const.int 9) 0 ⟨313,19,313,20⟩)]) (pos:=⟨313,7,313,20⟩))) (body:=[ (Stmt.Assign (targets:=[(Expr.Name "_law_n" ⟨314,8,314,14⟩)]) (value:=(Expr.Call (func:=(Expr.Name "min" ⟨314,17,314,20⟩)) (args:=[ (Expr.Name "_law_n" ⟨314,21,314,27⟩),(Expr.Constant (Const.int 2) 0 ⟨314,29,314,30⟩)]) (keywords:=[]) (pos:=⟨314,17,314,31⟩))) (pos:=⟨314,8,314,31⟩))]) (orelse:=[]) (pos:=⟨313,4,314,31⟩)),(Stmt.Return (value:=(some (Expr.Tuple (elts:=[ (Expr.Name "_law_n" ⟨315,12,315,18⟩),(Expr.Name "_law_ins" ⟨315,20,315,28⟩),(Expr.Name "_law_outs" ⟨315,30,315,39⟩),(Expr.Name "_law_wide" ⟨315,41,315,50⟩)]) (k:=0) (pos:=⟨315,11,315,51⟩)))) (pos:=⟨315,4,315,51⟩))]:=⟨_,_,_,_,_,_,_,_,_,_,_,_,_,_,_,_,rfl,rfl,rfl,rfl,rfl,rfl,rfl,rfl,rfl,rfl,rfl,rfl,rfl,rfl,rfl,rfl,by with_unfolding_all rfl⟩
theorem eH:bo ["_law_bag_here","_law_n","_law_ins","_law_outs","_law_wide"] ["_law_bag_here"] (az fK):=by walk_at "d"
theorem AS (T:Txt K mg Z):cS P w K mg base gZ 2 Z.nJ Z.ni ["_law_bag_here"] GI:=by
 refine T.sv.ok eH (fun vs H Q E h=>?_) (fun cdv A outer s H vs Q E hr h=>?_)
 ·obtain ⟨b,rfl,hB,k⟩:=h;rfl
 ·obtain ⟨b,rfl,hB,k⟩:=h;obtain ⟨x1,x2,x3,x4,x5,x6,x7,x8,x9,x10,x11,x12,x13,x14,x15,x16,hx1,hx2,hx3,hx4,hx5,hx6,hx7,hx8,hx9,hx10,hx11,hx12,hx13,hx14,hx15,hx16,hbd⟩:=AX;rw[hbd]
  refine ⟨_,(au (bh (i:=1) eH.nd rfl (Or.inl rfl) (dg (bE T) hr T.bf T.bx.kp T.bD (ae (pv 0) (ae ar ai))))
   (jF (cT (bc eB (dg (bE T) hr T.bf T.bx.kp T.bD (ae (pv 0) (ae ar ai))) ar (bB _)) (aB (bh (i:=1) eH.nd rfl (Or.inl rfl) ar)) bS)
   (au (bh (i:=2) eH.nd rfl (Or.inl rfl) (bJ bZ (dX (eh hx1 ar (eh hx2 ar (eh hx3 ar (eh hx4 ar (eh hx5 ar (eh hx6 ar (eh hx7 ar (eh hx8 ar ai))))))))) (dg (bE T) hr T.bf T.bx.kp T.bD (ae (pv 0) (ae ar ai)))))
   (au (bh (i:=3) eH.nd rfl (Or.inl rfl) (bJ bZ (dX (eh hx9 ar (eh hx10 ar (eh hx11 ar (eh hx12 ar (eh hx13 ar (eh hx14 ar (eh hx15 ar (eh hx16 ar ai))))))))) (dg (bE T) hr T.bf T.bx.kp T.bD (ae (pv 0) (ae ar ai)))))
   (jF (cT (bc eB (pv 1) ar (bB _)) (aB (Jp (i:=2) (j:=3) rfl eH.nd rfl rfl (by decide) rfl rfl (ae (bX (qK rfl) (by rfl) T.min PyProof.Rows.boot_min (ae (pv 2) (ae ar ai))) (ae (bX (qK rfl) (by rfl) T.min PyProof.Rows.boot_min (ae (pv 3) (ae ar ai))) ai)) rfl)) bS)
   (au (bh (i:=4) eH.nd rfl (Or.inl rfl) (bJ bZ (dX (ae ar (ae ar (ae ar (ae ar ai))))) (dg (bE T) hr T.bf T.bx.kp T.bD (ae (pv 0) (ae ar ai)))))
   (jF (cT (bc tE (pv 4) ar (bB _)) (aB (bh (i:=1) eH.nd rfl (Or.inl rfl) (bX (qK rfl) (by rfl) T.min PyProof.Rows.boot_min (ae (pv 1) (ae ar ai))))) bS)
   (aB (aV (df (ae (pv 1) (ae (pv 2) (ae (pv 3) (ae (pv 4) ai)))))))))))))),?_⟩
  refine aU (σ:=[some (.ref b),none,none,none,none]) rfl ?_;walk_at "w";refine ⟨b,5,rfl,hB,by decide,by decide,fun n H1 n0 n1 B1 u1=>?_⟩;obtain ⟨n,rfl⟩:=b8 n0;walk_at "w";refine ⟨fun σ' H'=>(∃n:Nat,σ'=[some (.ref b),some (.int n),none,none,none]/\n<=5)/\ig H' b/\cV b H H',?_,?_⟩
  ·walk_at "w";refine ⟨b,8,rfl,B1,by decide,by decide,fun v H2 v0 v1 B2 u2=>?_⟩;walk_at "w";refine gG (fun _=>?_) (fun _=>?_)
   ·walk_at "w";exact ⟨⟨5,rfl,by decide⟩,B2,u1.trans u2⟩
   ·walk_at "w";exact ⟨⟨n,rfl,by lia⟩,B2,u1.trans u2⟩
  clear n0 n1 u1 B1;rintro σ' H1 ⟨⟨n,rfl,n5⟩,B1,u1⟩;walk_at "w";refine dz fun l0 H2 s2 n2 g2=>?_
  walk_at "w";refine ⟨b,8,rfl,B1.same s2,by decide,by decide,fun v H3 v0 v1 B3 u3=>?_⟩;have g3:=u3.other (fun z=>B1.at (by rw[<- z];exact n2)) g2;obtain ⟨x,ex,mx,_⟩:=qQ (xs:=[V.int 0,V.int 1,V.int 1,V.int 1,V.int 2,V.int 2,V.int 3,V.int 4]) v0 (by simpa using v1)
  obtain ⟨i,rfl,hi⟩:∃z:Nat,x=.int z/\z<=4:=by
   simp only[aG,aZ,or_false] at mx;rcases mx with rfl | rfl | rfl | rfl | rfl | rfl | rfl | rfl
   ·exact ⟨0,rfl,by decide⟩
   ·exact ⟨1,rfl,by decide⟩
   ·exact ⟨1,rfl,by decide⟩
   ·exact ⟨1,rfl,by decide⟩
   ·exact ⟨2,rfl,by decide⟩
   ·exact ⟨2,rfl,by decide⟩
   ·exact ⟨3,rfl,by decide⟩
   ·exact ⟨4,rfl,by decide⟩
  walk_at "w";refine cN (bV.of g3) ex ?_;clear ex mx g3 g2;walk_at "w";refine dz fun l1 H4 s4 n4 g4=>?_
  walk_at "w";refine ⟨b,8,rfl,B3.same s4,by decide,by decide,fun t H5 t0 t1 B5 u5=>?_⟩;have g5:=u5.other (fun z=>B3.at (by rw[<- z];exact n4)) g4;obtain ⟨x,ex,mx,_⟩:=qQ (xs:=[V.int 0,V.int 1,V.int 1,V.int 1,V.int 2,V.int 2,V.int 3,V.int 4]) t0 (by simpa using t1)
  obtain ⟨o,rfl,ho⟩:∃z:Nat,x=.int z/\z<=4:=by
   simp only[aG,aZ,or_false] at mx;rcases mx with rfl | rfl | rfl | rfl | rfl | rfl | rfl | rfl
   ·exact ⟨0,rfl,by decide⟩
   ·exact ⟨1,rfl,by decide⟩
   ·exact ⟨1,rfl,by decide⟩
   ·exact ⟨1,rfl,by decide⟩
   ·exact ⟨2,rfl,by decide⟩
   ·exact ⟨2,rfl,by decide⟩
   ·exact ⟨3,rfl,by decide⟩
   ·exact ⟨4,rfl,by decide⟩
  walk_at "w";refine cN (bV.of g5) ex ?_;clear ex mx g5 g4;have u15:=(((u1.same s2).trans u3).same s4).trans u5;walk_at "w";refine ⟨fun σ' H'=>(∃i o:Nat,σ'=[some (.ref b),some (.int n),some (.int i),some (.int o),none]/\i<=4/\o<=4/\(n=5->i<=2/\o<=2))/\ig H' b/\cV b H H',?_,?_⟩
  ·walk_at "w";refine gG (fun h0=>?_) (fun h0=>?_)
   ·walk_at "w";refine ⟨⟨min i 2,min o 2,?_,by lia,by lia,fun _=>⟨by lia,by lia⟩⟩,B5,u15⟩;have e1:(if (2:Int) < (i:Int) then (2:Int) else (i:Int))=((min i 2:Nat):Int):=by split <;> lia
    have e2:(if (2:Int) < (o:Int) then (2:Int) else (o:Int))=((min o 2:Nat):Int):=by split <;> lia
    rw[<- e1,<- e2];rfl
   ·walk_at "w";exact ⟨⟨i,o,rfl,hi,ho,fun z=>absurd (decide_eq_true (show (n:Int)=5 by lia)) h0⟩,B5,u15⟩
  clear hi ho u15 B5 u5 u3 u1;rintro σ' H5 ⟨⟨i,o,rfl,hi,ho,h5⟩,B5,u5⟩;walk_at "w";refine dz fun l2 H6 s6 n6 g6=>?_
  walk_at "w";refine ⟨b,4,rfl,B5.same s6,by decide,by decide,fun v H7 v0 v1 B7 u7=>?_⟩;have g7:=u7.other (fun z=>B5.at (by rw[<- z];exact n6)) g6;obtain ⟨x,ex,mx,_⟩:=qQ (xs:=[V.int 4,V.int 4,V.int 9,V.int 1000000]) v0 (by simpa using v1)
  obtain ⟨w,rfl,hw⟩:∃w:Nat,x=.int w/\(w=4\/w=9\/w=1000000):=by
   simp only[aG,aZ,or_false] at mx;rcases mx with rfl | rfl | rfl | rfl
   ·exact ⟨4,rfl,.inl rfl⟩
   ·exact ⟨4,rfl,.inl rfl⟩
   ·exact ⟨9,rfl,.inr (.inl rfl)⟩
   ·exact ⟨1000000,rfl,.inr (.inr rfl)⟩
  walk_at "w";refine cN (bV.of g7) ex ?_;have u07:=(u5.same s6).trans u7;walk_at "w";refine ⟨fun σ' H'=>(∃n:Nat,σ'=[some (.ref b),some (.int n),some (.int i),some (.int o),some (.int w)]/\n<=5/\(w=4\/w=9\/(w=1000000/\n<=2))/\(n=5->i<=2/\o<=2))/\ig H' b/\cV b H H',?_,?_⟩
  ·walk_at "w";refine gG (fun h0=>?_) (fun h0=>?_)
   ·walk_at "w";refine ⟨⟨min n 2,?_,by lia,by lia,fun z=>by lia⟩,B7,u07⟩;have e1:(if (2:Int) < (n:Int) then (2:Int) else (n:Int))=((min n 2:Nat):Int):=by split <;> lia
    rw[<- e1];rfl
   ·walk_at "w";refine ⟨⟨n,rfl,n5,?_,h5⟩,B7,u07⟩;rcases hw with z | z | z
    ·exact .inl z
    ·exact .inr (.inl z)
    ·exact absurd (decide_eq_true (show (9:Int) < (w:Int) by lia)) h0
  ·clear h5 n5;rintro σ' H8 ⟨⟨n',rfl,n5,hwn,h5⟩,B8,u8⟩;walk_at "w";refine b9 fun r H9 s9 g9=>?_
   exact k r n' i o w H9 g9 n5 hi ho hwn h5 (B8.same s9) (u8.same s9)
theorem sY:bo ["_law_bag_here","_law_wide","_law_way"] ["_law_bag_here","_law_wide"] (az gi):=by walk_at "d"
theorem tJ (T:Txt K mg Z):cS P w K mg base gZ 2 Z.mf Z.lN ["_law_bag_here","_law_wide"] (Eo K):=by
 refine T.mC.ok sY (fun vs H Q E h=>?_) (fun cdv A outer s H vs Q E hr h=>?_)
 ·obtain ⟨b,w,rfl,hB,w0,w1,k⟩:=h;rfl
 ·obtain ⟨b,w,rfl,hB,w0,w1,k⟩:=h
  refine ⟨_,(au (bh (i:=2) sY.nd rfl (Or.inl rfl) (dg (bE T) hr T.bf T.bx.kp T.bD (ae (pv 0) (ae ar ai))))
   (au (cT (bc vd (pv 2) ar (bB _)) (aB (aV (df (ae ar (ae ar ai))))) bS)
   (au (cT (bc vd (pv 2) ar (bB _)) (aB (aV (df (ae (bT pX (dg (bE T) hr T.bf T.bx.kp T.bD (ae (pv 0) (ae ar ai))) ar) (ae ar ai))))) bS)
   (au (cT (bc eB (pv 2) ar (bB _)) (aB (aV (dg (mK T) hr T.jH T.js.kp T.kU (ae (bT pX (dg (bE T) hr T.bf T.bx.kp T.bD (ae (pv 0) (ae ar ai))) ar) (ae (bT fL ar (dg (bE T) hr T.bf T.bx.kp T.bD (ae (pv 0) (ae ar ai)))) ai))))) bS)
   (aB (aV (dg (mK T) hr T.jH T.js.kp T.kU (ae (bT pX (dg (bE T) hr T.bf T.bx.kp T.bD (ae (pv 0) (ae (bT fL (bT dM ar (pv 1)) ar) ai))) (pv 1)) (ae (bT fL ar (dg (bE T) hr T.bf T.bx.kp T.bD (ae (pv 0) (ae (pv 1) ai)))) ai))))))))),?_⟩
  refine aU (σ:=[some (.ref b),some (.int w),none]) rfl ?_;walk_at "w";refine ⟨b,8,rfl,hB,by decide,by decide,fun v H1 v0 v1 B1 u1=>?_⟩;walk_at "w";refine gG (fun h0=>?_) (fun h0=>?_)
  ·walk_at "w";refine b9 fun r H2 s2 g2=>?_
   exact k r 0 _ ⟨aY _,by show 1<=_;lia⟩ (cB.mk g2 rfl) (B1.same s2) (u1.same s2)
  walk_at "w";refine gG (fun h1=>?_) (fun h1=>?_)
  ·walk_at "w";refine ⟨b,7,rfl,B1,by decide,by decide,fun a H2 a0 a1 B2 u2=>?_⟩;walk_at "w";refine b9 fun r H3 s3 g3=>?_
   exact k r ((a - 3:Int):Rat) _ ⟨by show (a - 3).natAbs<=_;lia,by show 1<=_;lia⟩ (cB.mk g3 rfl) (B2.same s3) ((u1.trans u2).same s3)
  walk_at "w";refine gG (fun h2=>?_) (fun h2=>?_)
  ·walk_at "w";refine ⟨b,13,rfl,B1,by decide,by decide,fun a H2 a0 a1 B2 u2=>?_⟩;walk_at "w";refine ⟨b,6,rfl,B2,by decide,by decide,fun c H3 c0 c1 B3 u3=>?_⟩;walk_at "w";refine ⟨_,_,rfl,by lia,(ID (by lia)).mono (by decide),fun r H4 s4 g4=>?_⟩;obtain ⟨q,e,d,_⟩:=JJ (t:=a - 6) (b:=1+c) (W:=max w 6) (by lia) (by lia) (by lia);exact k r q _ d (cB.mk g4 e) (B3.same s4) (((u1.trans u2).trans u3).same s4)
  walk_at "w";refine ⟨b,_,rfl,B1,by lia,by lia,fun a H2 a0 a1 B2 u2=>?_⟩;walk_at "w";refine ⟨b,_,rfl,B2,by lia,by lia,fun c H3 c0 c1 B3 u3=>?_⟩;walk_at "w";refine ⟨_,_,rfl,by lia,(ID (by lia)).mono (by decide),fun r H4 s4 g4=>?_⟩;obtain ⟨q,e,d,_⟩:=JJ (t:=a - w) (b:=1+c) (W:=max w 6) (by lia) (by lia) (by lia);exact k r q _ d (cB.mk g4 e) (B3.same s4) (((u1.trans u2).trans u3).same s4)
theorem Dk:bo ["_law_bag_here","_law_many","_law_wide"] ["_law_bag_here","_law_many","_law_wide"] (az kG):=by walk_at "d"
theorem tI (T:Txt K mg Z):cS P w K mg base gZ 3 Z.rS Z.rE ["_law_bag_here","_law_many","_law_wide"] (IX K):=by
 refine T.kY.ok Dk (fun vs H Q E h=>?_) (fun cdv A outer s H vs Q E hr h=>?_)
 ·obtain ⟨b,m,w,rfl,hB,hm,w0,w1,k⟩:=h;rfl
 ·obtain ⟨b,m,w,rfl,hB,hm,w0,w1,k⟩:=h;refine ⟨_,(aB (aV (cQ ["_law_k"] ["_law_bag_here","_law_wide"] [0,2] (cK rfl T.range (ae (pv 1) ai)) (fun _=>(aR (i:=0) (show List.Nodup (α:=PySem.Str) ["_law_k","_law_bag_here","_law_wide"] by decide +kernel))) (fun _=>cP) (fun _=>(dg (tJ T) hr T.oE T.mC.kp T.qh (ae (pv 1) (ae (pv 2) ai))))))),?_⟩;refine aU (σ:=[some (.ref b),some (.int m),some (.int w)]) rfl ?_;walk_at "w";refine ⟨by lia,by lia,?_⟩;refine Ia (n:=m) (cB K) (Dr (max w 6)) hB hm (fun a u B=>a.upto u B) ?_ ?_
  ·rintro i H' NY NN hi u B k1;walk_at "w";exact ⟨b,w,rfl,B,w0,w1,fun r x H2 hx h2 B2 u2=>k1 _ x _ u2 B2 hx h2⟩
  ·rintro ys cs H' p hp u B g lc hc pr nx;exact k p cs H' hp ⟨ys,g,pr⟩ lc hc B u
theorem jT:bo ["_law_bag_here","_law_n","_law_way","_law_first","_law_wide","_law_move_here","_law_i","_law_row_here","_law_j"] ["_law_bag_here","_law_n","_law_way","_law_first","_law_wide"] (az jB):=by walk_at "d"
theorem Cj (T : Txt K mg Z) : cS P w K mg base gZ 4 Z.pP Z.ph ["_law_bag_here", "_law_n", "_law_way", "_law_first", "_law_wide"] (IS K) := by
  have rX := tI (P := P) (w := w) (base := base) T;have jL := bE (P := P) (w := w) (base := base) T;refine T.uq.ok jT (fun vs H Q E h => ?_) (fun cdv A outer s H vs Q E hr h => ?_)
  · obtain ⟨b, n, w, way, first, rfl, hB, n8, w0, w1, k⟩ := h;rfl
  · obtain ⟨b, n, w, way, first, rfl, hB, n8, w0, w1, k⟩ := h
    refine ⟨_, (au (bh (i := 5) jT.nd rfl (Or.inl rfl) (dX ai))
      (au (eT PassesOwn.never rfl (cK rfl T.range (ae (pv 1) ai)) (aR (i := 6) jT.nd)
        (au (bh (i := 7) jT.nd rfl (Or.inl rfl) (dg rX hr T.mM T.kY.kp T.oG (ae (pv 0) (ae (pv 1) (ae (pv 4) ai)))))
      (au (eT PassesOwn.never rfl (cK rfl T.range (ae (pv 1) ai)) (aR (i := 8) jT.nd)
        (jF (cT (PW.pt (jV (bc eB (pv 2) ar (bB _)) (lB (bc tE (dg jL hr T.bf T.bx.kp T.bD (ae (pv 0) (ae ar ai))) ar (bB _))))) (aB (eV (df (ae ar (ae ar ai))) (h8 (pv 7) (pv 8) set_list))) bS)
      (jF (cT (PW.pt (jV (bc eB (pv 2) ar (bB _)) (lB (bc vd (bT fL (pv 6) ar) (pv 1) (bB _))))) (aB (eV (df (ae (e8 qL (by rfl) T.int PyProof.Rows.boot_int (ae (lC eB (pv 8) (bT fL (pv 6) ar) (bB _)) ai)) (ae ar ai))) (h8 (pv 7) (pv 8) set_list))) bS)
      (jF (cT (PW.pt (mV (PW.pt (jV (bc eB (pv 2) ar (bB _)) (jV (bc A8 (pv 6) (pv 3) (bB _)) (lB (bc vd (pv 8) (pv 3) (bB _)))))) (jm (PW.pt (jV (bc eB (pv 2) ar (bB _)) (jV (bc vd (pv 6) (pv 3) (bB _)) (lB (bc A8 (pv 8) (pv 3) (bB _))))))))) (aB (eV (df (ae ar (ae ar ai))) (h8 (pv 7) (pv 8) set_list))) bS)
      (aB (cT (bc eB (pv 2) ar (bB _)) (aB (eV (df (ae (bT dM (bJ bZ (dX (ae ar (ae ar (ae (ym sS ar) (ae ar ai))))) (bT pY (pv 3) ar)) (e8 qL (by rfl) T.int PyProof.Rows.boot_int (ae (lC eB (pv 6) (pv 8) (bB _)) ai))) (ae ar ai))) (h8 (pv 7) (pv 8) set_list))) bS))))))
      (aB (iC (va cI dI dH kO (pv 5) (ae (pv 7) ai)))))))
      (aB (aV (pv 5))))), ?_⟩
    refine aU (σ := [some (.ref b), some (.int n), some (.int way), some (.int first), some (.int w), none, none, none, none]) rfl ?_;have W1 : 1 ≤ max w 6 := by lia
    walk_at "w";refine dz fun r H1 s1 n1 g1 => ?_
    have rb : r ≠ b := fun z => hB.at (by rw [<- z]; exact n1)
    obtain ⟨q0, I0, xs0, gq0⟩ := hB.inner;have I1 : Inner H1 b q0 := (s1.upto (p := b)).2 _ I0;obtain ⟨A, eA⟩ : ∃ A : Addr → Prop, A = fun q => H q = none /\ q ≠ r := ⟨_, rfl⟩
    have nb : ¬ A b := by rw [eA]; exact fun z => hB.at z.1
    have nr : ¬ A r := by rw [eA]; exact fun z => z.2 rfl
    have nq : ¬ A q0 := by rw [eA]; exact fun z => by have z1 := z.1; rw [gq0] at z1; cases z1
    have rq : r ≠ q0 := fun z => by rw [<- z, n1] at gq0; cases gq0
    walk_at "w";refine ⟨by lia, by lia, ?_⟩;refine fM (n := n) (fun i σ' H' => ∃ (x1 x2 x3 : Option V) (us : List V), σ' = [some (.ref b), some (.int n), some (.int way), some (.int first), some (.int w), some (.ref r), x1, x2, x3] /\ H' r = some (.lst us) /\ us.length = i /\ us.Nodup /\ (∀ x ∈ us, fN K A H' n (Dr (max w 6)) x) /\ ig H' b /\ Inner H' b q0 /\ cV b H H') ⟨none, none, none, [], rfl, g1, rfl, BH, (fun _ z => nomatch z), hB.same s1, I1, s1.upto⟩ ?_ ?_
    · rintro i σ' H' hi ⟨x1, x2, x3, us, rfl, gu, lu, nd, ru, B', I', u'⟩;walk_at "w";refine ⟨b, n, w, rfl, B', by lia, w0, w1, fun p xs Ha np Ra la da Ba ua => ?_⟩;have hp0 : H p = none := u'.none B' np
      have pn : V.ref p ∉ us := fun z => by
        obtain ⟨q', _, _, e', _, g', _⟩ := (ru _ z).at;cases e';rw [np] at g';cases g'
      have ap' : H p = none /\ p ≠ r := ⟨hp0, fun z => by rw [z, gu] at np; cases np⟩;have ap : A p := by rw [eA]; exact ap'
      have X0 : Gk K A n (Dr (max w 6)) r p b q0 us H Ha := ⟨ua.other rb gu, fun x hx => (ru x hx).upto ua B' nb, ⟨p, xs, rfl, ap, Ra, la, da⟩, Ba, ua.2 _ I', u'.trans ua⟩;clear ru Ra gu;walk_at "w";refine ⟨by lia, by lia, ?_⟩;refine fM (n := n) (fun j σ' H' => (∃ x3, σ' = [some (.ref b), some (.int n), some (.int way), some (.int first), some (.int w), some (.ref r), some (.int i), some (.ref p), x3]) /\ Gk K A n (Dr (max w 6)) r p b q0 us H H') ⟨⟨_, rfl⟩, X0⟩ ?_ ?_
      · rintro j σ' Hj hj ⟨⟨x3, rfl⟩, X⟩;walk_at "w";refine ⟨fun σ' H' => σ' = [some (.ref b), some (.int n), some (.int way), some (.int first), some (.int w), some (.ref r), some (.int i), some (.ref p), some (.int j)] /\ Gk K A n (Dr (max w 6)) r p b q0 us H H', ?_, ?_⟩
        · walk_at "w";refine gG (fun _ => ?_) (fun _ => ?_)
          · walk_at "w";refine ⟨b, 3, rfl, X.bag, by decide, by decide, fun d Hd d0 d1 Bd ud => ?_⟩;replace X := X.upto ud Bd nb rb
            repeat' (first | walk_at "rd" | refine gG (fun _ => ?_) (fun _ => ?_))
            all_goals first
              | exact ⟨rfl, X⟩
              | (refine b9 fun t Hb sb gb => ?_
                 walk_at "w";obtain ⟨zs, gz, lz, Xz⟩ := (X.same sb).put ap nr nb nq hp0 (cB.mk (q := 0) gb rfl) (tV (i := 0) (aY _) W1) j;refine fb gz (fv (by lia)) rfl ?_;exact ⟨rfl, Xz⟩)
          · walk_at "w";exact ⟨rfl, X⟩
        clear X;rintro σ' Hj ⟨rfl, X⟩;refine ⟨fun σ' H' => σ' = [some (.ref b), some (.int n), some (.int way), some (.int first), some (.int w), some (.ref r), some (.int i), some (.ref p), some (.int j)] /\ Gk K A n (Dr (max w 6)) r p b q0 us H H', ?_, ?_⟩
        · repeat' (first | walk_at "rd" | refine gG (fun _ => ?_) (fun _ => ?_))
          all_goals first
            | exact ⟨rfl, X⟩
            | (refine b9 fun t Hb sb gb => ?_
               walk_at "w";obtain ⟨zs, gz, lz, Xz⟩ := (X.same sb).put ap nr nb nq hp0 (cB.mk (q := ((if decide ((j : Int) = (i : Int) + 1) = true then (1 : Int) else 0 : Int) : Rat)) gb rfl) (tV (by split <;> lia) W1) j;refine fb gz (fv (by lia)) rfl ?_;exact ⟨rfl, Xz⟩)
        clear X;rintro σ' Hj ⟨rfl, X⟩;refine ⟨fun σ' H' => σ' = [some (.ref b), some (.int n), some (.int way), some (.int first), some (.int w), some (.ref r), some (.int i), some (.ref p), some (.int j)] /\ Gk K A n (Dr (max w 6)) r p b q0 us H H', ?_, ?_⟩
        · repeat' (first | walk_at "rd" | refine gG (fun _ => ?_) (fun _ => ?_))
          all_goals first
            | exact ⟨rfl, X⟩
            | (refine b9 fun t Hb sb gb => ?_
               walk_at "w";obtain ⟨zs, gz, lz, Xz⟩ := (X.same sb).put ap nr nb nq hp0 (cB.mk (q := 0) gb rfl) (tV (i := 0) (aY _) W1) j;refine fb gz (fv (by lia)) rfl ?_;exact ⟨rfl, Xz⟩)
        clear X;rintro σ' Hj ⟨rfl, X⟩;walk_at "w";refine gG (fun _ => ?_) (fun _ => ?_)
        · walk_at "w";refine dz fun l0 Hc sc nc gc => ?_
          walk_at "w";obtain ⟨x, ex, mx, _⟩ := qQ (xs := [V.int 2, V.int 1, V.int (-1), V.int 0]) (i := first % 4) (nV _ (by decide)) (by have := jk first (show (0 : Int) < 4 by decide); simpa using this)
          obtain ⟨z, rfl, hz⟩ : ∃ z : Int, x = .int z /\ z.natAbs ≤ 2 := by
            simp only [aG, aZ, or_false] at mx;rcases mx with rfl | rfl | rfl | rfl
            · exact ⟨2, rfl, by decide⟩
            · exact ⟨1, rfl, by decide⟩
            · exact ⟨-1, rfl, by decide⟩
            · exact ⟨0, rfl, by decide⟩
          refine cN (bV.of gc) ex ?_;walk_at "w";refine h7 (CJ (by lia) (by lia)) ?_;walk_at "w";refine b9 fun t Hb sb gb => ?_
          walk_at "w";obtain ⟨zs, gz, lz, Xz⟩ := ((X.same sc).same sb).put ap nr nb nq hp0 (cB.mk (q := ((z * (if decide ((i : Int) = (j : Int)) = true then (1 : Int) else 0) : Int) : Rat)) gb rfl) (tV (by split <;> lia) W1) j;refine fb gz (fv (by lia)) rfl ?_;exact ⟨⟨_, rfl⟩, Xz⟩
        · walk_at "w";exact ⟨⟨_, rfl⟩, X⟩
      · rintro σ' Hj ⟨⟨x3, rfl⟩, X⟩;walk_at "w";refine ⟨.inl ⟨rfl, _, bV.of X.gr⟩, ?_⟩;walk_at "w";refine jE X.gr (bK (by lia)) ?_;refine ⟨_, _, _, us ++ [.ref p], rfl, aK, by simp [lu], z8 nd pn, fun x hx => ?_, X.bag.upd X.inn rb rq, X.inn.upd rb, X.up.after n1⟩;rcases ax.mp hx with hx | hx
        · exact (X.ru x hx).other X.gr nr
        · have e : x = V.ref p := by simpa using hx
          rw [e]; exact X.rp.other X.gr nr
    · rintro σ' H' ⟨x1, x2, x3, us, rfl, gu, lu, nd, ru, B', I', u'⟩;walk_at "w";exact k r us H' n1 gu lu nd (by rw [eA] at ru; exact ru) B' u'
theorem dS:bo ["_law_bag_here","_law_n","_law_ins","_law_outs","_law_wide","_law_way","_law_first","_law_move_here","_law_put","_law_look","_law_k","_law_row_here"] ["_law_bag_here","_law_n","_law_ins","_law_outs","_law_wide"] (az iu):=by walk_at "d"
theorem AU (T : Txt K mg Z) : cS P w K mg base gZ 5 Z.nM Z.nA ["_law_bag_here", "_law_n", "_law_ins", "_law_outs", "_law_wide"] (GK K) := by
  have jL := bE (P := P) (w := w) (base := base) T;have D5 := Cj (P := P) (w := w) (base := base) T;have rX := tI (P := P) (w := w) (base := base) T;have CZ := vg (P := P) (w := w) (base := base) T;refine T.sA.ok dS (fun vs H Q E h => ?_) (fun cdv A outer s H vs Q E hr h => ?_)
  · obtain ⟨b, n, i, o, w, c, rfl, hB, n8, i4, o4, w0, w1, hc, hc20, hcM, k⟩ := h;rfl
  · obtain ⟨b, n, i, o, w, c, rfl, hB, n8, i4, o4, w0, w1, hc, hc20, hcM, k⟩ := h
    refine ⟨_, (au (bh (i := 5) dS.nd rfl (Or.inl rfl) (dg jL hr T.bf T.bx.kp T.bD (ae (pv 0) (ae ar ai))))
      (au (bh (i := 6) dS.nd rfl (Or.inl rfl) (dg jL hr T.bf T.bx.kp T.bD (ae (pv 0) (ae (bT fL (pv 1) ar) ai))))
      (au (bh (i := 7) dS.nd rfl (Or.inl rfl) (dg D5 hr T.wJ T.uq.kp T.yz (ae (pv 0) (ae (pv 1) (ae (pv 5) (ae (pv 6) (ae (pv 4) ai)))))))
      (au (oS 8 ["_law_k"] ["_law_bag_here", "_law_n", "_law_wide"] [0, 1, 4] dS.nd rfl rfl (cK rfl T.range (ae (pv 2) ai)) (fun _ => (aR (i := 0) (show List.Nodup (α := PySem.Str) ["_law_k", "_law_bag_here", "_law_n", "_law_wide"] by decide +kernel))) (fun _ => cP) (fun _ => (dg rX hr T.mM T.kY.kp T.oG (ae (pv 1) (ae (pv 2) (ae (pv 3) ai))))))
      (au (oS 9 ["_law_k"] ["_law_bag_here", "_law_n", "_law_wide"] [0, 1, 4] dS.nd rfl rfl (cK rfl T.range (ae (pv 3) ai)) (fun _ => (aR (i := 0) (show List.Nodup (α := PySem.Str) ["_law_k", "_law_bag_here", "_law_n", "_law_wide"] by decide +kernel))) (fun _ => cP) (fun _ => (dg rX hr T.mM T.kY.kp T.oG (ae (pv 1) (ae (pv 2) (ae (pv 3) ai))))))
      (au (eT PassesOwn.never rfl (cK rfl T.range (ae (pv 1) ai)) (aR (i := 10) dS.nd)
        (au (eT PassesOwn.never rfl (cZ (pv 8)) (aR (i := 11) dS.nd)
        (aB (cT (PW.pt (mV (PW.pt (jV (bc eB (pv 5) ar (bB _)) (lB (bc A8 (pv 10) (pv 6) (bB _))))) (jm (PW.pt (jV (bc eB (pv 5) ar (bB _)) (jV (bc vd (bT fL (pv 10) ar) (pv 1) (bB _)) (lB (bc eB (dg jL hr T.bf T.bx.kp T.bD (ae (pv 0) (ae ar ai))) ar (bB _))))))))) (aB (eV (df (ae ar (ae ar ai))) (h8 (pv 11) (pv 10) set_list))) bS)))
      (aB (eT PassesOwn.never rfl (cZ (pv 9)) (aR (i := 11) dS.nd)
        (aB (cT (PW.pt (mV (PW.pt (jV (bc eB (pv 5) ar (bB _)) (lB (bc A8 (pv 10) (pv 6) (bB _))))) (jm (PW.pt (jV (bc eB (pv 5) ar (bB _)) (jV (bc tE (pv 10) ar (bB _)) (lB (bc eB (dg jL hr T.bf T.bx.kp T.bD (ae (pv 0) (ae ar ai))) ar (bB _))))))))) (aB (eV (df (ae ar (ae ar ai))) (h8 (pv 11) (pv 10) set_list))) bS))))))
      (aB (aV (dg CZ hr T.p7 T.nR.kp T.rO (ae (pv 0) (ae (pv 7) (ae (pv 8) (ae (pv 9) ai))))))))))))), ?_⟩
    refine aU (σ := [some (.ref b), some (.int n), some (.int i), some (.int o), some (.int w), none, none, none, none, none, none, none]) rfl ?_;have W1 : 1 ≤ max w 6 := by lia
    obtain ⟨q0, I0, xs0, gq0⟩ := hB.inner;walk_at "w";refine ⟨b, 6, rfl, hB, by decide, by decide, fun way H1 a0 a1 B1 u1 => ?_⟩;walk_at "w";refine ⟨b, _, rfl, B1, by lia, by lia, fun first H2 f0 f1 B2 u2 => ?_⟩;have u02 := u1.trans u2;walk_at "w";refine ⟨b, n, w, way, first, rfl, B2, n8, w0, w1, fun m us H3 nm0 gm lm ndm rm B3 u3 => ?_⟩;have u03 := u02.trans u3;walk_at "w";refine ⟨by lia, by lia, ?_⟩;refine Br (n := i) (b := b) (dq K H3) (fun xs => xs.length = n /\ ∀ x ∈ xs, Dr (max w 6) x) B3 (by lia) (fun a u B => a.upto u B B3.at) (fun ⟨q, e, _, _, g, _⟩ => ⟨q, e, by rw [g]; exact fun z => nomatch z⟩) ?_ ?_
    · rintro s H' NY NN hi u B k1;walk_at "w";exact ⟨b, n, w, rfl, B, by lia, w0, w1, fun r xs H2 nr R lx dx B2 u2 => k1 _ xs _ u2 B2 ⟨lx, dx⟩ ⟨r, rfl, u.none B nr, R⟩ ⟨r, rfl, nr⟩⟩
    rintro ws puts H4 p np u4 B4 gp lp ndp hp pr4 nx4;have u04 := u03.trans u4;walk_at "w";refine ⟨by lia, by lia, ?_⟩;refine Br (n := o) (b := b) (dq K H4) (fun xs => xs.length = n /\ ∀ x ∈ xs, Dr (max w 6) x) B4 (by lia) (fun a u B => a.upto u B B4.at) (fun ⟨q, e, _, _, g, _⟩ => ⟨q, e, by rw [g]; exact fun z => nomatch z⟩) ?_ ?_
    · rintro s H' NY NN hi u B k1;walk_at "w";exact ⟨b, n, w, rfl, B, by lia, w0, w1, fun r xs H2 nr R lx dx B2 u2 => k1 _ xs _ u2 B2 ⟨lx, dx⟩ ⟨r, rfl, u.none B nr, R⟩ ⟨r, rfl, nr⟩⟩
    rintro vs looks H5 l nl u5 B5 gl ll ndl hl pr5 nx5;have u05 := u04.trans u5;have hm0 : H m = none := u02.none B2 nm0;have hp0 : H p = none := u03.none B3 np;have hl0 : H l = none := u04.none B4 nl;have mb : m ≠ b := fun z => B2.at (by rw [<- z]; exact nm0)
    have pb : p ≠ b := fun z => B3.at (by rw [<- z]; exact np)
    have lb : l ≠ b := fun z => B4.at (by rw [<- z]; exact nl)
    have gm4 := u4.other mb gm;have gm5 := u5.other mb gm4;have gp5 := u5.other pb gp;have mp : m ≠ p := fun z => by rw [z, np] at gm; cases gm
    have ml : m ≠ l := fun z => by rw [z, nl] at gm4; cases gm4
    have pl : p ≠ l := fun z => by rw [z, nl] at gp; cases gp
    have mq : m ≠ q0 := fun z => Inner.at B2 (u02.2 _ I0) (by rw [<- z]; exact nm0)
    obtain ⟨A, eA⟩ : ∃ A : Addr → Prop, A = fun q => H q = none /\ q ≠ m /\ q ≠ p /\ q ≠ l := ⟨_, rfl⟩
    have mkA : ∀ {q}, H q = none → q ≠ m → q ≠ p → q ≠ l → A q := fun h1 h2 h3 h4 => by rw [eA]; exact ⟨h1, h2, h3, h4⟩
    have unA : ∀ {q}, A q → H q = none /\ q ≠ m /\ q ≠ p /\ q ≠ l := fun h => by rw [eA] at h; exact h
    have MA : D3 A m p l b q0 := ⟨fun z => (unA z).2.1 rfl, fun z => (unA z).2.2.1 rfl, fun z => (unA z).2.2.2 rfl, fun z => hB.at (unA z).1, (fun z => by have z1 := (unA z).1; rw [gq0] at z1; cases z1), mb, pb, lb, mp, ml, mq⟩;clear eA;have lws : ws.length = i := by rw [<- pr4.length]; exact lp
    have lvs : vs.length = o := by rw [<- pr5.length]; exact ll
    have alM : ∀ q, V.ref q ∈ us → H3 q ≠ none /\ q ≠ b /\ H4 q ≠ none := fun q hq => by
      obtain ⟨q', qs, e, ⟨a1, a2⟩, r, z⟩ := rm _ hq;cases e;have qb : q ≠ b := fun y => B2.at (by rw [<- y]; exact a1)
      obtain ⟨xq, gq, _⟩ := id r;obtain ⟨xq4, gq4, _⟩ := r.upto u4 B3 qb;exact ⟨(by rw [gq]; exact fun z => nomatch z), qb, (by rw [gq4]; exact fun z => nomatch z)⟩
    have alP : ∀ q, V.ref q ∈ ws → H3 q = none /\ H4 q ≠ none := fun q hq => by
      obtain ⟨_, _, q', e, a, _, g, _⟩ := dF pr4 hq;cases e;exact ⟨a, by rw [g]; exact fun z => nomatch z⟩
    have alL : ∀ q, V.ref q ∈ vs → H4 q = none := fun q hq => by
      obtain ⟨_, _, q', e, a, _⟩ := dF pr5 hq;cases e;exact a
    have isR : ∀ x, x ∈ us \/ x ∈ ws \/ x ∈ vs → ∃ q, x = V.ref q := fun x hx => by
      rcases hx with hx | hx | hx
      · obtain ⟨q, _, e, _⟩ := rm x hx; exact ⟨q, e⟩
      · obtain ⟨_, _, q, e, _⟩ := dF pr4 hx; exact ⟨q, e⟩
      · obtain ⟨_, _, q, e, _⟩ := dF pr5 hx; exact ⟨q, e⟩
    have nd : (us ++ vs ++ ws).Nodup := by
      refine du.mpr ⟨du.mpr ⟨ndm, ndl, fun x hx y hy e => ?_⟩, ndp, fun x hx y hy e => ?_⟩
      · subst e;obtain ⟨q, rfl⟩ := isR x (.inl hx);exact (alM q hx).2.2 (alL q hy)
      · subst e;obtain ⟨q, rfl⟩ := isR x (.inr (.inl hy));rcases ax.mp hx with hx | hx
        · exact (alM q hx).1 (alP q hy).1
        · exact (alP q hy).2 (alL q hx)
    have X5 : Fb K A n (Dr (max w 6)) m p l b q0 us ws vs H H5 := by
      refine ⟨⟨B5, u05.2 _ I0, gm5, gp5, gl, lm, fun x hx => ?_, nd⟩, gp5, gl, fun c u e n1 _ _ => u05.1 c u e n1⟩;rcases ax.mp hx with hx | hx
      · rcases ax.mp hx with hx | hx
        · obtain ⟨q, qs, e, ⟨a1, a2⟩, r, z⟩ := rm x hx;obtain ⟨xq, gq, _⟩ := id r;have qb : q ≠ b := fun y => B2.at (by rw [<- y]; exact a1)
          have r4 := r.upto u4 B3 qb;obtain ⟨xq4, gq4, _⟩ := id r4;exact ⟨q, qs, e, mkA (u02.none B2 a1) a2 (fun y => by rw [y, np] at gq; cases gq) (fun y => by rw [y, nl] at gq4; cases gq4), r4.upto u5 B4 qb, z⟩
        · refine EC (A := A) pr5 hl (fun q hq a b' => ?_) x hx;exact mkA (u04.none B4 a) (fun y => by rw [y, gm4] at a; cases a) (fun y => by rw [y, gp] at a; cases a) (fun y => oU nx5 (by rw [<- y]; exact hq))
      · refine fN.upto (EC (A := A) pr4 hp (fun q hq a b' => ?_) x hx) u5 B4 MA.ab;exact mkA (u03.none B3 a) (fun y => by rw [y, gm] at a; cases a) (fun y => oU nx4 (by rw [<- y]; exact hq)) (fun y => b' (by rw [y]; exact nl))
    clear alM alP alL isR rm pr4 pr5 nx4 nx5 gm gm4 gm5 gp gp5 gl hp hl;walk_at "w";refine ⟨by lia, by lia, ?_⟩;refine fM (n := n) (fun kk σ' H' => (∃ x1 x2, σ' = [some (.ref b), some (.int n), some (.int i), some (.int o), some (.int w), some (.int way), some (.int first), some (.ref m), some (.ref p), some (.ref l), x1, x2]) /\ Fb K A n (Dr (max w 6)) m p l b q0 us ws vs H H') ⟨⟨_, _, rfl⟩, X5⟩ ?_ ?_
    · rintro kk σ' Hj hk ⟨⟨x1, x2, rfl⟩, X⟩;walk_at "w";refine ⟨⟨_, bV.of X.gp⟩, ?_⟩;refine i8 (K := K) (a := p) (xs := ws) (fun s σ' H' => (∃ x2, σ' = [some (.ref b), some (.int n), some (.int i), some (.int o), some (.int w), some (.int way), some (.int first), some (.ref m), some (.ref p), some (.ref l), some (.int kk), x2]) /\ Fb K A n (Dr (max w 6)) m p l b q0 us ws vs H H') ⟨⟨_, rfl⟩, X⟩ (fun s σ' H' _ ⟨_, e⟩ => bV.of e.gp) ?_ ?_
      · rintro s x σ' Hk hx ⟨⟨y2, rfl⟩, X⟩;have mx := ay hx;obtain ⟨q, _, rfl, _⟩ := X.row (.inl mx)
        repeat' (first | walk_at "rd" | refine gG (fun _ => ?_) (fun _ => ?_))
        all_goals first
          | exact ⟨⟨_, rfl⟩, X⟩
          | (refine b9 fun t Hb sb gb => ?_
             walk_at "w";obtain ⟨zs, gz, lz, Xz⟩ := (X.same sb).put MA (.inl mx) (cB.mk (q := 0) gb rfl) (tV (i := 0) (aY _) W1) kk;refine fb gz (fv (by lia)) rfl ?_;exact ⟨⟨_, rfl⟩, Xz⟩)
          | (refine ⟨b, 2, rfl, X.mix.bag, by decide, by decide, fun d Hd d0 d1 Bd ud => ?_⟩
             replace X := X.upto MA ud Bd
             repeat' (first | walk_at "rd" | refine gG (fun _ => ?_) (fun _ => ?_))
             all_goals first
               | exact ⟨⟨_, rfl⟩, X⟩
               | (refine b9 fun t Hb sb gb => ?_
                  walk_at "w";obtain ⟨zs, gz, lz, Xz⟩ := (X.same sb).put MA (.inl mx) (cB.mk (q := 0) gb rfl) (tV (i := 0) (aY _) W1) kk;refine fb gz (fv (by lia)) rfl ?_;exact ⟨⟨_, rfl⟩, Xz⟩))
      · rintro σ' Hk ⟨⟨y2, rfl⟩, X⟩;walk_at "w";refine ⟨⟨_, bV.of X.gl⟩, ?_⟩;refine i8 (K := K) (a := l) (xs := vs) (fun s σ' H' => (∃ x2, σ' = [some (.ref b), some (.int n), some (.int i), some (.int o), some (.int w), some (.int way), some (.int first), some (.ref m), some (.ref p), some (.ref l), some (.int kk), x2]) /\ Fb K A n (Dr (max w 6)) m p l b q0 us ws vs H H') ⟨⟨_, rfl⟩, X⟩ (fun s σ' H' _ ⟨_, e⟩ => bV.of e.gl) ?_ ?_
        · rintro s x σ' Hk hx ⟨⟨y2, rfl⟩, X⟩;have mx := ay hx;obtain ⟨q, _, rfl, _⟩ := X.row (.inr mx)
          repeat' (first | walk_at "rd" | refine gG (fun _ => ?_) (fun _ => ?_))
          all_goals first
            | exact ⟨⟨_, rfl⟩, X⟩
            | (refine b9 fun t Hb sb gb => ?_
               walk_at "w";obtain ⟨zs, gz, lz, Xz⟩ := (X.same sb).put MA (.inr mx) (cB.mk (q := 0) gb rfl) (tV (i := 0) (aY _) W1) kk;refine fb gz (fv (by lia)) rfl ?_;exact ⟨⟨_, rfl⟩, Xz⟩)
            | (refine ⟨b, 2, rfl, X.mix.bag, by decide, by decide, fun d Hd d0 d1 Bd ud => ?_⟩
               replace X := X.upto MA ud Bd
               repeat' (first | walk_at "rd" | refine gG (fun _ => ?_) (fun _ => ?_))
               all_goals first
                 | exact ⟨⟨_, rfl⟩, X⟩
                 | (refine b9 fun t Hb sb gb => ?_
                    walk_at "w";obtain ⟨zs, gz, lz, Xz⟩ := (X.same sb).put MA (.inr mx) (cB.mk (q := 0) gb rfl) (tV (i := 0) (aY _) W1) kk;refine fb gz (fv (by lia)) rfl ?_;exact ⟨⟨_, rfl⟩, Xz⟩))
        · rintro σ' Hk ⟨⟨y2, rfl⟩, X⟩;exact ⟨⟨_, _, rfl⟩, X⟩
    · rintro σ' Hj ⟨⟨x1, x2, rfl⟩, X⟩
      obtain ⟨M1, M2, M3, V0, a1, a2, a3, V2, hcs, R1, R2, R3⟩ : ∃ M1 M2 M3 V0 : Nat, (0 < M1 /\ M1 ≤ 2 ^ 800) /\ (0 < M2 /\ M2 ≤ 2 ^ 800) /\ (0 < M3 /\ M3 ≤ 2 ^ 800) /\ V0 ≤ 2 ^ 20 /\ ((w ≤ 9 /\ M1 = 2520 /\ M2 = 2520 /\ M3 = 2520 /\ V0 = 9) \/ (9 < w /\ M1 ≤ 2 ^ (c * (n * n)) /\ M2 ≤ 2 ^ (c * (i * n)) /\ M3 ≤ 2 ^ (c * (o * n)) /\ V0 = 2 ^ c)) /\ (∀ x ∈ us, fN K A Hj n (Fr M1 V0) x) /\ (∀ x ∈ ws, fN K A Hj n (Fr M2 V0) x) /\ ∀ x ∈ vs, fN K A Hj n (Fr M3 V0) x := by
        by_cases w9 : w ≤ 9
        · have XM := X.mix.weak (C' := fun _ => Fr 2520 9) fun _ _ y h => CD ⟨ah h.1 (by lia), ah h.2 (by lia)⟩ (Gs _)
          have z : 0 < 2520 /\ 2520 ≤ 2 ^ 800 := ⟨by decide, ah (show 2520 ≤ 2 ^ 12 by decide) (aj (by decide) (by decide))⟩;exact ⟨2520, 2520, 2520, 9, z, z, z, by decide, .inl ⟨w9, rfl, rfl, rfl, rfl⟩, fun x hx => XM.row x (by simp [hx]), fun x hx => XM.row x (by simp [hx]), fun x hx => XM.row x (by simp [hx])⟩
        · obtain ⟨M1, M2, M3, a1, a2, a3, b1, b2, b3, R1, R2, R3⟩ := (X.mix.weak (C' := fun _ => Dr (2 ^ c)) fun _ _ y h => ⟨ah h.1 hc, ah h.2 hc⟩).fr3;rw [lws] at b2;rw [lvs] at b3;have up : ∀ {M k : Nat}, M ≤ 2 ^ (c * k) → k ≤ (n + i + o) * n → M ≤ 2 ^ 800 := fun h hk => ah h (aj (by decide) (ah (aP _ hk) hcM))
          exact ⟨M1, M2, M3, 2 ^ c, ⟨a1, up b1 (aA _ (by lia))⟩, ⟨a2, up b2 (aA _ (by lia))⟩, ⟨a3, up b3 (aA _ (by lia))⟩, aj (by decide) hc20, .inr ⟨by lia, b1, b2, b3, rfl⟩, R1, R2, R3⟩
      obtain ⟨μ, e2, e3, e1, e4⟩ := JC ws vs M1 M2 M3;obtain ⟨ap1, ap2⟩ := X.mix.apart
      have XM : ks K A Hj n (fun x => Fr (μ x) V0) m p l b q0 us ws vs := by
        refine ⟨X.mix.bag, X.mix.inn, X.mix.gm, X.mix.gp, X.mix.gl, X.mix.lm, fun x hx => ?_, X.mix.nd⟩;rcases ax.mp hx with hx | hx
        · rcases ax.mp hx with hx | hx
          · rw [e1 x (ap1 x hx).1 (ap1 x hx).2]; exact R1 x hx
          · rw [e3 x hx (ap2 x hx)]; exact R3 x hx
        · rw [e2 x hx]; exact R2 x hx
      have p1 : ∀ x, 0 < μ x := fun x => by
        rcases e4 x with e | e | e
        · rw [e]; exact a1.1
        · rw [e]; exact a2.1
        · rw [e]; exact a3.1
      have p2 : ∀ x, μ x ≤ 2 ^ 800 := fun x => by
        rcases e4 x with e | e | e
        · rw [e]; exact a1.2
        · rw [e]; exact a2.2
        · rw [e]; exact a3.2
      have gmj := X.mix.gm;walk_at "w";refine ⟨b, m, p, l, q0, n, V0, μ, A, us, ws, vs, rfl, MA, XM, n8, by lia, by lia, p1, p2, ⟨M1, e1⟩, V2, fun q hq => ?_, fun r us' H' g Y kp => ?_⟩
      · refine mkA ?_ (fun z => by rw [z, gmj] at hq; cases hq) (fun z => by rw [z, X.gp] at hq; cases hq) (fun z => by rw [z, X.gl] at hq; cases hq);cases e : H q with
        | none => rfl
        | some u =>
          have := X.kp q u e (fun z => X.mix.bag.at (by rw [<- z]; exact hq)) (fun z => by have := (unA z).1; rw [e] at this; cases this) (fun z => by rw [z, hm0] at e; cases e);rw [hq] at this; cases this
      · obtain ⟨yp1, yp2⟩ := Y.apart;obtain ⟨mv, Gm, lmv, hmv⟩ := kS (H0 := H) (n := n) (C := Fr M1 (9 ^ 3 * V0)) (m := n) ⟨us', Y.gm, Y.lm, MA.am, fun x hx => by have := Y.row x (by simp [hx]); rwa [e1 x (yp1 x hx).1 (yp1 x hx).2] at this⟩ fun q h => (unA h).1
        obtain ⟨pt, Gp, lpt, hpt⟩ := kS (H0 := H) (n := n) (C := Fr M2 (9 ^ 3 * V0)) (m := i) ⟨ws, Y.gp, lws, MA.ap, fun x hx => by have := Y.row x (by simp [hx]); rwa [e2 x hx] at this⟩ fun q h => (unA h).1
        obtain ⟨lk, Gl, llk, hlk⟩ := kS (H0 := H) (n := n) (C := Fr M3 (9 ^ 3 * V0)) (m := o) ⟨vs, Y.gl, lvs, MA.al, fun x hx => by have := Y.row x (by simp [hx]); rwa [e3 x hx (yp2 x hx)] at this⟩ fun q h => (unA h).1
        refine k r mv pt lk H' ⟨m, p, l, g, hm0, hp0, hl0, Gm, Gp, Gl⟩ lmv lpt llk ⟨by lia, by lia, by lia, fun xs hx => by rw [(hmv xs hx).1, lmv], fun xs hx => by rw [(hpt xs hx).1, lmv], fun xs hx => by rw [(hlk xs hx).1, lmv]⟩ ⟨M1, M2, M3, 9 ^ 3 * V0, a1.1, a2.1, a3.1, fun xs hx => (hmv xs hx).2, fun xs hx => (hpt xs hx).2, fun xs hx => (hlk xs hx).2, ?_⟩ Y.bag ⟨fun c' u e n1 => (X.kp.trans kp) c' u e n1 (fun z => by have := (unA z).1; rw [e] at this; cases this) (fun z => by rw [z, hm0] at e; cases e), fun q h => by rw [<- Inner.inj I0 h]; exact Y.inn⟩;rcases hcs with ⟨b1, b2, b3, b4, b5⟩ | ⟨b1, b2, b3, b4, b5⟩
        · exact .inl ⟨b1, b2, b3, b4, by rw [b5]⟩
        · exact .inr ⟨b1, b2, b3, b4, by rw [b5]⟩
theorem iZ:bo ["_law_bag_here","_law_n","_law_ins","_law_outs","_law_wide"] ["_law_bag_here"] (az iB):=by walk_at "d"
theorem AV (T:Txt K mg Z):cS P w K mg base gZ 6 Z.nO Z.nC ["_law_bag_here"] (Er K):=by
 refine T.sC.ok iZ (fun vs H Q E h=>?_) (fun cdv A outer s H vs Q E hr h=>?_)
 ·obtain ⟨b,rfl,hB,k⟩:=h;rfl
 ·obtain ⟨b,rfl,hB,k⟩:=h
  refine ⟨_,(au (cT (bc eB (dg (bE T) hr T.bf T.bx.kp T.bD (ae (pv 0) (ae ar ai))) ar (bB _)) (aB (aV (df (ae (dg (Ck T) hr T.wK T.ur.kp T.yA (ae (pv 0) ai)) (ae ar ai))))) bS)
   (au (eV (dg (AS T) hr T.vo T.sv.kp T.xf (ae (pv 0) ai)) (tu rfl (cA (aR (i:=1) iZ.nd) (cA (aR (i:=2) iZ.nd) (cA (aR (i:=3) iZ.nd) (cA (aR (i:=4) iZ.nd) iD))))))
   (aB (aV (df (ae (dg (AU T) hr T.vp T.sA.kp T.xg (ae (pv 0) (ae (pv 1) (ae (pv 2) (ae (pv 3) (ae (pv 4) ai)))))) (ae (bX (qK rfl) (by rfl) T.min PyProof.Rows.boot_min (ae (pv 4) (ae ar ai))) ai))))))),?_⟩
  refine aU (σ:=[some (.ref b),none,none,none,none]) rfl ?_;have sf:∀{mv pt lk:List (List Rat)} {M V1:Nat},0 < M->M<=2^400->V1<=2^30->GF M V1 mv->GF M V1 pt->GF M V1 lk->D9 mv pt lk:=fun h0 h1 h2 a b c=>⟨_,_,h0,h1,ah h2 (aj (by decide) (by decide)),a,b,c⟩
  have et:∀{mv:List (List Rat)},(bC mv mv.length).length=mv.length:=cy;walk_at "w";refine ⟨b,16,rfl,hB,by decide,by decide,fun v H2 v0 v1 B2 u2=>?_⟩;walk_at "w";refine gG (fun h0=>?_) (fun h0=>?_)
  ·walk_at "w";refine ⟨b,rfl,B2,fun r4 mv pt lk H4 P4 l6 D fm fp fl B4 u4=>?_⟩;have d8:=D.n8;walk_at "w";refine b9 fun t H5 s5 g5=>?_
   exact k t r4 4 mv pt lk H5 g5 ((P4.weak fun q h=>u2.none B2 h).same s5) D (sf (by decide) cE (by decide) fm fp fl) (.inl ⟨by decide,by decide,by decide,by decide,by decide,yS fm,fl,ah (aA _ (show (bC mv mv.length).length+4<=12 by rw[et];lia)) (by decide)⟩) (by decide) (by decide) (B4.same s5) ((u2.trans u4).same s5)
  ·walk_at "w";refine ⟨b,rfl,B2,fun r n i o w H1 g1 n5 i4 o4 hw h5 B1 u1=>?_⟩;have u02:=u2.trans u1
   obtain ⟨c,hc,hc20,hcM⟩:∃c:Nat,max w 6<=2^c/\c<=20/\c*((n+i+o)*n)<=800/\(9 < w->c=20/\(n+i+o)*n<=20/\n<=2):=by
    have m1:(n+i+o)*n<=13*5:=aE (by lia) n5;rcases hw with rfl | rfl | ⟨rfl,n2⟩
    ·exact ⟨4,by decide,by decide,by lia,fun z=>by lia⟩
    ·exact ⟨4,by decide,by decide,by lia,fun z=>by lia⟩
    ·have m2:(n+i+o)*n<=10*2:=aE (by lia) n2;exact ⟨20,by decide,by decide,by lia,fun _=>⟨rfl,by lia,n2⟩⟩
   obtain ⟨hcM,hbig⟩:=hcM;walk_at "w";refine ⟨b,n,i,o,w,c,rfl,B1,by lia,i4,o4,by lia,by lia,hc,hc20,hcM,fun r4 mv pt lk H4 P4 lm lp ll D PG B4 u4=>?_⟩;have hmin:(if (1000:Int) < (w:Int) then (1000:Int) else (w:Int))=((min w 1000:Nat):Int):=by split <;> lia
   have SF:D9 mv pt lk:=by
    obtain ⟨M,V1,M0,fm,fp,fl,hcs⟩:=PG.n;rcases hcs with ⟨w9,rfl,rfl⟩ | ⟨w9,M1,rfl⟩
    ·exact sf (by decide) (ah (show 2520<=2^12 by decide) (aj (by decide) (by decide))) (by decide) fm fp fl
    ·obtain ⟨rfl,e1,e2⟩:=hbig w9;exact sf M0 (ah M1 (aj (by decide) (by lia))) (by decide) fm fp fl
   have RG:Rg (bC mv mv.length) lk (min w 1000):=by
    obtain ⟨M1,M2,M3,V1,a1,a2,a3,f1,f2,f3,hc'⟩:=PG;rcases hc' with ⟨w9,rfl,rfl,rfl,rfl⟩ | ⟨w9,b1,b2,b3,rfl⟩
    ·exact .inr (.inl ⟨by lia,by rw[et];lia,by decide,by decide,by decide,by decide,yS f1,f3,ah (aA _ (show (bC mv mv.length).length+4<=9 by rw[et];lia)) (by decide)⟩)
    ·obtain ⟨rfl,e1,e2⟩:=hbig w9;have q1:n*n<=2*2:=aE e2 e2;have q2:o*n<=4*2:=aE o4 e2;have w6:w=1000000:=by lia
     exact .inr (.inr ⟨by lia,by rw[et];lia,M1,M3,a1,a3,ah b1 (aj (by decide) (by lia)),ah b3 (aj (by decide) (by lia)),yS f1,f3,ah (aA _ (show (bC mv mv.length).length+4<=6 by rw[et];lia)) (by decide)⟩)
   walk_at "w";refine b9 fun t H5 s5 g5=>?_
   rw[hmin] at g5;exact k t r4 (min w 1000) mv pt lk H5 g5 ((P4.weak fun q h=>u02.none B1 h).same s5) D SF RG (by lia) (by lia) (B4.same s5) ((u02.trans u4).same s5)
theorem BX:bo ["thing","at","most"] ["thing","at","most"] (az jt):=by walk_at "d"
theorem rg (T:Txt K mg Z):cS P w K mg base gZ 1 Z.pG Z.oZ ["thing","at","most"] KR:=by
 refine T.mQ.ok BX (fun vs H Q E h=>?_) (fun cdv A outer s H vs Q E hr h=>?_)
 ·obtain ⟨p,xs,a,m,rfl,gx,hm,k⟩:=h;rfl
 ·obtain ⟨p,xs,a,m,rfl,gx,hm,k⟩:=h
  refine ⟨_,(au (cT (kK (jW (vK rfl T.isinstance PyProof.Rows.boot_list T.list (pv 0)))) (aB Jq) bS)
   (aB (cT (bc tE (bX bL (by rfl) T.len bH (ae (pv 0) ai)) (pv 2) (bB _)) (aB Jq) bS))),?_⟩
  refine aU (σ:=[some (.ref p),some (.int a),some (.int m)]) rfl ?_;walk_at "w";refine ⟨_,_,.lst gx,rfl,?_⟩;walk_at "w";refine ⟨_,_,rfl,.inl (bV.of gx),?_⟩;walk_at "w";rw[decide_eq_false (show ¬m < (xs.length:Int) by lia)];walk_at "w";exact k
theorem Di:bo ["thing"] ["thing"] (az kE):=by walk_at "d"
theorem yo (T:Txt K mg Z):cS P w K mg base gZ 1 Z.rQ Z.rC ["thing"] GC:=by
 refine T.rY.ok Di (fun vs H Q E h=>?_) (fun cdv A outer s H vs Q E hr h=>?_)
 ·obtain ⟨i,rfl,k⟩:=h;rfl
 ·obtain ⟨i,rfl,k⟩:=h;refine ⟨_,(aB (aV (EH (vK rfl T.isinstance PyProof.Rows.boot_int T.int (pv 0)) (EF (NR (vK rfl T.isinstance PyProof.Rows.boot_bool T.bool (pv 0))))))),?_⟩;refine aU (σ:=[some (.int i)]) rfl ?_;walk_at "w";refine ⟨_,_,.int i,rfl,?_⟩;walk_at "w";refine ⟨_,_,.int i,rfl,?_⟩;walk_at "w";exact k
theorem gI:bo ["one","other","rest"] ["one","other"] (az eJ):=by walk_at "d"
theorem jZ (T:Txt K mg Z):cS P w K mg base gZ 1 Z.iL Z.iF ["one","other"] OW:=by
 refine T.fF.ok gI (fun vs H Q E h=>?_) (fun cdv A outer s H vs Q E hr h=>?_)
 ·obtain ⟨a,b,rfl,k⟩:=h;rfl
 ·obtain ⟨a,b,rfl,k⟩:=h
  refine ⟨_,(au (zO PassesOwn.never (bc wA (pv 1) ar (bB _))
    (au (bh (i:=2) gI.nd rfl (Or.inl rfl) (bT LL (pv 0) (pv 1)))
   (au (bh (i:=0) gI.nd rfl (Or.inl rfl) (pv 1))
   (aB (bh (i:=1) gI.nd rfl (Or.inl rfl) (pv 2))))))
   (aB (aV (bX Av (by rfl) T.abs PyProof.Rows.boot_abs (ae (pv 0) ai))))),?_⟩
  refine aU (σ:=[some (.int a),some (.int b),none]) rfl ?_;walk_at "w";refine BL (fun σ' H'=>∃(u v:Int) (r:Option V),σ'=[some (.int u),some (.int v),r]/\H'=H/\Int.gcd u v=Int.gcd a b) (fun σ' _=>match σ' with | [_,some (.int v),_]=>v.natAbs | _=>0) ⟨a,b,none,rfl,rfl,rfl⟩ ?_;rintro σ' H' ⟨u,v,r,rfl,rfl,hg⟩;walk_at "w";refine gG (fun h=>?_) (fun h=>?_)
  ·have hv:v≠0:=fun z=>by subst z;simp at h
   walk_at "w";refine h7 (show v≠0 from hv) ?_;walk_at "w";exact ⟨⟨v,u.fmod v,_,rfl,rfl,(J0 u v).trans hg⟩,LW u v hv⟩
  ·have hv:v=0:=by
    by_cases z:v=0
    ·exact z
    ·exfalso;apply h;simp [z]
   subst hv;walk_at "w"
   have e:(if u < 0 then -u else u)=g a b:=by
    unfold g;rw[<- hg,Int.gcd_zero_right]
    split <;> lia
   rw[e];exact k
theorem B9:bo ["thing"] ["thing"] (az jw):=by walk_at "d"
theorem Cg (T:Txt K mg Z):cS P w K mg base gZ 2 Z.pK Z.o7 ["thing"] (GS K):=by
 refine T.uj.ok B9 (fun vs H Q E h=>?_) (fun cdv A outer s H vs Q E hr h=>?_)
 ·obtain ⟨x,n,rfl,⟨p,rfl,hp⟩,hn,k⟩:=h;rfl
 ·obtain ⟨x,n,rfl,⟨p,rfl,hp⟩,hn,k⟩:=h
  refine ⟨_,(au (cT (PW.pt (mV (kK (jW (yW rfl T.isinstance PyProof.Rows.boot_tuple T.tuple (pv 0)))) (jm (bc wA (bX bL (by rfl) T.len bH (ae (pv 0) ai)) ar (bB _))))) (aB (aV yn)) bS)
   (au (cT (PW.pt (mV (kK (jW (dg (yo T) hr T.tQ T.rY.kp T.vT (ae (bJ cO (pv 0) ar) ai)))) (jm (kK (jW (dg (yo T) hr T.tQ T.rY.kp T.vT (ae (bJ cO (pv 0) ar) ai))))))) (aB (aV yn)) bS)
   (aB (aV (EH (lC A8 (bJ cO (pv 0) ar) ar (bB _)) (EF (lC eB (dg (jZ T) hr T.gK T.fF.kp T.iK (ae (bJ cO (pv 0) ar) (ae (bJ cO (pv 0) ar) ai))) ar (bB _)))))))),?_⟩
  refine aU (σ:=[some (.ref p)]) rfl ?_;obtain ⟨hb,hg,s1,s2⟩:=hn;walk_at "w";refine .inr ⟨p,_,_,rfl,hp,rfl,?_⟩;walk_at "w";refine ⟨_,_,rfl,.inr hp,?_⟩;walk_at "w"
  try refine HQ ?_
  walk_at "w";refine ⟨n.1,rfl,?_⟩;walk_at "w";refine ⟨n.2,rfl,?_⟩;walk_at "w";rw[decide_eq_true (show (1:Int)<=n.2 by lia)];walk_at "w";refine ⟨n.1,n.2,rfl,?_⟩;walk_at "w";have e:g n.1 n.2=1:=by unfold g;rw[hg];rfl
  rw[e,decide_eq_true rfl];exact k _ (aL.refl _)
theorem G5:bo ["thing","many"] ["thing","many"] (az qE):=by walk_at "d"
theorem HF (T:Txt K mg Z):cS P w K mg base gZ 3 Z.xl Z.wY ["thing","many"] (A5 K):=by
 refine T.AA.ok G5 (fun vs H Q E h=>?_) (fun cdv A outer s H vs Q E hr h=>?_)
 ·obtain ⟨p,ns,rfl,hp,hl,hn,k⟩:=h;rfl
 ·obtain ⟨p,ns,rfl,hp,hl,hn,k⟩:=h
  refine ⟨_,(au (cT (PW.pt (mV (kK (jW (vK rfl T.isinstance PyProof.Rows.boot_list T.list (pv 0)))) (jm (bc wA (bX bL (by rfl) T.len bH (ae (pv 0) ai)) (pv 1) (bB _))))) (aB (aV yn)) bS)
   (aB (aV (bX (Au rfl) (by rfl) T.all PyProof.Rows.boot_all (ae (cQ ["value"] [] [] (cZ (pv 0)) (fun _=>(aR (i:=0) (show List.Nodup (α:=PySem.Str) ["value"] by decide +kernel))) (fun _=>cP) (fun _=>(dg (Cg T) hr T.wH T.uj.kp T.yx (ae (pv 0) ai)))) ai))))),?_⟩
  refine aU (σ:=[some (.ref p),some (.int ns.length)]) rfl ?_;obtain ⟨xs,gx,qx⟩:=id hp;have lx:=qx.length;walk_at "w";refine ⟨_,_,.lst gx,rfl,?_⟩;walk_at "w";refine ⟨_,_,rfl,.inl (bV.of gx),?_⟩;walk_at "w";rw[show ((xs.length:Nat):Int)=(ns.length:Nat) by rw[lx],decide_eq_true rfl];walk_at "w";refine ⟨⟨_,bV.of gx⟩,?_⟩;refine fE (K:=K) (xs:=xs) (fun i ys H'=>aL H H'/\ys=List.replicate i (.bl true)) (bp (bK (by lia))) ⟨aL.refl _,rfl⟩ (fun i ys H' _ ⟨s,_⟩=>bV.of (s _ _ gx)) ?_ ?_
  ·rintro i x ys H' hx hlen ⟨s,rfl⟩;obtain ⟨n,en,z⟩:=cH qx hx;walk_at "w";exact ⟨x,n,rfl,s.num z,hn n (ay en),fun H2 s2=>⟨s.trans s2,by rw[BG]⟩⟩
  ·rintro ys H' hy ⟨s,rfl⟩ l hl';walk_at "w";refine ⟨l,List.replicate xs.length true,rfl,bV.of (by rw[aK];simp),?_⟩;have e4:(List.replicate xs.length true).all id=true:=by simp
   rw[e4];exact k _ (s.trans (aL.new hl'))
theorem ou:bo ["things","wide","place","thing"] ["things","wide"] (az fY):=by walk_at "d"
theorem oy (T:Txt K mg Z):cS P w K mg base gZ 4 Z.ma Z.lJ ["things","wide"] (K2 K):=by
 refine T.jc.ok ou (fun vs H Q E h=>?_) (fun cdv A outer s H vs Q E hr h=>?_)
 ·obtain ⟨p,H0,rows,w,rfl,hp,hl,hw,hn,k⟩:=h;rfl
 ·obtain ⟨p,H0,rows,w,rfl,hp,hl,hw,hn,k⟩:=h
  refine ⟨_,(au (eT PassesOwn.never rfl (LI rfl T.enumerate (ae (pv 0) ai)) (tu rfl (cA (aR (i:=2) ou.nd) (cA (aR (i:=3) ou.nd) iD)))
    (aB (cT (kK (jW (dg (HF T) hr T.Be T.AA.kp T.DT (ae (pv 3) (ae (pv 1) ai))))) (aB Jq) bS)))
   (aB (aV (cQ ["row"] [] [] (cZ (pv 0)) (fun _=>(aR (i:=0) (show List.Nodup (α:=PySem.Str) ["row"] by decide +kernel))) (fun _=>cP) (fun _=>(e8 (p9 K (by rfl)) (by rfl) T.list PyProof.Rows.boot_list (ae (pv 0) ai))))))),?_⟩
  refine aU (σ:=[some (.ref p),some (.int w),none,none]) rfl ?_;obtain ⟨xs,gx,qx,_⟩:=id hp;walk_at "w";refine ⟨⟨_,bV.of gx⟩,?_⟩;refine J8 (K:=K) (l:=p) (xs:=xs) (fun i σ' H'=>aL H H'/\∃x y,σ'=[some (.ref p),some (.int w),x,y]) ⟨aL.refl _,none,none,rfl⟩ (fun i σ' H' _ ⟨s,_⟩=>bV.of (s _ _ gx)) ?_ ?_
  ·rintro i x σ' H' t hx ⟨s,x1,y1,rfl⟩ ht;obtain ⟨qs,eq,q,rfl,_,Rq⟩:=cH qx hx;have hm:=ay eq;have st:aL H' (upd H' t (.tup [.int i,.ref q])):=aL.new ht;have gt:(upd H' t (.tup [.int i,.ref q])) t=some (.tup [.int i,.ref q]):=aK;have s2:=s.trans st;generalize upd H' t (.tup [.int i,.ref q])=H2 at st gt s2 ⊢;have lq:(qs.map nm).length=w:=by rw[ao];exact (hn qs hm).1
   walk_at "w";refine ⟨q,_,by rw[lq],(Rq.same s2).rowK,by rw[lq];exact hw,fun n hn'=>?_,fun H3 s3=>?_⟩
   ·obtain ⟨y,hy,rfl⟩:=aD.mp hn';exact (hn qs hm).2 y hy
   walk_at "w";exact ⟨s2.trans s3,_,_,rfl⟩
  ·rintro σ' H' ⟨s,x1,y1,rfl⟩;walk_at "w";refine ⟨⟨_,bV.of (s _ _ gx)⟩,?_⟩;refine gD (K:=K) (F:=dq K H0) (dq K H) id (s _ _ gx) (Paired.imp' (fun _ _ z=>z.same s) qx) hl (fun a b=>a.same b) (fun a b=>a.same b) ?_ ?_
   ·rintro i ns x H2 NY NN en s2 ⟨u,rfl,_,zs,gz,qz⟩ k1;walk_at "w";refine ⟨u,zs,rfl,.inl (bV.of gz),fun l1 hl1=>?_⟩;exact k1 _ _ (aL.new hl1) ⟨l1,rfl,s.none (s2.none hl1),zs,aK,Paired.imp' (fun _ _ z=>z.same (aL.new hl1)) qz⟩
   ·rintro ys' H2 r hr s2 g pr nx;rw[xt] at pr nx;exact k r H2 (s.none hr) (s.trans s2) ⟨ys',g,pr,oU nx⟩
theorem vJ:bo ["self","move","put","look"] ["self","move","put","look"] (az d5):=by walk_at "d"
theorem oz (T:Txt K mg Z):cS P w K mg base gZ 5 Z.gP Z.gM ["self","move","put","look"] (KW K Z.a_System):=by
 refine T.pT.ok vJ (fun vs H Q E h=>?_) (fun cdv A outer s H vs Q E hr h=>?_)
 ·obtain ⟨x,dx,p,q,r,Hb,H0,H1,H2,mv,pt,lk,rfl,nx,ndx,nex,rfl,gp,gq,gr,D,om,op,ol,k⟩:=h;rfl
 ·obtain ⟨x,dx,p,q,r,Hb,H0,H1,H2,mv,pt,lk,rfl,nx,ndx,nex,rfl,gp,gq,gr,D,om,op,ol,k⟩:=h
  refine ⟨_,(au (iC (dg (rg T) hr T.m3 T.mQ.kp T.pC (ae (pv 1) (ae ar (ae (wg (v:=.int 8) rfl T.mg_MOST_STATES ⟨_,rfl⟩) ai)))))
   (au (xM (pv 0) (dg (oy T) hr T.j7 T.jc.kp T.lU (ae (pv 1) (ae (bX bL (by rfl) T.len bH (ae (pv 1) ai)) ai))) rfl)
   (au (xM (pv 0) (bX bL (by rfl) T.len bH (ae (fD (pv 0) rfl) ai)) rfl)
   (au (iC (dg (rg T) hr T.m3 T.mQ.kp T.pC (ae (pv 2) (ae ar (ae (wg (v:=.int 4) rfl T.mg_MOST_PUTS ⟨_,rfl⟩) ai)))))
   (au (xM (pv 0) (dg (oy T) hr T.j7 T.jc.kp T.lU (ae (pv 2) (ae (fD (pv 0) rfl) ai))) rfl)
   (au (xM (pv 0) (bX bL (by rfl) T.len bH (ae (fD (pv 0) rfl) ai)) rfl)
   (au (iC (dg (rg T) hr T.m3 T.mQ.kp T.pC (ae (pv 3) (ae ar (ae (wg (v:=.int 4) rfl T.mg_MOST_LOOKS ⟨_,rfl⟩) ai)))))
   (au (xM (pv 0) (dg (oy T) hr T.j7 T.jc.kp T.lU (ae (pv 3) (ae (fD (pv 0) rfl) ai))) rfl)
   (aB (xM (pv 0) (bX bL (by rfl) T.len bH (ae (fD (pv 0) rfl) ai)) rfl)))))))))),?_⟩
  refine aU (σ:=[some (.ref x),some (.ref p),some (.ref q),some (.ref r)]) rfl ?_
  have s0:aL Hb (upd (upd Hb dx (.own x)) x (.ins Z.a_System dx [])):=fun b o e=>by
   rw[bu (fj e nx),bu (fj e ndx)];exact e
  have hx:(upd (upd Hb dx (.own x)) x (.ins Z.a_System dx [])) x=some (.ins Z.a_System dx []):=aK;have back:∀{b},(upd (upd Hb dx (.own x)) x (.ins Z.a_System dx [])) b=none->Hb b=none:=fun h=>s0.none h
  generalize upd (upd Hb dx (.own x)) x (.ins Z.a_System dx [])=Ha at s0 hx back ⊢;obtain ⟨xs,gx,qx,_⟩:=id gp;obtain ⟨ys,gy,qy,_⟩:=id gq;obtain ⟨zs,gz,qz,_⟩:=id gr;have lx:=qx.length;have ly:=qy.length;have lz:=qz.length;have d1:=D.n8;have d2:=D.i4;have d3:=D.o4;walk_at "w";refine ⟨p,xs,0,8,rfl,s0 _ _ gx,by lia,?_⟩;walk_at "w";refine ⟨_,_,rfl,.inl (bV.of (s0 _ _ gx)),?_⟩;walk_at "w";refine ⟨p,H0,mv,mv.length,by rw[lx],gp.same s0,by lia,by lia,fun ws hw=>⟨D.mw ws hw,om ws hw⟩,fun a H3 na s3 Ga=>?_⟩;have hx3:=s3 _ _ hx;walk_at "w";refine ⟨x,Z.a_System,dx,_,rfl,hx3,T.cl_System,T.na_move,(by show 0 < 1000;decide),?_⟩;have e3:C2 x H3 (upd H3 x (.ins Z.a_System dx (cm "move" (.ref a) []))):=C2.upd;have i3:vB H3 x:=⟨_,_,_,hx3⟩;have hx4:(upd H3 x (.ins Z.a_System dx (cm "move" (.ref a) []))) x=some (.ins Z.a_System dx (cm "move" (.ref a) [])):=aK;have Ga4:=Ga.exc e3 i3;have k4:aL Hb (upd H3 x (.ins Z.a_System dx (cm "move" (.ref a) []))):=(s0.trans s3).after nx;generalize upd H3 x (.ins Z.a_System dx (cm "move" (.ref a) []))=H4 at e3 hx4 Ga4 k4 ⊢;walk_at "w";refine ⟨x,Z.a_System,dx,_,_,rfl,hx4,T.cl_System,T.na_move,(by rw[bw,if_pos rfl]),?_⟩;obtain ⟨as,ga,qa,_⟩:=id Ga4;have la:=qa.length;walk_at "w";refine ⟨_,_,rfl,.inl (bV.of ga),?_⟩;walk_at "w";refine ⟨x,Z.a_System,dx,_,rfl,hx4,T.cl_System,T.na_states,bA d9 (by show 1 < 1000;decide),?_⟩;rw[show ((as.length:Nat):Int)=((mv.length:Nat):Int) by rw[la]];have e4:C2 x H4 (upd H4 x (.ins Z.a_System dx (cm "states" (.int mv.length) (cm "move" (.ref a) [])))):=C2.upd;have i4:vB H4 x:=⟨_,_,_,hx4⟩;have hx5:(upd H4 x (.ins Z.a_System dx (cm "states" (.int mv.length) (cm "move" (.ref a) [])))) x=some (.ins Z.a_System dx (cm "states" (.int mv.length) (cm "move" (.ref a) []))):=aK;have Ga5:=Ga4.exc e4 i4;have k5:aL Hb (upd H4 x (.ins Z.a_System dx (cm "states" (.int mv.length) (cm "move" (.ref a) [])))):=k4.after nx;generalize upd H4 x (.ins Z.a_System dx (cm "states" (.int mv.length) (cm "move" (.ref a) [])))=H5 at e4 hx5 Ga5 k5 ⊢;clear e3 e4 i3 i4 hx4 Ga4 ga qa;walk_at "w";refine ⟨q,ys,1,4,rfl,k5 _ _ gy,by lia,?_⟩;walk_at "w";refine ⟨x,Z.a_System,dx,_,_,rfl,hx5,T.cl_System,T.na_states,(by rw[bw,if_pos rfl]),?_⟩;walk_at "w";refine ⟨q,H1,pt,mv.length,rfl,gq.same k5,by lia,by lia,fun ws hw=>⟨D.pw ws hw,op ws hw⟩,fun b H6 nb s6 Gb=>?_⟩;have hx6:=s6 _ _ hx5;have i6:vB H6 x:=⟨_,_,_,hx6⟩;walk_at "w";refine ⟨x,Z.a_System,dx,_,rfl,hx6,T.cl_System,T.na_put,bA d9 (bA (dO d9) (by show 2 < 1000;decide)),?_⟩;have e6:C2 x H6 (upd H6 x (.ins Z.a_System dx (cm "put" (.ref b) (cm "states" (.int mv.length) (cm "move" (.ref a) []))))):=C2.upd;have hx7:(upd H6 x (.ins Z.a_System dx (cm "put" (.ref b) (cm "states" (.int mv.length) (cm "move" (.ref a) []))))) x=some (.ins Z.a_System dx (cm "put" (.ref b) (cm "states" (.int mv.length) (cm "move" (.ref a) [])))):=aK;have Ga7:=(Ga5.same s6).exc e6 i6;have Gb7:=(Gb.weak k5).exc e6 i6;have k7:aL Hb (upd H6 x (.ins Z.a_System dx (cm "put" (.ref b) (cm "states" (.int mv.length) (cm "move" (.ref a) []))))):=(k5.trans s6).after nx;generalize upd H6 x (.ins Z.a_System dx (cm "put" (.ref b) (cm "states" (.int mv.length) (cm "move" (.ref a) []))))=H7 at e6 hx7 Ga7 Gb7 k7 ⊢;obtain ⟨bs,gb,qb,_⟩:=id Gb7;have lb:=qb.length;walk_at "w";refine ⟨x,Z.a_System,dx,_,_,rfl,hx7,T.cl_System,T.na_put,(by rw[bw,if_pos rfl]),?_⟩;walk_at "w";refine ⟨_,_,rfl,.inl (bV.of gb),?_⟩;walk_at "w";refine ⟨x,Z.a_System,dx,_,rfl,hx7,T.cl_System,T.na_ins,bA d9 (bA (dO (ah d9 (dO d9))) (by show 3 < 1000;decide)),?_⟩;rw[show ((bs.length:Nat):Int)=((pt.length:Nat):Int) by rw[lb]];have i7:vB H7 x:=⟨_,_,_,hx7⟩;have e7:C2 x H7 (upd H7 x (.ins Z.a_System dx (cm "ins" (.int pt.length) (cm "put" (.ref b) (cm "states" (.int mv.length) (cm "move" (.ref a) [])))))):=C2.upd;have hx8:(upd H7 x (.ins Z.a_System dx (cm "ins" (.int pt.length) (cm "put" (.ref b) (cm "states" (.int mv.length) (cm "move" (.ref a) [])))))) x=some (.ins Z.a_System dx (cm "ins" (.int pt.length) (cm "put" (.ref b) (cm "states" (.int mv.length) (cm "move" (.ref a) []))))):=aK;have Ga8:=Ga7.exc e7 i7;have Gb8:=Gb7.exc e7 i7;have k8:aL Hb (upd H7 x (.ins Z.a_System dx (cm "ins" (.int pt.length) (cm "put" (.ref b) (cm "states" (.int mv.length) (cm "move" (.ref a) [])))))):=k7.after nx;generalize upd H7 x (.ins Z.a_System dx (cm "ins" (.int pt.length) (cm "put" (.ref b) (cm "states" (.int mv.length) (cm "move" (.ref a) [])))))=H8 at e7 hx8 Ga8 Gb8 k8 ⊢;clear e6 e7 i6 i7 hx7 Ga7 Gb7 gb qb;walk_at "w";refine ⟨r,zs,2,4,rfl,k8 _ _ gz,by lia,?_⟩;walk_at "w";refine ⟨x,Z.a_System,dx,_,_,rfl,hx8,T.cl_System,T.na_states,(by rw[bw,if_neg (by decide +kernel),bw,if_neg (by decide +kernel),bw,if_pos rfl]),?_⟩;walk_at "w";refine ⟨r,H2,lk,mv.length,rfl,gr.same k8,by lia,by lia,fun ws hw=>⟨D.lw ws hw,ol ws hw⟩,fun c H9 nc s9 Gc=>?_⟩;have hx9:=s9 _ _ hx8;have i9:vB H9 x:=⟨_,_,_,hx9⟩;walk_at "w";refine ⟨x,Z.a_System,dx,_,rfl,hx9,T.cl_System,T.na_look,bA d9 (bA (dO (ah d9 (dO (ah d9 (dO d9))))) (by show 4 < 1000;decide)),?_⟩;have e9:C2 x H9 (upd H9 x (.ins Z.a_System dx (cm "look" (.ref c) (cm "ins" (.int pt.length) (cm "put" (.ref b) (cm "states" (.int mv.length) (cm "move" (.ref a) []))))))):=C2.upd;have hxA:(upd H9 x (.ins Z.a_System dx (cm "look" (.ref c) (cm "ins" (.int pt.length) (cm "put" (.ref b) (cm "states" (.int mv.length) (cm "move" (.ref a) []))))))) x=some (.ins Z.a_System dx (cm "look" (.ref c) (cm "ins" (.int pt.length) (cm "put" (.ref b) (cm "states" (.int mv.length) (cm "move" (.ref a) [])))))):=aK;have GaA:=(Ga8.same s9).exc e9 i9;have GbA:=(Gb8.same s9).exc e9 i9;have GcA:=(Gc.weak k8).exc e9 i9;have kA:aL Hb (upd H9 x (.ins Z.a_System dx (cm "look" (.ref c) (cm "ins" (.int pt.length) (cm "put" (.ref b) (cm "states" (.int mv.length) (cm "move" (.ref a) []))))))):=(k8.trans s9).after nx;generalize upd H9 x (.ins Z.a_System dx (cm "look" (.ref c) (cm "ins" (.int pt.length) (cm "put" (.ref b) (cm "states" (.int mv.length) (cm "move" (.ref a) []))))))=HA at e9 hxA GaA GbA GcA kA ⊢;obtain ⟨cs,gc,qc,_⟩:=id GcA;have lc:=qc.length;walk_at "w";refine ⟨x,Z.a_System,dx,_,_,rfl,hxA,T.cl_System,T.na_look,(by rw[bw,if_pos rfl]),?_⟩;walk_at "w";refine ⟨_,_,rfl,.inl (bV.of gc),?_⟩;walk_at "w";refine ⟨x,Z.a_System,dx,_,rfl,hxA,T.cl_System,T.na_outs,bA d9 (bA (dO (ah d9 (dO (ah d9 (dO (ah d9 (dO d9))))))) (by show 5 < 1000;decide)),?_⟩;rw[show ((cs.length:Nat):Int)=((lk.length:Nat):Int) by rw[lc]];have iA:vB HA x:=⟨_,_,_,hxA⟩;exact k _ (kA.after nx) ⟨dx,a,b,c,aK,back na,k5.none nb,k8.none nc,(GaA.exc C2.upd iA).weak s0,GbA.exc C2.upd iA,GcA.exc C2.upd iA⟩
theorem zJ:bo ["_law_grid"] ["_law_grid"] (az gB):=by walk_at "d"
theorem j5 (T:Txt K mg Z):cS P w K mg base gZ 1 Z.mi Z.lQ ["_law_grid"] (Et K):=by
 refine T.gF.ok zJ (fun vs H Q E h=>?_) (fun cdv A outer s H vs Q E hr h=>?_)
 ·obtain ⟨p,H0,rows,rfl,hp,hl,hm,k⟩:=h;rfl
 ·obtain ⟨p,H0,rows,rfl,hp,hl,hm,k⟩:=h;refine ⟨_,(aB (aV (cQ ["_law_row_here"] [] [] (cZ (pv 0)) (fun _=>(aR (i:=0) (show List.Nodup (α:=PySem.Str) ["_law_row_here"] by decide +kernel))) (fun _=>cP) (fun _=>(e8 (p9 K (by rfl)) (by rfl) T.list PyProof.Rows.boot_list (ae (pv 0) ai)))))),?_⟩;refine aU (σ:=[some (.ref p)]) rfl ?_;obtain ⟨xs,gx,qx,_⟩:=id hp;walk_at "w";refine ⟨⟨_,bV.of gx⟩,?_⟩;refine gD (K:=K) (F:=dq K H0) (dq K H) id gx qx hl (fun a b=>a.same b) (fun a b=>a.same b) ?_ ?_
  ·rintro i ns x H' NY NN en s ⟨u,rfl,_,zs,gz,qz⟩ k1;walk_at "w";refine ⟨u,zs,rfl,.inl (bV.of gz),fun l1 hl1=>?_⟩;exact k1 _ _ (aL.new hl1) ⟨l1,rfl,s.none hl1,zs,aK,Paired.imp' (fun _ _ z=>z.same (aL.new hl1)) qz⟩
  ·rintro ys' H' r hr s g pr nx;rw[xt] at pr nx;exact k r H' hr s ⟨ys',g,pr,oU nx⟩
theorem jR:bo ["_law_parts_here","_law_move_here","_law_put","_law_look"] ["_law_parts_here"] (az fZ):=by walk_at "d"
theorem zZ (T:Txt K mg Z):cS P w K mg base gZ 7 Z.md Z.lK ["_law_parts_here"] (Ek K Z.a_System):=by
 refine T.qA.ok jR (fun vs H Q E h=>?_) (fun cdv A outer s H vs Q E hr h=>?_)
 ·obtain ⟨r,H0,mv,pt,lk,rfl,PQ,D,F,k⟩:=h;rfl
 ·obtain ⟨r,H0,mv,pt,lk,rfl,PQ,D,F,k⟩:=h
  refine ⟨_,(au (eV (pv 0) (tu rfl (cA (aR (i:=1) jR.nd) (cA (aR (i:=2) jR.nd) (cA (aR (i:=3) jR.nd) iD)))))
   (aB (aV (Fz T.mk_System (oz T) (hr.mono (by decide)) rfl T.mg_System T.kh .nil Dw (ae (dg (j5 T) hr T.ib T.gF.kp T.jb (ae (pv 1) ai)) (ae (dg (j5 T) hr T.ib T.gF.kp T.jb (ae (pv 2) ai)) (ae (dg (j5 T) hr T.ib T.gF.kp T.jb (ae (pv 3) ai)) ai))))))),?_⟩
  refine aU (σ:=[some (.ref r),none,none,none]) rfl ?_;obtain ⟨m,p,l,g,n1,n2,n3,Gm,Gp,Gl⟩:=id PQ;have d1:=D.n8;have d2:=D.i4;have d3:=D.o4;walk_at "w";refine ⟨m,H0,mv,rfl,Gm,by lia,fun xs hx=>by rw[D.mw xs hx];lia,fun a H1 na s1 Ga=>?_⟩;walk_at "w";refine ⟨p,H0,pt,rfl,Gp.same s1,by lia,fun xs hx=>by rw[D.pw xs hx];lia,fun b H2 nb s2 Gb=>?_⟩;have s12:=s1.trans s2;walk_at "w";refine ⟨l,H0,lk,rfl,Gl.same s12,by lia,fun xs hx=>by rw[D.lw xs hx];lia,fun c H3 nc s3 Gc=>?_⟩;have s13:=s12.trans s3;walk_at "w";intro x dx nx ndx nex;exact ⟨x,dx,a,b,c,H3,H,H1,H2,mv,pt,lk,rfl,nx,ndx,nex,rfl,(Ga.same s2).same s3,Gb.same s3,Gc,D,F.ok.1,F.ok.2.1,F.ok.2.2,fun H' s' S'=>⟨rfl,k x H' (s13.none nx) (s13.trans s') (S'.weak s13)⟩⟩
theorem AN:bo ["_law_bag_here","_law_n","_law_wide"] ["_law_bag_here","_law_n","_law_wide"] (az iq):=by walk_at "d"
theorem AR (T:Txt K mg Z):cS P w K mg base gZ 2 Z.nH Z.m9 ["_law_bag_here","_law_n","_law_wide"] El:=by
 refine T.su.ok AN (fun vs H Q E h=>?_) (fun cdv A outer s H vs Q E hr h=>?_)
 ·obtain ⟨b,n,w,rfl,hB,n8,k⟩:=h;rfl
 ·obtain ⟨b,n,w,rfl,hB,n8,k⟩:=h
  refine ⟨_,(au (cT (bc tE (pv 2) ar (bB _)) (aB (aV (dg (bE T) hr T.bf T.bx.kp T.bD (ae (pv 0) (ae ar ai))))) bS)
   (au (cT (bc tE (pv 1) ar (bB _)) (aB (aV (dg (bE T) hr T.bf T.bx.kp T.bD (ae (pv 0) (ae ar ai))))) bS)
   (au (cT (bc tE (pv 1) ar (bB _)) (aB (aV (bJ bZ (dX (ae (dg (bE T) hr T.bf T.bx.kp T.bD (ae (pv 0) (ae ar ai))) (ae (pv 1) ai))) (dg (bE T) hr T.bf T.bx.kp T.bD (ae (pv 0) (ae ar ai)))))) bS)
   (au (cT (PW.pt (jV (bc vd (pv 1) ar (bB _)) (lB (bc eB (dg (bE T) hr T.bf T.bx.kp T.bD (ae (pv 0) (ae ar ai))) ar (bB _))))) (aB (aV (dg (bE T) hr T.bf T.bx.kp T.bD (ae (pv 0) (ae ar ai))))) bS)
   (aB (aV (dg (bE T) hr T.bf T.bx.kp T.bD (ae (pv 0) (ae ar ai))))))))),?_⟩
  refine aU (σ:=[some (.ref b),some (.int n),some (.int w)]) rfl ?_;walk_at "w";refine gG (fun h0=>?_) (fun h0=>?_)
  ·have h0:=of_decide_eq_true h0;walk_at "w";refine ⟨b,4,rfl,hB,by decide,by decide,fun v H1 v0 v1 B1 u1=>?_⟩;obtain ⟨v,rfl⟩:=b8 v0;exact k v H1 ⟨by lia,fun _=>by lia,fun _ _=>by lia,fun _=>by lia⟩ B1 u1
  have h0:¬((9:Int) < w):=fun z=>h0 (decide_eq_true z)
  walk_at "w";refine gG (fun h1=>?_) (fun h1=>?_)
  ·have h1:=of_decide_eq_true h1;walk_at "w";refine ⟨b,13,rfl,hB,by decide,by decide,fun v H1 v0 v1 B1 u1=>?_⟩;obtain ⟨v,rfl⟩:=b8 v0;exact k v H1 ⟨by lia,fun _=>by lia,fun _ _=>by lia,fun _=>by lia⟩ B1 u1
  have h1:¬((5:Int) < n):=fun z=>h1 (decide_eq_true z)
  walk_at "w";refine gG (fun h2=>?_) (fun h2=>?_)
  ·have h2:=of_decide_eq_true h2;walk_at "w";refine ⟨b,5,rfl,hB,by decide,by decide,fun v H1 v0 v1 B1 u1=>?_⟩;obtain ⟨v,rfl⟩:=b8 v0;walk_at "w";refine dz fun l H2 s2 n2 g2=>?_
   walk_at "w";refine ⟨b,2,rfl,B1.same s2,by decide,by decide,fun c H3 c0 c1 B3 u3=>?_⟩;have g3:=u3.other (fun z=>B1.at (by rw[<- z];exact n2)) g2;obtain ⟨x,ex,mx,_⟩:=qQ (xs:=[V.int v,V.int n]) c0 (by simpa using c1);refine cN (bV.of g3) ex ?_;have u03:=(u1.same s2).trans u3;simp only[aG,aZ,or_false] at mx;rcases mx with rfl | rfl
   ·exact k v H3 ⟨by lia,fun _=>by lia,fun _ _=>by lia,fun _=>by lia⟩ B3 u03
   ·exact k n H3 ⟨by lia,fun _=>by lia,fun _ _=>by lia,fun _=>by lia⟩ B3 u03
  have h2:¬((3:Int) < n):=fun z=>h2 (decide_eq_true z)
  walk_at "w";refine gG (fun h3=>?_) (fun h3=>?_)
  ·have h3:=of_decide_eq_true h3;walk_at "w";refine ⟨b,4,rfl,hB,by decide,by decide,fun c H1 c0 c1 B1 u1=>?_⟩;walk_at "w";refine gG (fun h4=>?_) (fun h4=>?_)
   ·walk_at "w";refine ⟨b,13,rfl,B1,by decide,by decide,fun v H2 v0 v1 B2 u2=>?_⟩;obtain ⟨v,rfl⟩:=b8 v0;exact k v H2 ⟨by lia,fun _=>by lia,fun _ _=>by lia,fun _=>by lia⟩ B2 (u1.trans u2)
   ·walk_at "w";refine ⟨b,7,rfl,B1,by decide,by decide,fun v H2 v0 v1 B2 u2=>?_⟩;obtain ⟨v,rfl⟩:=b8 v0;exact k v H2 ⟨by lia,fun _=>by lia,fun _ _=>by lia,fun _=>by lia⟩ B2 (u1.trans u2)
  ·walk_at "w";refine ⟨b,7,rfl,hB,by decide,by decide,fun v H2 v0 v1 B2 u2=>?_⟩;obtain ⟨v,rfl⟩:=b8 v0;exact k v H2 ⟨by lia,fun _=>by lia,fun _ _=>by lia,fun _=>by lia⟩ B2 u2
theorem oR:bo ["_law_one","_law_other","_law_total","_law_k"] ["_law_one","_law_other"] (az kI):=by walk_at "d"
theorem tL (T:Txt K mg Z):cS P w K mg base gZ 3 Z.rV Z.rG ["_law_one","_law_other"] (Fq K):=by
 refine T.oM.ok oR (fun vs H Q E h=>?_) (fun cdv A outer s H vs Q E hr h=>?_)
 ·obtain ⟨p,q,xs,ys,rfl,hp,hq,hl,hz,⟨k1,j1,k2,j2,h1,h2,hkj⟩,kk⟩:=h;rfl
 ·obtain ⟨p,q,xs,ys,rfl,hp,hq,hl,hz,⟨k1,j1,k2,j2,h1,h2,hkj⟩,kk⟩:=h
  refine ⟨_,(au (bh (i:=2) oR.nd rfl (Or.inl rfl) (df (ae ar (ae ar ai))))
   (au (eT PassesOwn.never rfl (cK rfl T.range (ae (bX bL (by rfl) T.len bH (ae (pv 0) ai)) ai)) (aR (i:=3) oR.nd)
    (aB (bh (i:=2) oR.nd rfl (Or.inl rfl) (dg (mJ T) hr T.jG T.jr.kp T.kT (ae (pv 2) (ae (dg (mZ T) hr T.j8 T.jM.kp T.mO (ae (bJ bZ (pv 0) (pv 3)) (ae (bJ bZ (pv 1) (pv 3)) ai))) ai))))))
   (aB (aV (pv 2))))),?_⟩
  refine aU (σ:=[some (.ref p),some (.ref q),none,none]) rfl ?_;obtain ⟨us,gu,qu⟩:=id hp;obtain ⟨ws,gw,qw⟩:=id hq;have lu:=qu.length;have lw:=qw.length;walk_at "w";refine b9 fun r0 H0 s0 g0=>?_
  walk_at "w";refine ⟨_,_,rfl,.inl (bV.of (s0 _ _ gu)),?_⟩;walk_at "w";refine ⟨by lia,by lia,?_⟩;refine fM (n:=us.length) (fun i σ' H'=>aL H H'/\∃(r:V) (v:Option V),σ'=[some (.ref p),some (.ref q),some r,v]/\cB K H' (dW (xs.take i) (ys.take i)) r) ⟨s0,_,none,rfl,cB.mk g0 rfl⟩ ?_ ?_
  ·rintro i σ' H' hi ⟨s,r,v,rfl,hr⟩;have ix:i < xs.length:=by lia
   have iy:i < ys.length:=by lia
   obtain ⟨vx,ex,nx⟩:=JR (Paired.imp' (fun _ _ z=>z.same s) qu) ix;obtain ⟨vy,ey,ny⟩:=JR (Paired.imp' (fun _ _ z=>z.same s) qw) iy;walk_at "w";refine cN (bV.of (s _ _ gu)) ex ?_;walk_at "w";refine cN (bV.of (s _ _ gw)) ey ?_;walk_at "w";refine ⟨_,_,_,_,rfl,nx,ny,h1.szn (getD_mem ix) (by lia),h2.szn (getD_mem iy) (by lia),fun r3 H3 s3 n3=>?_⟩;walk_at "w";refine ⟨_,_,_,_,rfl,hr.same s3,n3,Kf h1 h2 hz i hkj,JB (h1.one (getD_mem ix)) (h2.one (getD_mem iy)) hkj,fun r4 H4 s4 n4=>?_⟩;walk_at "w";exact ⟨(s.trans s3).trans s4,_,_,rfl,by rw[Bn ix iy];exact n4⟩
  ·rintro σ' H' ⟨s,r,v,rfl,hr⟩;rw[aI (by lia),aI (by lia)] at hr;obtain ⟨t,rfl,ht⟩:=hr;walk_at "w";exact kk _ H' s ⟨t,rfl,ht⟩
theorem cY:bo ["_law_parts_here","_law_steps_here","_law_move_here","_law_put","_law_look","_law_n","_law_rows","_law_found","_law_t"] ["_law_parts_here","_law_steps_here"] (az eK):=by walk_at "d"
theorem wD (T:Txt K mg Z):cS P w K mg base gZ 4 Z.iM Z.iG ["_law_parts_here","_law_steps_here"] (IT K):=by
 refine T.kZ.ok cY (fun vs H Q E h=>?_) (fun cdv A outer s H vs Q E hr h=>?_)
 ·obtain ⟨r,tt,H0,mv,pt,lk,rfl,hT,PQ,D,AD,k⟩:=h;rfl
 ·obtain ⟨r,tt,H0,mv,pt,lk,rfl,hT,PQ,D,AD,k⟩:=h
  refine ⟨_,(au (eV (pv 0) (tu rfl (cA (aR (i:=2) cY.nd rfl (Or.inr rfl) (Or.inl rfl)) (cA (aR (i:=3) cY.nd) (cA (aR (i:=4) cY.nd) iD)))))
   (au (bh (i:=5) cY.nd rfl (Or.inr rfl) (bX bL (by rfl) T.len bH (ae (pv 2) ai)))
   (au (oS 6 ["_law_row_here"] [] [] cY.nd rfl rfl (cZ (pv 4)) (fun _=>(aR (i:=0) (show List.Nodup (α:=PySem.Str) ["_law_row_here"] by decide +kernel))) (fun _=>cP) (fun _=>(e8 (p9 K (by rfl)) (by rfl) T.list PyProof.Rows.boot_list (ae (pv 0) ai))))
   (au (bh (i:=7) cY.nd rfl (Or.inl rfl) (dX ai))
   (au (eT PassesOwn.never rfl (cK rfl T.range (ae (pv 1) ai)) (aR (i:=8) cY.nd)
    (au (iC (va cI xy xx xT (pv 7) (ae (pv 6) ai)))
   (aB (oS 6 ["_law_row_here"] ["_law_n","_law_move_here"] [5,2] cY.nd rfl rfl (cZ (pv 6)) (fun _=>(aR (i:=0) (show List.Nodup (α:=PySem.Str) ["_law_row_here","_law_n","_law_move_here"] by decide +kernel) rfl (Or.inr rfl) (Or.inl rfl))) (fun _=>cP) (fun _=>(cQ ["_law_j"] ["_law_row_here","_law_n","_law_move_here"] [0,1,2] (cK rfl T.range (ae (pv 1) ai)) (fun _=>(aR (i:=0) (show List.Nodup (α:=PySem.Str) ["_law_j","_law_row_here","_law_n","_law_move_here"] by decide +kernel) rfl (Or.inr rfl) (Or.inl rfl))) (fun _=>cP) (fun _=>(dg (tL T) hr T.oX T.oM.kp T.rP (ae (pv 1) (ae (cQ ["_law_i"] ["_law_move_here","_law_j"] [3,0] (cK rfl T.range (ae (pv 2) ai)) (fun _=>(aR (i:=0) (show List.Nodup (α:=PySem.Str) ["_law_i","_law_move_here","_law_j"] by decide +kernel))) (fun _=>cP) (fun _=>(bJ (mN K (by rfl)) (bJ (mN K (by rfl)) (pv 1) (pv 0)) (pv 2)))) ai))))))))))
   (aB (aV (pv 7)))))))),?_⟩
  refine aU (σ:=[some (.ref r),some (.int tt),none,none,none,none,none,none,none]) rfl ?_;have d8:=D.n8;have o4:=D.o4;have et:(bC mv mv.length).length=mv.length:=cy;obtain ⟨m,p,l,g,n1,n2,n3,Gm,Gp,Gl⟩:=id PQ;obtain ⟨um,gm,qm,_⟩:=id Gm;obtain ⟨ul,gl,ql,_⟩:=id Gl;have lum:=qm.length;have lul:=ql.length;walk_at "w";refine ⟨_,_,rfl,.inl (bV.of gm),?_⟩;rw[<- lum];walk_at "w";refine ⟨⟨_,bV.of gl⟩,?_⟩;refine gD (K:=K) (F:=dq K H0) (dq K H) id gl ql (by lia) (fun a b=>a.same b) (fun a b=>a.same b) ?_ ?_
  ·rintro i ns x H' NY NN en s ⟨u,rfl,_,zs,gz,qz⟩ k1;walk_at "w";refine ⟨u,zs,rfl,.inl (bV.of gz),fun l1 hl1=>?_⟩;exact k1 _ _ (aL.new hl1) ⟨l1,rfl,s.none hl1,zs,aK,Paired.imp' (fun _ _ z=>z.same (aL.new hl1)) qz⟩
  rintro ys1 H1 rq1 hr1 s1 g1 pr1 nx1;rw[xt] at pr1 nx1;have G1:bO K H H1 rq1 lk:=⟨ys1,g1,pr1,oU nx1⟩;walk_at "w";refine dz fun fd H2 s2 nf gf=>?_
  have s02:=s1.trans s2;have nf0:H fd=none:=s1.none nf;obtain ⟨Hz,eHz⟩:∃Hz,Hz=upd H fd (.lst []):=⟨_,rfl⟩;have zl:Hz fd≠none:=by rw[eHz,aK];exact fun z=>nomatch z
  have zn:∀q,Hz q=none->H q=none/\q≠fd:=fun q h=>by
   have ne:q≠fd:=fun z=>zl (by rw[<- z];exact h)
   rw[eHz,bu ne] at h;exact ⟨h,ne⟩
  have nz:∀q,H q=none->q≠fd->Hz q=none:=fun q h ne=>by rw[eHz,bu ne];exact h
  clear eHz;have rf1:rq1≠fd:=fun z=>by rw[z,nf] at g1;cases g1
  have G2:bO K Hz H2 rq1 lk:=⟨ys1,s2 _ _ g1,Paired.imp' (fun _ _ ⟨q,a,b,c⟩=>⟨q,a,nz q b (fun z=>by obtain ⟨_,gg,_⟩:=c;rw[z,nf] at gg;cases gg),cR.same c s2⟩) pr1,oU nx1⟩
  have powl:∀t,∀ns∈lk.map (gX (bC mv mv.length) t),ns.length=mv.length:=fun t ns hn=>by
   obtain ⟨y,hy,rfl⟩:=aD.mp hn;have:=qZ (mv:=bC mv mv.length) (st:=y) (by rw[et];exact D.lw y hy) t;rw[this,et]
  walk_at "w";refine ⟨by lia,by lia,?_⟩;refine fM (n:=tt) (fun t σ' H'=>aL H H'/\∃rq us y,σ'=[some (.ref r),some (.int tt),some (.ref m),some (.ref p),some (.ref l),some (.int mv.length),some (.ref rq),some (.ref fd),y]/\rq≠fd/\H' fd=some (.lst us)/\Paired (dq K Hz H') (kry (bC mv mv.length) lk t) us/\bO K Hz H' rq (lk.map (gX (bC mv mv.length) t))) ⟨s02,rq1,[],_,rfl,rf1,gf,.nil,by rw[show lk.map (gX (bC mv mv.length) 0)=lk from xt lk];exact G2⟩ ?_ ?_
  ·rintro t σ' H' ht ⟨s',rq,us,y,rfl,rf,gu,pu,Gq⟩;obtain ⟨zs,gz,qz,_⟩:=id Gq;have lz:=qz.length;rw[ao] at lz;have lu:=pu.length;rw[oY] at lu;have lb:t*lk.length<=12*4:=aE (by lia) o4;walk_at "w";refine ⟨.inl ⟨rfl,_,bV.of gu⟩,?_⟩;walk_at "w";refine ⟨fd,rq,us,zs,rfl,rfl,gu,gz,bp (bK (by lia)),?_⟩;have s2':aL H (upd H' fd (.lst (us++zs))):=s'.after nf0;have g2':(upd H' fd (.lst (us++zs))) fd=some (.lst (us++zs)):=aK
   have p2':Paired (dq K Hz (upd H' fd (.lst (us++zs)))) (kry (bC mv mv.length) lk (t+1)) (us++zs):=by
    rw[<- uM,CS,fu,uM];have:[lk.map (gX (bC mv mv.length) t)].flatten=lk.map (gX (bC mv mv.length) t):=by simp
    rw[this];exact b6 (Paired.imp' (fun _ _ z=>dq.updL z gu zl) pu) (Paired.imp' (fun _ _ z=>dq.updL z gu zl) qz)
   have gz2:(upd H' fd (.lst (us++zs))) rq=some (.lst zs):=by rw[bu rf];exact gz
   have qz2:Paired (dq K Hz (upd H' fd (.lst (us++zs)))) (lk.map (gX (bC mv mv.length) t)) zs:=Paired.imp' (fun _ _ z=>dq.updL z gu zl) qz;generalize upd H' fd (.lst (us++zs))=H3 at s2' g2' p2' gz2 qz2 ⊢;have gm3:=s2' _ _ gm;have qm3:Paired (dq K H0 H3) mv um:=Paired.imp' (fun _ _ z=>dq.same z s2') qm;walk_at "w";refine ⟨⟨_,bV.of gz2⟩,?_⟩;refine gD (K:=K) (F:=dq K Hz) (dq K Hz) (rd (bC mv mv.length)) gz2 qz2 (by rw[ao];lia) (fun a b=>a.same b) (fun a b=>a.same b) ?_ ?_
   ·rintro i ns v Ha NY NN en sa ⟨u,rfl,_,Ru⟩ k1;have mn:=ay en;have wn:=powl t ns mn;walk_at "w";refine ⟨by lia,by lia,?_⟩;refine gC (n:=mv.length) (cB K) (fun j=>dW ns (mv.map fun xs=>xs.getD j 0)) (by lia) (fun a b=>a.same b) ?_ ?_
    ·rintro j Hb NY2 NN2 hj sb k2;have sab:=sa.trans sb;walk_at "w";refine ⟨by lia,by lia,?_⟩;refine gC (n:=mv.length) (cB K) (fun i=>(mv.getD i []).getD j 0) (by lia) (fun a b=>a.same b) ?_ ?_
     ·rintro i2 Hc NY3 NN3 hi2 sc k3;have sac:=sab.trans sc;obtain ⟨xr,vr,er,evr,mr,qr,rfl,_,Rr⟩:=h9 (Paired.imp' (fun _ _ z=>dq.same z sac) qm3) hi2;have wr:=D.mw xr mr;obtain ⟨ws,gw,qw⟩:=id Rr;obtain ⟨vx,ex,nx⟩:=JR qw (j:=j) (by lia);have e:(mv.getD i2 []).getD j 0=xr.getD j 0:=by rw[aa (l:=mv),er];rfl
      walk_at "w";refine cN (bV.of (sac _ _ gm3)) (gN evr) ?_;walk_at "w";refine cN (bV.of gw) ex ?_;exact k3 _ _ (aL.refl _) (by rw[e];exact nx)
     ·rintro ys Hc cq hcq sc gc prc _
      have ecol:(List.range mv.length).map (fun i=>(mv.getD i []).getD j 0)=mv.map fun xs=>xs.getD j 0:=by
       apply dD (by rw[ao,ao,cD]);intro i h1 h2;rw[fG,fG,vE];rw[ao] at h2;rw[aa (l:=mv),ag h2];rfl
      rw[ecol] at prc;have Rc:cR K Hc cq (mv.map fun xs=>xs.getD j 0):=⟨ys,gc,prc⟩;walk_at "w";refine ⟨u,cq,ns,_,rfl,cR.same Ru (sb.trans sc),Rc,by rw[ao,wn],by lia,?_,fun d1 Hd sd Nd=>?_⟩
      ·obtain ⟨y0,hy0,rfl⟩:=aD.mp mn;have af:=(AD.row D.turn.mw D.turn.pw y0 hy0).fit D.turn.mw (D.turn.pw y0 hy0) (show t<=tt by lia);refine (af.1 _ ?_).symm;unfold bC;exact aD.mpr ⟨j,vD.mpr hj,rfl⟩
      ·exact k2 _ _ (sc.trans sd) Nd
    ·rintro ys Hb rr hrr sb gb prb _
     have eo:(List.range mv.length).map (fun j=>dW ns (mv.map fun xs=>xs.getD j 0))=rd (bC mv mv.length) ns:=by
      unfold rd bC;rw[uX];refine ux fun j _=>?_
      show dW ns _=dW _ ns
      exact DK (by rw[ao,wn])
     rw[eo] at prb;exact k1 _ _ sb ⟨rr,rfl,nz rr (s2'.none (sa.none hrr)) (fun z=>by have:=sa _ _ g2';rw[z,this] at hrr;cases hrr),ys,gb,prb⟩
   ·rintro ys Hb rr hrr sb gb prb nxb;have e:(lk.map (gX (bC mv mv.length) t)).map (rd (bC mv mv.length))=lk.map (gX (bC mv mv.length) (t+1)):=by rw[uX];rfl
    rw[e] at prb nxb;exact ⟨s2'.trans sb,rr,_,_,rfl,fun z=>(by rw[z,g2'] at hrr;cases hrr),sb _ _ g2',Paired.imp' (fun _ _ z=>dq.same z sb) p2',ys,gb,prb,oU nxb⟩
  ·rintro σ' H' ⟨s',rq,us,y,rfl,rf,gu,pu,Gq⟩;walk_at "w";refine k fd H' nf0 s' ⟨us,gu,Paired.imp' (fun _ _ ⟨q,a,b,c⟩=>⟨q,a,(zn q b).1,c⟩) pu,fun z=>?_⟩;obtain ⟨_,_,q,e,h,_⟩:=dF pu z;cases e;exact zl h
theorem jS:bo ["_law_weights","_law_rows","_law_n","_law_total","_law_k"] ["_law_weights","_law_rows","_law_n"] (az gh):=by walk_at "d"
theorem tH (T:Txt K mg Z):cS P w K mg base gZ 4 Z.me Z.lM ["_law_weights","_law_rows","_law_n"] (IM K):=by
 refine T.mB.ok jS (fun vs H Q E h=>?_) (fun cdv A outer s H vs Q E hr h=>?_)
 ·obtain ⟨_,_,_,rfl,p,q,n,M,D,W,B,H0,rows,ws,e,G,Rw,hl,r100,n100,hw,M0,D0,tM,tD,W1,B1,b1,b2,k⟩:=h;rfl
 ·obtain ⟨_,_,_,rfl,p,q,n,M,D,W,B,H0,rows,ws,e,G,Rw,hl,r100,n100,hw,M0,D0,tM,tD,W1,B1,b1,b2,k⟩:=h;cases e
  refine ⟨_,(au (bh (i:=3) jS.nd rfl (Or.inl rfl) (bT Jv (dX (ae (df (ae ar (ae ar ai))) ai)) (pv 2)))
   (au (eT PassesOwn.never rfl (cK rfl T.range (ae (bX bL (by rfl) T.len bH (ae (pv 1) ai)) ai)) (aR (i:=4) jS.nd)
    (aB (bh (i:=3) jS.nd rfl (Or.inl rfl) (dg (wC T) hr T.rj T.pS.kp T.t8 (ae (pv 3) (ae (dg (z7 T) hr T.vR T.uW.kp T.yd (ae (bJ bZ (pv 0) (pv 4)) (ae (bJ bZ (pv 1) (pv 4)) ai))) ai))))))
   (aB (aV (pv 3))))),?_⟩
  refine aU (σ:=[some (.ref q),some (.ref p),some (.int n),none,none]) rfl ?_;have WB:W<=W*B:=cJ _ B1;have BW:B<=W*B:=cM _ W1;have MD:M<=M*D:=cJ _ D0;have DM:D<=M*D:=cM _ M0;have p39:(2:Nat)^3990<=2^3995:=aj (by decide) (by decide);have szr:∀xs∈rows,∀x∈xs,uf x:=fun xs hx x hx'=>vG (tM xs hx x hx') M0 (by lia) (by lia)
  have szw:∀x∈ws,uf x:=fun x hx=>vG (tD x hx) D0 (by lia) (by lia)
  have szp:∀w∈ws,∀xs∈rows,∀x∈xs,uf (w*x):=fun w hw xs hx x hx'=>by
   rw[dC];exact vG ((tM xs hx x hx').mul (tD w hw)) (bY M0 D0) (by lia) (by lia)
  have szt:∀j,j<=ws.length->∀x∈Fj rows ws n j,uf x:=fun j hj x hx=>by
   obtain ⟨c,_,rfl⟩:=aD.mp hx
   have t:=Tp.sum (k:=j) (M:=M*D) (W:=W*B) (f:=fun i=>ws.getD i 0*cv rows i c) fun i _=>by
    rw[dC];exact (Mj tM i c).mul (jN tD i)
   have:j*(W*B)<=128*(W*B):=aA _ (by lia);exact vG t (bY M0 D0) (by lia) (by lia)
  walk_at "w";refine b9 fun t0 Hc sc gc=>?_
  walk_at "w";refine dz fun l0 Hd sd nd gd=>?_
  walk_at "w";refine Jh gd (by lia) fun tot He se ne ge=>?_
  have sce:=sd.trans se;have s0e:=sc.trans sce
  have Rt:cR K He tot (Fj rows ws n 0):=by
   rw[KJ];exact ⟨_,ge,vN (cB.mk (q:=0) (sce _ _ gc) rfl) n⟩
  have nt:H tot=none:=sc.none (sd.none ne);obtain ⟨rs,grs,qrs,_⟩:=id G;obtain ⟨us,gus,qus⟩:=id Rw;have lrs:=qrs.length;have lus:=qus.length;walk_at "w";refine ⟨_,_,rfl,.inl (bV.of (s0e _ _ grs)),?_⟩;rw[<- lrs];walk_at "w";refine ⟨by lia,by lia,?_⟩;refine fM (n:=rows.length) (fun j σ' H'=>aL H H'/\∃tot y3,σ'=[some (.ref q),some (.ref p),some (.int n),some (.ref tot),y3]/\H tot=none/\cR K H' tot (Fj rows ws n j)) ⟨s0e,tot,_,rfl,nt,Rt⟩ ?_ ?_
  ·rintro j σ' Hf hj' ⟨sf,tot',y3',rfl,nt',Rt'⟩;obtain ⟨xs2,v2,e2,ev2,m2,q2,rfl,_,R2⟩:=h9 qrs hj';have w2:=hw xs2 m2;obtain ⟨wj,v1,ej,ev1,mj,nj⟩:=h9 qus (i:=j) (by lia);walk_at "w";refine cN (bV.of (sf _ _ gus)) (gN ev1) ?_;walk_at "w";refine cN (bV.of (sf _ _ grs)) (gN ev2) ?_;walk_at "w";refine ⟨_,q2,wj,xs2,rfl,nj.same sf,szw wj mj,R2.same sf,by lia,szr xs2 m2,fun r3 Hh n3 sh R3=>?_⟩;walk_at "w";refine ⟨tot',r3,_,_,rfl,Rt'.same sh,R3,by rw[ao,qU,w2],by rw[qU];lia,szt j (by lia),fun y hy=>?_,fun r4 Hi n4 si R4=>?_⟩
   ·obtain ⟨y',hy',rfl⟩:=aD.mp hy;exact szp wj mj xs2 m2 y' hy'
   walk_at "w";refine ⟨(sf.trans sh).trans si,r4,_,rfl,(sf.trans sh).none n4,?_⟩;rw[<- KL e2 ej w2];exact R4
  ·rintro σ' Hf ⟨sf,tot',y3',rfl,nt',Rt'⟩;rw[show rows.length=ws.length by lia] at Rt';walk_at "w";exact k tot' Hf nt' sf Rt'
theorem gJ:bo ["_law_bag_here","_law_rows","_law_n","_law_wide","_law_way","_law_row_here","_law_at"] ["_law_bag_here","_law_rows","_law_n","_law_wide"] (az eO):=by walk_at "d"
theorem oT (T:Txt K mg Z):cS P w K mg base gZ 5 Z.iO Z.iI ["_law_bag_here","_law_rows","_law_n","_law_wide"] (K3 K):=by
 refine T.iQ.ok gJ (fun vs H Q E h=>?_) (fun cdv A outer s H vs Q E hr h=>?_)
 ·obtain ⟨b,p,n,w,M,d,j,H0,rows,rfl,hB,nb,pb,G,r100,n8,hw,w1,ww,M0,M1,dj,fr,k⟩:=h;rfl
 ·obtain ⟨b,p,n,w,M,d,j,H0,rows,rfl,hB,nb,pb,G,r100,n8,hw,w1,ww,M0,M1,dj,fr,k⟩:=h
  refine ⟨_,(au (bh (i:=4) gJ.nd rfl (Or.inl rfl) (dg (bE T) hr T.bf T.bx.kp T.bD (ae (pv 0) (ae ar ai))))
   (au (cT (bc eB (pv 4) ar (bB _)) (aB (aV (bT Jv (dX (ae (df (ae ar (ae ar ai))) ai)) (pv 2)))) bS)
   (au (cT (bc eB (pv 4) ar (bB _)) (aB (aV (dg (tI T) hr T.mM T.kY.kp T.oG (ae (pv 0) (ae (pv 2) (ae (pv 3) ai)))))) bS)
   (au (bh (i:=5) gJ.nd rfl (Or.inl rfl) (dg (tH T) hr T.oC T.mB.kp T.qg (ae (cQ ["_law_one"] ["_law_bag_here","_law_wide"] [0,3] (cZ (pv 1)) (fun _=>(aR (i:=0) (show List.Nodup (α:=PySem.Str) ["_law_one","_law_bag_here","_law_wide"] by decide +kernel))) (fun _=>cP) (fun _=>(dg (tJ T) hr T.oE T.mC.kp T.qh (ae (pv 1) (ae (bX (qK rfl) (by rfl) T.min PyProof.Rows.boot_min (ae (pv 2) (ae ar ai))) ai))))) (ae (pv 1) (ae (pv 2) ai)))))
   (au (cT (PW.pt (jV (bc eB (pv 4) ar (bB _)) (lB (bc tE (pv 2) ar (bB _))))) (au (bh (i:=6) gJ.nd rfl (Or.inl rfl) (dg (bE T) hr T.bf T.bx.kp T.bD (ae (pv 0) (ae (pv 2) ai))))
   (aB (eV (dg (mJ T) hr T.jG T.jr.kp T.kT (ae (bJ bZ (pv 5) (pv 6)) (ae (df (ae ar (ae (bT fL ar (dg (bE T) hr T.bf T.bx.kp T.bD (ae (pv 0) (ae ar ai)))) ai))) ai))) (h8 (pv 5) (pv 6) set_list)))) bS)
   (aB (aV (pv 5)))))))),?_⟩
  refine aU (σ:=[some (.ref b),some (.ref p),some (.int n),some (.int w),none,none,none]) rfl ?_;walk_at "w";refine ⟨b,5,rfl,hB,by decide,by decide,fun v H1 v0 v1 B1 u1=>?_⟩;walk_at "w";refine gG (fun h=>?_) (fun h=>?_)
  ·walk_at "w";refine b9 fun t0 Hc sc gc=>?_
   walk_at "w";refine dz fun l0 Hd sd nd gd=>?_
   walk_at "w";refine Jh gd (by lia) fun tot He se ne ge=>?_
   have sce:=sd.trans se;exact k tot _ He (u1.none B1 (sc.none (sd.none ne))) ⟨_,ge,vN (cB.mk (q:=0) (sce _ _ gc) rfl) n⟩ (by rw[aF]) Kt (B1.same (sc.trans sce)) (u1.same (sc.trans sce))
  walk_at "w";refine gG (fun h2=>?_) (fun h2=>?_)
  ·walk_at "w";refine ⟨b,n,w,rfl,B1,by lia,w1,by lia,fun q xs H2 nq R2 l2 d2 B2 u2=>?_⟩;exact k q xs H2 (u1.none B1 nq) R2 l2 (Ku d2 (by rw[l2];exact ww)) B2 (u1.trans u2)
  have G1:=G.upto u1 hB pb nb;obtain ⟨rs,gr,qr,_⟩:=id G1;have lr:=qr.length;walk_at "w";refine ⟨⟨_,bV.of gr⟩,?_⟩;refine Ib (K:=K) (a:=p) (b:=b) (cB K) (Dr 9) gr pb B1 (by lia) (fun h u B=>h.upto u B) ?_ ?_
  ·rintro x H2 NY NN hx u2 B2 k2;walk_at "w";rw[show (if 9 < (w:Int) then (9:Int) else (w:Int))=((min w 9:Nat):Int) by split <;> lia];refine ⟨b,min w 9,rfl,B2,by lia,by lia,fun r y H4 dy ny B4 u4=>?_⟩;exact k2 _ y H4 u4 B4 ⟨ah dy.1 (by lia),ah dy.2 (by lia)⟩ ny
  rintro ys cs H2 wq nw u2 B2 gw lc hc pr;have G2:=G1.upto u2 B1 pb nb;have up:∀{p r:Nat},p<=r->2^p<=2^r:=fun z=>aj (by decide) z
  walk_at "w";refine ⟨_,_,_,rfl,p,wq,n,M,2520,2^(j+d),9*2520,H0,rows,cs,rfl,G2,⟨ys,gw,pr⟩,by lia,r100,by lia,hw,M0,by decide,fun xs hx x hx'=>Tp.of (fr xs hx x hx') (by rw[aO];exact aP _ M1),fun x hx=>Tp.of (CD (hc x hx) (Gs _)) (av _),cE,by decide,?_,?_,fun g H3 ng s3 Rg=>?_⟩
  ·refine ah (aE M1 (show 2520<=2^12 by decide)) ?_;rw[<- aO];exact up (by lia)
  ·rw[Nat.mul_left_comm];refine ah (aP _ (show 128*(9*2520)<=2^22 by decide)) ?_;rw[<- aO];exact up (by lia)
  have S3:MN d j (C6 rows cs n):=K7 M0 M1 fr hc (by lia);have lst:(C6 rows cs n).length=n:=qU;generalize C6 rows cs n=sm at S3 Rg lst;have B3:=B2.same s3;have u03:cV b H H3:=(u1.trans u2).same s3;have ng2:=u2.none B2 ng;have ng0:H g=none:=u1.none B1 ng2;have gb:g≠b:=fun z=>B2.at (by rw[<- z];exact ng)
  have fin0:Q (.ref g) H3:=k g _ H3 ng0 Rg lst S3.asd B3 u03;walk_at "w";refine gG (fun h3=>?_) (fun h3=>?_)
  ·walk_at "w";refine gG (fun h1=>?_) (fun h1=>?_)
   ·have np0:0 < n:=by have:=of_decide_eq_true h1;lia
    walk_at "w";refine ⟨b,n,rfl,B3,by lia,by lia,fun at' H5 a0 a1 B5 u5=>?_⟩;obtain ⟨at',rfl⟩:=b8 a0;obtain ⟨ys5,gy5,qy5⟩:=Rg.upto u5 B3 gb;have ly5:=qy5.length;rw[lst] at ly5;obtain ⟨vx,ex,nx⟩:=JR qy5 (j:=at') (by rw[lst];lia);walk_at "w";refine cN (bV.of gy5) ex ?_;walk_at "w";refine ⟨b,3,rfl,B5,by decide,by decide,fun v6 H6 v60 v61 B6 u6=>?_⟩;obtain ⟨v6,rfl⟩:=b8 v60;walk_at "w";refine b9 fun t7 H7 s7 g7=>?_
    rw[show ((1:Int)+(v6:Int))=((v6+1:Nat):Int) by lia] at g7;have u37:cV b H3 H7:=(u5.trans u6).same s7;obtain ⟨ys7,gy7,qy7⟩:=Rg.upto u37 B3 gb;have ly7:=qy7.length;rw[lst] at ly7;have szst:=S3.szn dj;have mx:sm.getD at' 0∈sm:=getD_in (by rw[lst];lia);have szu:uf (Mi v6):=Cv (by decide) (show 6<=2^3 by decide) (show 1<=2^0 by decide) (by decide) (Mh (by lia));walk_at "w";refine ⟨_,_,sm.getD at' 0,Mi v6,rfl,(nx.upto (u6.same s7) B5),cB.mk (q:=Mi v6) g7 rfl,szst _ mx,szu,fun r8 H8 s8 N8=>?_⟩;have gy8:=s8 _ _ gy7;have B8:=(B6.same s7).same s8;have u38:=u37.same s8;obtain ⟨q0,I0,xq0,gq0⟩:=hB.inner;have gq:g≠q0:=fun z=>by rw[<- z,ng0] at gq0;cases gq0
    have u08:cV b H H8:=u03.trans u38;have I8:=u08.2 _ I0;walk_at "w";refine fb gy8 (fv (by lia)) rfl ?_;walk_at "w";exact k g _ _ ng0 ⟨_,aK,vL (N8.updL gy8) at' (Paired.imp' (fun _ _ z=>(z.same s8).updL gy8) qy7)⟩ (by rw[eF];exact lst) (S3.set (by lia)) (B8.upd I8 gb gq) (u08.after ng0)
   ·walk_at "w";exact fin0
  ·walk_at "w";exact fin0
theorem BY:bo ["row","bottom"] ["row","bottom"] (az ju):=by walk_at "d"
theorem wB (T:Txt K mg Z):cS P w K mg base gZ 1 Z.pH Z.o5 ["row","bottom"] (IK K):=by
 refine T.mR.ok BY (fun vs H Q E h=>?_) (fun cdv A outer s H vs Q E hr h=>?_)
 ·obtain ⟨p,ns,M,B,rfl,hp,hl,hz,hB,sB,q⟩:=h;rfl
 ·obtain ⟨p,ns,M,B,rfl,hp,hl,hz,hB,sB,q⟩:=h;refine ⟨_,(aB (aV (cQ ["value"] ["bottom"] [1] (cZ (pv 0)) (fun _=>(aR (i:=0) (show List.Nodup (α:=PySem.Str) ["value","bottom"] by decide +kernel))) (fun _=>cP) (fun _=>(bT dM (bJ (Cs K (by rfl)) (pv 0) ar) (bT jX (pv 1) (bJ (Cs K (by rfl)) (pv 0) ar))))))),?_⟩;refine aU (σ:=[some (.ref p),some (.int B)]) rfl ?_;obtain ⟨xs,gx,qx⟩:=id hp;have lx:=qx.length;walk_at "w";refine ⟨⟨_,bV.of gx⟩,?_⟩;refine fE (K:=K) (xs:=xs) (fun i ys H'=>H'=H/\ys=(fo (ns.take i) B).map V.int) (bp (bK (by lia))) ⟨rfl,rfl⟩ (fun i ys H' _ ⟨e,_⟩=>by subst e;exact bV.of gx) ?_ ?_
  ·rintro i x ys H' hx hlen ⟨rfl,rfl⟩;obtain ⟨n,en,r,rfl,hr1⟩:=cH qx hx;have nz:=hz.2.2 n (ay en);have sn:Sz 4400 n.2:=Cy hz.1 nz.2.1 hz.2.1;walk_at "w";refine h7 (show sL _ _ from ⟨by lia,sn.mono (by decide)⟩) ?_;rw[cG _ (by lia)]
   have sq:Sz 4400 (B / n.2):=sB.le (by
    rw[Oy (by lia)];exact Nat.div_le_self ..)
   walk_at "w";refine h7 (show kv _ _ from .inr ⟨_,_,nz.2.2,sq,by decide⟩) ?_;exact ⟨rfl,by rw[take_snoc en];simp [fo]⟩
  ·rintro ys H' hy ⟨rfl,rfl⟩ l hl';exact q l _ hl' (aL.new hl') (by rw[aK,aI (by lia)])
theorem fI:bo ["wholes","multiple","whole"] ["wholes"] (az d4):=by walk_at "d"
theorem vO (T:Txt K mg Z):cS P w K mg base gZ 2 Z.gO Z.gL ["wholes"] (M9 K):=by
 refine T.ku.ok fI (fun vs H Q E h=>?_) (fun cdv A outer s H vs Q E hr h=>?_)
 ·obtain ⟨p,bs,M,rfl,hp,hM,sM,hb,q⟩:=h;rfl
 ·obtain ⟨p,bs,M,rfl,hp,hM,sM,hb,q⟩:=h
  refine ⟨_,(au (bh (i:=1) fI.nd rfl (Or.inl rfl) ar)
   (au (eT PassesOwn.never rfl (cZ (pv 0)) (aR (i:=2) fI.nd)
    (aB (bh (i:=1) fI.nd rfl (Or.inl rfl) (bT dM (pv 1) (bT jX (pv 2) (dg (jZ T) hr T.gK T.fF.kp T.iK (ae (pv 1) (ae (pv 2) ai))))))))
   (aB (aV (pv 1))))),?_⟩
  refine aU (σ:=[some (.ref p),none,none]) rfl ?_;walk_at "w";refine ⟨⟨_,hp⟩,?_⟩;refine i8 (K:=K) (a:=p) (xs:=bs.map V.int) (fun i σ' H'=>H'=H/\∃x,σ'=[some (.ref p),some (.int (xV (bs.take i) 1)),x]) ⟨rfl,none,rfl⟩ (fun i σ' H' _ ⟨e,_⟩=>by subst e;exact hp) ?_ ?_
  ·rintro i x σ' H' hx ⟨rfl,y,rfl⟩;rw[aN] at hx
   obtain ⟨b,eb,rfl⟩:∃b,bs[i]?=some b/\x=.int b:=by
    cases e:bs[i]? with
    | none=>rw[e] at hx;cases hx
    | some b=>rw[e] at hx;cases hx;exact ⟨b,rfl,rfl⟩
   have b1:=hb b (ay eb);have sb:Sz 4400 b:=Cy hM b1.2 sM;have ht:∀c∈bs.take i,0 < c/\c∣M:=fun c hc=>hb c (cC hc)
   have msz:Sz 4400 (xV (bs.take i) 1):=Cy hM (yX (by decide) (Int.one_dvd _) ht) sM;generalize hm:xV (bs.take i) 1=m at msz ⊢;have gp:0 < g m b:=Ap (by lia);walk_at "w";refine ⟨m,b,rfl,?_⟩;walk_at "w";refine h7 (show sL _ _ from ⟨by lia,(Qk b1.1 sb).mono (by decide)⟩) ?_;rw[cG _ (by lia)];walk_at "w";refine h7 (show kv _ _ from .inr ⟨_,_,msz,sb.hi (t:=m) (by lia),by decide⟩) ?_;walk_at "w";exact ⟨rfl,_,by rw[take_snoc eb,Bh,hm];rfl⟩
  ·rintro σ' H' ⟨rfl,y,rfl⟩;walk_at "w";rw[aI (by simp)];exact q
theorem xH:bo ["row"] ["row"] (az eX):=by walk_at "d"
theorem qG (T:Txt K mg Z):cS P w K mg base gZ 3 Z.jg Z.jd ["row"] (Na K):=by
 refine T.fR.ok xH (fun vs H Q E h=>?_) (fun cdv A outer s H vs Q E hr h=>?_)
 ·obtain ⟨p,ns,M,rfl,hp,hl,hz,q⟩:=h;rfl
 ·obtain ⟨p,ns,M,rfl,hp,hl,hz,q⟩:=h;refine ⟨_,(aB (aV (dg (vO T) hr T.oB T.ku.kp T.pF (ae (cQ ["value"] [] [] (cZ (pv 0)) (fun _=>(aR (i:=0) (show List.Nodup (α:=PySem.Str) ["value"] by decide +kernel))) (fun _=>cP) (fun _=>(bJ (Cs K (by rfl)) (pv 0) ar))) ai)))),?_⟩;refine aU (σ:=[some (.ref p)]) rfl ?_;obtain ⟨xs,gx,qx⟩:=id hp;have lx:=qx.length;walk_at "w";refine ⟨⟨_,bV.of gx⟩,?_⟩;refine fE (K:=K) (xs:=xs) (fun i ys H'=>H'=H/\ys=((ns.take i).map (·.2)).map V.int) (bp (bK (by lia))) ⟨rfl,rfl⟩ (fun i ys H' _ ⟨e,_⟩=>by subst e;exact bV.of gx) ?_ ?_
  ·rintro i x ys H' hx hlen ⟨rfl,rfl⟩;obtain ⟨n,en,r,rfl,hr1⟩:=cH qx hx;walk_at "w";exact ⟨rfl,by rw[take_snoc en];simp⟩
  ·rintro ys H' hy ⟨rfl,rfl⟩ l hl';walk_at "w";refine ⟨l,ns.map (·.2),M,rfl,bV.of (by rw[aK,aI (by lia)]),hz.1,hz.2.1,fun b hb=>?_,?_⟩
   ·obtain ⟨n,hn,rfl⟩:=aD.mp hb;exact ⟨(hz.2.2 n hn).1,(hz.2.2 n hn).2.1⟩
   ·exact q _ (aL.new hl')
theorem u0:bo ["lines","begin","place","at"] ["lines","begin","place"] (az il):=by walk_at "d"
theorem AO (T:Txt K mg Z):cS P w K mg base gZ 1 Z.nF Z.m7 ["lines","begin","place"] GW:=by
 refine T.rZ.ok u0 (fun vs H Q E h=>?_) (fun cdv A outer s H vs Q E hr h=>?_)
 ·obtain ⟨l,p,ls,b,c,rfl,G,l1000,b1000,hc,k1,k2⟩:=h;rfl
 ·obtain ⟨l,p,ls,b,c,rfl,G,l1000,b1000,hc,k1,k2⟩:=h
  refine ⟨_,(au (eT PassesOwn.never rfl (HC rfl T.range (ae (pv 1) (ae (bX bL (by rfl) T.len bH (ae (pv 0) ai)) ai))) (aR (i:=3) u0.nd)
    (aB (cT (bc wA (bJ bZ (bJ bZ (pv 0) (pv 3)) (pv 2)) ar (bB _)) (aB (aV (pv 3))) bS)))
   (aB (aV kM))),?_⟩
  refine aU (σ:=[some (.ref p),some (.int b),some (.int c),none]) rfl ?_;obtain ⟨_,xs,gx,qx⟩:=id G;have lx:=qx.length;walk_at "w";refine ⟨_,_,rfl,.inl (bV.of gx),?_⟩;rw[<- lx];walk_at "w";refine ⟨⟨by lia,by lia,by lia,by lia⟩,?_⟩;refine Bl (lo:=(b:Int)) (n:=((ls.length:Int) - (b:Int)).toNat) (fun i σ' H'=>H'=H/\(∃y,σ'=[some (.ref p),some (.int b),some (.int c),y])/\∀s,b<=s->s < b+i->d6 ls s c=0) ⟨rfl,⟨_,rfl⟩,fun s h1 h2=>absurd h2 (by lia)⟩ ?_ ?_
  ·rintro i σ' H' hi ⟨rfl,⟨y,rfl⟩,hz⟩;rw[show ((b:Int)+(i:Int))=((b+i:Nat):Int) by lia];obtain ⟨zs,v,ez,ev,mz,q,rfl,_,gq⟩:=h9 qx (i:=b+i) (by lia);walk_at "w";refine cN (bV.of gx) (gN ev) ?_;walk_at "w";refine cN (bV.of gq) (zo (hc zs mz)) ?_;walk_at "w";have ef:=Iw (c:=c) ez;by_cases e:zs.getD c 0=0
   ·rw[decide_eq_true e];walk_at "w";refine ⟨rfl,⟨_,rfl⟩,fun s h1 h2=>?_⟩;by_cases e2:s=b+i
    ·rw[e2,ef,e];rfl
    ·exact hz s h1 (by lia)
   ·rw[decide_eq_false e];walk_at "w";exact k1 (b+i) (by lia) (by lia) (by rw[ef];exact P7.mpr e)
  ·rintro σ' H' ⟨rfl,⟨y,rfl⟩,hz⟩;walk_at "w";exact k2 fun t h1 h2=>hz t h1 (by lia)
theorem qX:bo ["lines","at","place","before","used","by","swept"] ["lines","at","place","before"] (az oh):=by walk_at "d"
theorem EN (T:Txt K mg Z):cS P w K mg base gZ 1 Z.uS Z.uJ ["lines","at","place","before"] GX:=by
 refine T.yl.ok qX (fun vs H Q E h=>?_) (fun cdv A outer s H vs Q E hr h=>?_)
 ·obtain ⟨l,p,ls,kk,c,n,b,rfl,hl,G,l1000,hk,hw,n1000,hc,b0,sb,hs,k⟩:=h;rfl
 ·obtain ⟨l,p,ls,kk,c,n,b,rfl,hl,G,l1000,hk,hw,n1000,hc,b0,sb,hs,k⟩:=h
  refine ⟨_,(au (bh (i:=4) qX.nd rfl (Or.inr rfl) (bJ bZ (pv 0) (pv 1)))
   (au (bh (i:=5) qX.nd rfl (Or.inr rfl) (bJ bZ (pv 4) (pv 2)))
   (au (oS 6 ["line"] ["used","by","place","before"] [4,5,2,3] qX.nd rfl rfl (cZ (pv 0)) (fun _=>(aR (i:=0) (show List.Nodup (α:=PySem.Str) ["line","used","by","place","before"] by decide +kernel) rfl (Or.inr rfl) (Or.inl rfl))) (fun _=>cP) (fun _=>(cQ ["mine","yours"] ["by","line","place","before"] [2,0,3,4] (Js K rfl T.zip (ae (pv 0) (ae (pv 1) ai))) (fun _=>(uC K 2 (cA (aR (i:=0) (show List.Nodup (α:=PySem.Str) ["mine","yours","by","line","place","before"] by decide +kernel)) (cA (aR (i:=1) (show List.Nodup (α:=PySem.Str) ["mine","yours","by","line","place","before"] by decide +kernel)) iD)))) (fun _=>cP) (fun _=>(bT jX (bT pX (bT dM (pv 2) (pv 0)) (bT dM (bJ (mN K (by rfl)) (pv 3) (pv 4)) (pv 1))) (pv 5))))))
   (au (eV (pv 4) (h8 (pv 6) (pv 1) set_list))
   (aB (aV (pv 6))))))),?_⟩
  refine aU (σ:=[some (.ref p),some (.int kk),some (.int c),some (.int b),none,none,none]) rfl ?_;obtain ⟨pl,xs,gx,qx⟩:=id G;have lx:=qx.length;obtain ⟨zk,vk,ek,evk,mk,qk,rfl,qkl,gk⟩:=h9 qx hk;have wk:=hw zk mk;have ek':ls.getD kk []=zk:=by rw[aa,ek];rfl
  walk_at "w";refine cN (bV.of gx) (gN evk) ?_;walk_at "w";refine cN (bV.of gk) (zo (by lia)) ?_;walk_at "w";refine ⟨⟨_,bV.of gx⟩,?_⟩;refine fE (K:=K) (xs:=xs) (fun i ys H'=>aL H H'/\Paired (Gj l H') ((ls.take i).map fun zs=>List.zipWith (fun x y=>(zk.getD c 0*x - zs.getD c 0*y).fdiv b) zs zk) ys) (bp (bK (by lia))) ⟨aL.refl _,.nil⟩ (fun i ys H' _ ⟨s,_⟩=>bV.of (s _ _ gx)) ?_ ?_
  ·rintro i v ys0 H' hx hlen ⟨s',pr⟩;obtain ⟨zs,ec,q,rfl,ql,gq⟩:=cH qx hx;have mz:=ay ec;have wz:=hw zs mz;have gq':=s' _ _ gq;have gk':=s' _ _ gk;walk_at "w";refine ⟨⟨_,bV.of gq'⟩,⟨_,bV.of gk'⟩,?_⟩;refine tW (K:=K) (xs:=zs.map V.int) (ws:=zk.map V.int) (fun j ys H2=>aL H' H2/\ys=((List.zipWith (fun x y=>(zk.getD c 0*x - zs.getD c 0*y).fdiv b) zs zk).take j).map V.int) (bp (bK (by rw[ao];lia))) (by rw[ao,ao];lia) ⟨aL.refl _,rfl⟩ (fun j ys H2 _ ⟨s2,_⟩=>⟨bV.of (s2 _ _ gq'),bV.of (s2 _ _ gk')⟩) ?_ ?_
   ·rintro j v1 v2 ys H2 r h1 h2 hy ⟨s2,rfl⟩ hr
    obtain ⟨x,ex,rfl⟩:∃x,zs[j]?=some x/\V.int x=v1:=by
     rw[aN] at h1;cases e:zs[j]? with
     | none=>rw[e] at h1;cases h1
     | some x=>rw[e] at h1;exact ⟨x,rfl,cg h1⟩
    obtain ⟨y,ey,rfl⟩:∃y,zk[j]?=some y/\V.int y=v2:=by
     rw[aN] at h2;cases e:zk[j]? with
     | none=>rw[e] at h2;cases h2
     | some x=>rw[e] at h2;exact ⟨x,rfl,cg h2⟩
    have sr:aL H2 (upd H2 r (.tup [.int x,.int y])):=aL.new hr;have gr:(upd H2 r (.tup [.int x,.int y])) r=some (.tup [.int x,.int y]):=aK;generalize upd H2 r (.tup [.int x,.int y])=H3 at sr gr ⊢;have gq3:=sr _ _ (s2 _ _ gq');have sx:=hs zs mz x (ay ex);have sy:=hs zk mk y (ay ey);have s1:=hs zk mk _ (getD_in (e:=0) (show c < zk.length by lia));have s3:=hs zs mz _ (getD_in (e:=0) (show c < zs.length by lia));walk_at "w";refine h7 (show kv _ _ from .inr ⟨_,_,s1,sx,by decide⟩) ?_;walk_at "w";refine cN (bV.of gq3) (zo (by lia)) ?_;walk_at "w";refine h7 (show kv _ _ from .inr ⟨_,_,s3,sy,by decide⟩) ?_;walk_at "w";refine h7 (show sL _ _ from ⟨b0,sb⟩) ?_;have ez:(List.zipWith (fun x y=>(zk.getD c 0*x - zs.getD c 0*y).fdiv b) zs zk)[j]?=some ((zk.getD c 0*x - zs.getD c 0*y).fdiv b):=by rw[cU,ex,ey]
    exact ⟨s2.trans sr,by rw[take_snoc ez];simp⟩
   ·rintro ys H2 hy ⟨s2,rfl⟩ r hr;have sn:aL H2 (upd H2 r (.lst (((List.zipWith (fun x y=>(zk.getD c 0*x - zs.getD c 0*y).fdiv b) zs zk).take (zs.map V.int).length).map V.int))):=aL.new hr;refine ⟨(s'.trans s2).trans sn,?_⟩;rw[take_snoc ec,fh];refine b6 (Paired.imp' (fun _ _ z=>(Gj.same z s2).same sn) pr) (.cons ⟨r,rfl,ne_old (fun z=>hl (s'.none (s2.none z))) hr,?_⟩ .nil);rw[aK,aI (by rw[ck,ao];lia)]
  ·rintro ys H1 hy ⟨s1,pr⟩ r hr;have sn:aL H1 (upd H1 r (.lst ys)):=aL.new hr;have gn:(upd H1 r (.lst ys)) r=some (.lst ys):=aK;have ly:=pr.length;rw[ao,dn] at ly;generalize upd H1 r (.lst ys)=H2 at sn gn ⊢;walk_at "w";refine fb gn (fv (by lia)) rfl ?_;have s2:aL H1 (upd H2 r (.lst (ys.set kk (.ref qk)))):=sn.after hr;walk_at "w";refine k r _ (s1.none hr) (s1.trans s2) ⟨ne_old (fun z=>hl (s1.none z)) hr,_,aK,?_⟩;unfold DO;rw[ek'];rw[aI (by lia)] at pr;exact ow (Paired.imp' (fun _ _ z=>Gj.same z s2) pr) kk ⟨qk,rfl,qkl,(s1.trans s2) _ _ gk⟩
theorem u9:bo ["lines","at","to","swapped"] ["lines","at","to"] (az ip):=by walk_at "d"
theorem AQ (T:Txt K mg Z):cS P w K mg base gZ 1 Z.nG Z.m8 ["lines","at","to"] Dg:=by
 refine T.so.ok u9 (fun vs H Q E h=>?_) (fun cdv A outer s H vs Q E hr h=>?_)
 ·obtain ⟨l,p,ls,t,kk,rfl,hl,G,l1000,ht,hk,k⟩:=h;rfl
 ·obtain ⟨l,p,ls,t,kk,rfl,hl,G,l1000,ht,hk,k⟩:=h
  refine ⟨_,(au (bh (i:=3) u9.nd rfl (Or.inl rfl) (e8 ke (by rfl) T.list PyProof.Rows.boot_list (ae (pv 0) ai)))
   (au (eV (bJ bZ (pv 0) (pv 1)) (h8 (pv 3) (pv 2) set_list))
   (au (eV (bJ bZ (pv 0) (pv 2)) (h8 (pv 3) (pv 1) set_list))
   (aB (aV (pv 3)))))),?_⟩
  refine aU (σ:=[some (.ref p),some (.int t),some (.int kk),none]) rfl ?_;obtain ⟨pl,xs,gx,qx⟩:=id G;have lx:=qx.length;obtain ⟨zt,vt,et,evt,_,Ft⟩:=h9 qx ht;obtain ⟨zk,vk,ek,evk,_,Fk⟩:=h9 qx hk;walk_at "w";refine ⟨p,xs,rfl,.inl (bV.of gx),fun c hc=>?_⟩;have sc:aL H (upd H c (.lst xs)):=aL.new hc;have gc:(upd H c (.lst xs)) c=some (.lst xs):=aK;generalize upd H c (.lst xs)=Hc at sc gc ⊢;walk_at "w";refine cN (bV.of (sc _ _ gx)) (gN evt) ?_;walk_at "w";refine fb gc (fv (by lia)) rfl ?_;have s1:aL H (upd Hc c (.lst (xs.set kk vt))):=sc.after hc;have g1:(upd Hc c (.lst (xs.set kk vt))) c=some (.lst (xs.set kk vt)):=aK;generalize upd Hc c (.lst (xs.set kk vt))=H1 at s1 g1 ⊢;walk_at "w";refine cN (bV.of (s1 _ _ gx)) (gN evk) ?_;walk_at "w";refine fb g1 (fv (by rw[eF];lia)) rfl ?_;have s2:aL H (upd H1 c (.lst ((xs.set kk vt).set t vk))):=s1.after hc;walk_at "w";refine k c _ hc s2 ⟨ne_old hl hc,_,aK,?_⟩;have et':ls.getD t []=zt:=by rw[aa,et];rfl
  have ek':ls.getD kk []=zk:=by rw[aa,ek];rfl
  unfold qV;rw[et',ek'];exact ow (ow (Paired.imp' (fun _ _ z=>Gj.same z s2) qx) kk (Gj.same Ft s2)) t (Gj.same Fk s2)
theorem jP:bo ["rows","wide","lines","leads","before","place","many","at"] ["rows","wide"] (az uy):=by walk_at "d"
theorem Dx (T:Txt K mg Z):cS P w K mg base gZ 4 Z.zb Z.yZ ["rows","wide"] (GG K):=by
 refine T.zg.ok jP (fun vs H Q E h=>?_) (fun cdv A outer s H vs Q E hr h=>?_)
 ·obtain ⟨p,n,w,H0,rows,rfl,G,r100,n100,hw,F,k⟩:=h;rfl
 ·obtain ⟨p,n,w,H0,rows,rfl,G,r100,n100,hw,F,k⟩:=h
  refine ⟨_,(au (oS 2 ["row"] [] [] jP.nd rfl rfl (cZ (pv 0)) (fun _=>(aR (i:=0) (show List.Nodup (α:=PySem.Str) ["row"] by decide +kernel))) (fun _=>cP) (fun _=>(dg (wB T) hr T.m4 T.mR.kp T.pE (ae (pv 0) (ae (dg (qG T) hr T.iE T.fR.kp T.jf (ae (pv 0) ai)) ai)))))
   (au (bh (i:=3) jP.nd rfl (Or.inl rfl) (dX ai))
   (au (bh (i:=4) jP.nd rfl (Or.inl rfl) ar)
   (au (eT PassesOwn.never rfl (cK rfl T.range (ae (pv 1) ai)) (aR (i:=5) jP.nd)
    (au (bh (i:=6) jP.nd rfl (Or.inl rfl) (bX bL (by rfl) T.len bH (ae (pv 3) ai)))
   (au (bh (i:=7) jP.nd rfl (Or.inl rfl) (dg (AO T) hr T.vh T.rZ.kp T.w5 (ae (pv 2) (ae (pv 6) (ae (pv 5) ai)))))
   (aB (cT (bc Ce (pv 7) kM (bB _)) (au (bh (i:=2) jP.nd rfl (Or.inl rfl) (dg (EN T) hr T.Ae T.yl.kp T.BC (ae (dg (AQ T) hr T.vm T.so.kp T.xa (ae (pv 2) (ae (pv 7) (ae (pv 6) ai)))) (ae (pv 6) (ae (pv 5) (ae (pv 4) ai))))))
   (au (bh (i:=4) jP.nd rfl (Or.inl rfl) (bJ bZ (bJ bZ (pv 2) (pv 6)) (pv 5)))
   (aB (iC (va cI dI dH kO (pv 3) (ae (pv 5) ai)))))) bS)))))
   (aB (aV (df (ae (zS BV (pv 2) Fy (yV (bX bL (by rfl) T.len bH (ae (pv 3) ai)))) (ae (pv 3) ai))))))))),?_⟩
  refine aU (σ:=[some (.ref p),some (.int n),none,none,none,none,none,none]) rfl ?_;obtain ⟨xs,gx,qx,_⟩:=id G;obtain ⟨W,hW,W2,ent⟩:=F.ent;obtain ⟨_,_,_,_,_,_,_,_,r15,r89⟩:=id F;walk_at "w";refine ⟨⟨_,bV.of gx⟩,?_⟩;refine gD (K:=K) (as:=rows) (F:=dq K H0) (fun (H:Hp) (zs:List Int) (v:V)=>∃q,v=V.ref q/\H q=some (.lst (zs.map V.int))) hZ gx qx (by lia) (fun a b=>a.same b) (fun ⟨q,a,b⟩ s=>⟨q,a,s _ _ b⟩) ?_ ?_
  ·rintro i qs v H' NY NN ec s' ⟨u,rfl,_,R⟩ k1;have mx:=ay ec;obtain ⟨M,hM⟩:=F.rowM mx;obtain ⟨b1,sb⟩:=hM.bot;have lq:(qs.map nm).length<=1000:=by rw[ao,hw qs mx];lia
   walk_at "w";refine ⟨u,_,M,rfl,R.rowK,lq,hM,fun H2 s2=>?_⟩;walk_at "w";exact ⟨u,_,M,_,rfl,(R.same s2).rowK,lq,hM,b1,sb,fun r H3 n3 s3 g3=>k1 _ _ (s2.trans s3) ⟨r,rfl,g3⟩⟩
  rintro ys H1 lp0 hlp s1 g1 pr1 nx1;walk_at "w";refine dz fun qp H2 s2 nq gq=>?_
  have G2:uh qp H2 lp0 (rows.map hZ):=⟨(fun z=>by rw[z,nq] at g1;cases g1),ys,s2 _ _ g1,Paired.imp' (fun _ _ ⟨q,a,b⟩=>⟨q,a,(fun z=>by rw[z,nq] at b;cases b),s2 _ _ b⟩) pr1⟩;have hq0:H qp=none:=s1.none nq;have s02:=s1.trans s2;have hm:(rows.map hZ).length=rows.length:=ao ..;clear g1 pr1 nx1;walk_at "w";refine ⟨by lia,by lia,?_⟩;refine fM (n:=n) (fun P σ' H'=>aL H H'/\∃lp ls ps d y1 y2 y3,σ'=[some (.ref p),some (.int n),some (.ref lp),some (.ref qp),some (.int d),y1,y2,y3]/\H' qp=some (.lst (mL ps))/\uh qp H' lp ls/\BD (rows.map hZ) n P ls ps d) ⟨s02,lp0,rows.map hZ,[],1,_,_,_,rfl,gq,G2,BD.start fun zs hz=>by obtain ⟨x,hx,rfl⟩:=aD.mp hz;rw[vW];exact hw x hx⟩ ?_ ?_
  ·rintro P σ' H' hP ⟨s',lp,ls,ps,d,y1,y2,y3,rfl,gq',G',I⟩;have hl:=I.len;have kP:=I.el.kP;have km:=I.el.km;have lps:(mL ps).length=ps.length:=ao ..;have hqp:H' qp≠none:=by rw[gq'];exact fun z=>nomatch z
   obtain ⟨z1,z2⟩:=I.sz (r:=min rows.length n) hW ent (by lia) (by rw[hm];exact av _) r15;have big:(16*W)^min rows.length n < 2^8999:=bA (xQ W2) (dP (by decide) (by lia));walk_at "w";refine ⟨_,_,rfl,.inl (bV.of gq'),?_⟩;rw[lps];walk_at "w";refine ⟨qp,lp,ls,ps.length,P,rfl,G',by lia,by lia,fun zs hz=>by rw[I.wide zs hz];exact hP,fun t h1 h2 h3=>?_,fun hz=>?_⟩
   ·walk_at "w";refine ⟨rfl,_,rfl,?_⟩;rw[show decide (V.int (t:Int)=V.non)=false from decide_eq_false (fun z=>nomatch z)];walk_at "w";refine ⟨qp,lp,ls,t,ps.length,rfl,hqp,G',by lia,h2,by lia,fun l1 Ha na sa Ga=>?_⟩;walk_at "w";refine ⟨qp,l1,_,ps.length,P,n,d,rfl,fun z=>hqp (sa.none z),Ga,by rw[xC];lia,by rw[xC];lia,Fn I.wide (by lia) h2,by lia,hP,I.d0,bA z1 big,fun zs hz z hz'=>?_,fun l2 Hb nb sb Gb=>?_⟩
    ·unfold qV at hz;have key:∀ys,ys∈ls->∀z∈ys,Sz 8999 z:=fun ys hy z hz=>bA (z2 ys hy z hz) big
     rcases cx hz with h | h
     ·rcases cx h with h | h
      ·exact key zs h z hz'
      ·rw[h] at hz';exact key _ (getD_in h2) z hz'
     ·rw[h] at hz';exact key _ (getD_in (by lia)) z hz'
    have sab:=sa.trans sb;have I2:=I.step hW ent h1 h2 h3;have hk2:ps.length < (DO (qV ls ps.length t) ps.length P d).length:=by rw[Ko,xC];lia
    obtain ⟨n2,xs2,gx2,qx2⟩:=id Gb;obtain ⟨zk,vk,ek,evk,mk,qk,rfl,_,gk⟩:=h9 qx2 hk2;have wk:=I2.wide zk mk;walk_at "w";refine cN (bV.of gx2) (gN evk) ?_;walk_at "w";refine cN (bV.of gk) (zo (by lia)) ?_;have gqb:=sab _ _ gq';walk_at "w";refine ⟨.inl ⟨rfl,_,bV.of gqb⟩,?_⟩;walk_at "w";refine jE gqb (bK (by lia)) ?_;refine ⟨(s'.trans sab).after hq0,l2,_,ps++[P],_,_,_,_,rfl,?_,Gb.upd,?_⟩
    ·rw[aK];unfold mL;rw[fh];rfl
    ·have e:(DO (qV ls ps.length t) ps.length P d).getD ps.length []=zk:=by rw[aa,ek];rfl
     rw[e] at I2;exact I2
   ·walk_at "w";refine ⟨rfl,_,rfl,?_⟩;rw[show decide (V.non=V.non)=true from decide_eq_true rfl];walk_at "w";exact ⟨s',lp,ls,ps,d,_,_,_,rfl,gq',G',I.skip hz⟩
  rintro σ' H' ⟨s',lp,ls,ps,d,y1,y2,y3,rfl,gq',G',I⟩;obtain ⟨R,hR⟩:=I.done hw F;have lps:(mL ps).length=ps.length:=ao ..;obtain ⟨nl,xs',gx',qx'⟩:=id G';walk_at "w";refine ⟨_,_,rfl,.inl (bV.of gq'),?_⟩;rw[lps];walk_at "w";refine Nq (bV.of gx') fun sl H3 s3 n3 g3=>?_
  rw[Kl] at g3;walk_at "w";refine b9 fun t H4 s4 g4=>?_
  have s34:=s3.trans s4;exact k t sl qp R ps d _ H4 g4 (s34 _ _ gq') ⟨(fun z=>by rw[z,gq'] at n3;cases n3),_,s4 _ _ g3,Paired.imp' (fun _ _ z=>Gj.same z s34) (tx qx' ps.length)⟩ (s'.trans s34) hR
theorem xF:bo ["top","bottom","divisor"] ["top","bottom"] (az qD):=by walk_at "d"
theorem uD (T:Txt K mg Z):cS P w K mg base gZ 2 Z.xk Z.wX ["top","bottom"] GR:=by
 refine T.qR.ok xF (fun vs H Q E h=>?_) (fun cdv A outer s H vs Q E hr h=>?_)
 ·obtain ⟨t,b,rfl,hb,hs,k⟩:=h;rfl
 ·obtain ⟨t,b,rfl,hb,hs,k⟩:=h
  refine ⟨_,(au (bh (i:=2) xF.nd rfl (Or.inl rfl) (dg (jZ T) hr T.gK T.fF.kp T.iK (ae (pv 0) (ae (pv 1) ai))))
   (au (cT (bc vd (pv 1) ar (bB _)) (aB (bh (i:=2) xF.nd rfl (Or.inl rfl) (ym sS (pv 2)))) bS)
   (aB (aV (df (ae (bT jX (pv 0) (pv 2)) (ae (bT jX (pv 1) (pv 2)) ai))))))),?_⟩
  refine aU (σ:=[some (.int t),some (.int b),none]) rfl ?_;walk_at "w";refine ⟨t,b,rfl,?_⟩;have hg:=Ap (t:=t) hb
  have hgs:Sz 8999 (g t b):=hs.le (by
   have h1:(g t b).natAbs=Int.gcd t b:=by unfold g;simp
   rw[h1];exact mX (by lia) (by have:=fg (a:=t) (b:=b);exact eI.mpr this |> fun z=>by simpa using z))
  have hgn:g (-t) (-b)=g t b:=by unfold g;rw[Int.gcd_neg,Int.neg_gcd]
  walk_at "w";refine gG (fun h=>?_) (fun h=>?_)
  ·have hb0:b < 0:=of_decide_eq_true h;walk_at "w";refine h7 (show sL _ _ from ⟨by lia,hgs.neg⟩) ?_;walk_at "w";refine h7 (show sL _ _ from ⟨by lia,hgs.neg⟩) ?_;walk_at "w";refine b9 fun r H' s' h'=>?_
   have e1:t.fdiv (-g t b)=lo (-t) (-b):=by
    unfold Nm.lo;rw[hgn,<- cG _ (by lia),<- Int.neg_fdiv_neg (-t),Int.neg_neg]
   have e2:b.fdiv (-g t b)=hi (-t) (-b):=by
    unfold Nm.hi;rw[hgn,<- cG _ (by lia),<- Int.neg_fdiv_neg (-b),Int.neg_neg]
   exact k r H' s' (by rw[if_pos hb0,if_pos hb0,<- e1,<- e2];exact h')
  ·have hb0:¬b < 0:=fun z=>h (decide_eq_true z)
   walk_at "w";refine h7 (show sL _ _ from ⟨by lia,hgs⟩) ?_;walk_at "w";refine h7 (show sL _ _ from ⟨by lia,hgs⟩) ?_;walk_at "w";refine b9 fun r H' s' h'=>?_
   rw[cG _ (by lia),cG _ (by lia)] at h';exact k r H' s' (by rw[if_neg hb0,if_neg hb0];exact h')
theorem zF:bo ["rows","wide","found"] ["rows","wide"] (az nZ):=by walk_at "d"
theorem EK (T:Txt K mg Z):cS P w K mg base gZ 5 Z.uP Z.uG ["rows","wide"] (Df K):=by
 refine T.yi.ok zF (fun vs H Q E h=>?_) (fun cdv A outer s H vs Q E hr h=>?_)
 ·obtain ⟨p,n,w,H0,rows,rfl,G,r100,n100,hw,F,k⟩:=h;rfl
 ·obtain ⟨p,n,w,H0,rows,rfl,G,r100,n100,hw,F,k⟩:=h
  refine ⟨_,(au (bh (i:=2) zF.nd rfl (Or.inl rfl) (dg (Dx T) hr T.Aa T.zg.kp T.CL (ae (pv 0) (ae (pv 1) ai))))
   (aB (aV (cQ ["line","lead"] [] [] (uB rfl T.zip (ae (bJ cO (pv 2) ar) (ae (bJ cO (pv 2) ar) ai))) (fun _=>(uC K 2 (cA (aR (i:=0) (show List.Nodup (α:=PySem.Str) ["line","lead"] by decide +kernel) rfl (Or.inr rfl) (Or.inl rfl)) (cA (aR (i:=1) (show List.Nodup (α:=PySem.Str) ["line","lead"] by decide +kernel) rfl (Or.inr rfl) (Or.inl rfl)) iD)))) (fun _=>cP) (fun _=>(cQ ["top"] ["line","lead"] [0,1] (Dv K (pv 0)) (fun _=>(aR (i:=0) (show List.Nodup (α:=PySem.Str) ["top","line","lead"] by decide +kernel))) (fun _=>cP) (fun _=>(dg (uD T) hr T.qH T.qR.kp T.tZ (ae (pv 0) (ae (bJ (mN K (by rfl)) (pv 1) (pv 2)) ai)))))))))),?_⟩
  refine aU (σ:=[some (.ref p),some (.int n),none]) rfl ?_;obtain ⟨_,_,_,_,_,_,_,_,r15,r89⟩:=id F;walk_at "w";refine ⟨p,n,w,H0,rows,rfl,G,r100,n100,hw,F,fun t lp qp R ps d ls H1 gt gq G1 s1 S=>?_⟩;obtain ⟨lR,wR,RR⟩:=id S.rr;have hl:=S.len;obtain ⟨_,xs,gx,qx⟩:=id G1;have lx:=qx.length;have lps:(mL ps).length=ps.length:=ao ..;have d0:(d:Rat)≠0:=fun z=>S.d0 (qJ z)
  have dsz:Sz 8999 d:=bA S.dsz (dP (by decide) (by lia))
  have km:ps.length<=n:=by
   rcases dh n ps.length with z | z
   ·have inc:∀j,j < ps.length->j<=ps.getD j 0:=by
     intro j
     induction j with
     | zero=>intro _;exact aY _
     | succ j ih =>
      intro hj;have:=ih (by lia);have:=RR.inc j (j+1) (by lia) hj
      lia
    have h1:=inc (ps.length - 1) (by lia);have h2:=RR.low (ps.length - 1) (by lia)
    lia
   ·exact z
  walk_at "w";refine ⟨⟨_,bV.of gx⟩,⟨_,bV.of gq⟩,?_⟩;refine tW (K:=K) (xs:=xs) (ws:=mL ps) (fun i ys H'=>aL H1 H'/\Paired (dq K H1 H') (R.take i) ys) (bp (bK (by lia))) (by lia) ⟨aL.refl _,.nil⟩ (fun i ys H' _ ⟨s,_⟩=>⟨bV.of (s _ _ gx),bV.of (s _ _ gq)⟩) ?_ ?_
  ·rintro i v1 v2 ys H' r h1 h2 hy ⟨s,pr⟩ hr;obtain ⟨zs,ez,q,rfl,_,gq1⟩:=cH qx h1;have hi:i < ls.length:=(aH.mp ez).1;have mz:=ay ez;have wz:=S.wide zs mz
   obtain ⟨j,ej,rfl⟩:∃j:Nat,ps[i]?=some j/\V.int (j:Int)=v2:=by
    unfold mL at h2;rw[aN] at h2;cases e:ps[i]? with
    | none=>rw[e] at h2;cases h2
    | some x=>rw[e] at h2;exact ⟨x,rfl,cg h2⟩
   have ej':ps.getD i 0=j:=by rw[aa,ej];rfl
   have jn:j < n:=by have:=RR.low i (by lia);rw[ej'] at this;exact this
   have sr:aL H' (upd H' r (.tup [.ref q,.int j])):=aL.new hr;have gr:(upd H' r (.tup [.ref q,.int j])) r=some (.tup [.ref q,.int j]):=aK;generalize upd H' r (.tup [.ref q,.int j])=H2 at sr gr ⊢;have s2:=s.trans sr;have iR:i < R.length:=by lia
   have eR:=ag iR;have wRi:=wR _ (aT iR)
   have ed:zs.getD j 0=d:=by
    have h:=S.val i j;rw[Iw ez] at h;have u:=RR.unit i (by lia) i (by lia);rw[if_pos rfl,ej'] at u;rw[u,Kz] at h;exact dN.mp h
   have val:∀c,((zs.getD c 0:Int):Rat)=(d:Rat)*(R[i]).getD c 0:=fun c=>by
    have h:=S.val i c;rw[Iw ez] at h;rw[h];unfold cv;rw[aa (l:=R),eR];rfl
   walk_at "w";refine ⟨⟨_,bV.of (s2 _ _ gq1)⟩,?_⟩;refine fE (K:=K) (xs:=zs.map V.int) (fun c ys' H3=>aL H2 H3/\Paired (cB K H3) ((R[i]).take c) ys') (bp (bK (by rw[ao];lia))) ⟨aL.refl _,.nil⟩ (fun c ys' H3 _ ⟨s3,_⟩=>bV.of ((s2.trans s3) _ _ gq1)) ?_ ?_
   ·rintro c x ys' H3 hx hlen ⟨s3,pr3⟩
    obtain ⟨z,ec,rfl⟩:∃z,zs[c]?=some z/\V.int z=x:=by
     rw[aN] at hx;cases e:zs[c]? with
     | none=>rw[e] at hx;cases hx
     | some x=>rw[e] at hx;exact ⟨x,rfl,cg hx⟩
    have hc:c < zs.length:=(aH.mp ec).1;have vc:=val c;have e1:zs.getD c 0=z:=by rw[aa,ec];rfl
    rw[e1] at vc;walk_at "w";refine cN (bV.of ((s2.trans s3) _ _ gq1)) (zo (by lia)) ?_;rw[ed];walk_at "w";refine ⟨z,d,rfl,S.d0,dsz,fun r4 H4 s4 g4=>?_⟩;have ec':(R[i])[c]?=some ((R[i]).getD c 0):=by rw[aa,ag (show c < (R[i]).length by lia)];rfl
    refine ⟨s3.trans s4,?_⟩;rw[take_snoc ec'];refine b6 (Paired.imp' (fun _ _ z=>cB.same z s4) pr3) (.cons (cB.mk g4 ?_) .nil);rcases Int.lt_or_lt_of_ne S.d0 with hd | hd
    ·rw[if_pos hd,if_pos hd];refine rn (by lia) ?_;rw[dm,dm,vc];grind
    ·rw[if_neg (by lia),if_neg (by lia)];refine rn hd ?_;rw[vc];grind
   ·rintro ys' H3 hy' ⟨s3,pr3⟩ l4 hl4;have sn:aL H3 (upd H3 l4 (.lst ys')):=aL.new hl4;refine ⟨(s2.trans s3).trans sn,?_⟩;rw[take_snoc eR];rw[aI (by rw[ao];lia)] at pr3;exact b6 (Paired.imp' (fun _ _ z=>dq.same z ((sr.trans s3).trans sn)) pr) (.cons ⟨l4,rfl,(s2.trans s3).none hl4,ys',aK,Paired.imp' (fun _ _ z=>cB.same z sn) pr3⟩ .nil)
  ·rintro ys H' hy ⟨s,pr⟩ r hr;have sn:aL H' (upd H' r (.lst ys)):=aL.new hr;rw[aI (by lia)] at pr;refine k r R ps d.natAbs _ (s1.none (s.none hr)) ((s1.trans s).trans sn) ⟨ys,aK,Paired.imp' (fun _ _ z=>(dq.weak z s1).same sn) pr,oU (H0:=H1) (rows:=R) ⟨H',hr,pr⟩⟩ S.rr S.km ?_ S.dsz S.tp;have:=S.d0
   lia
theorem qW:bo ["one","other","one_bottom","other_bottom","pairs"] ["one","other"] (az nY):=by walk_at "d"
theorem zX (T : Txt K mg Z) : cS P w K mg base gZ 4 Z.uO Z.uF ["one", "other"] (Fq K) := by
  have sI := qG (P := P) (w := w) (base := base) T;have yD := wB (P := P) (w := w) (base := base) T;have Kx := uD (P := P) (w := w) (base := base) T;refine T.uV.ok qW (fun vs H Q E h => ?_) (fun cdv A outer s H vs Q E hr h => ?_)
  · obtain ⟨p, q, xs, ys, rfl, hp, hq, hl, hz, ⟨k1, j1, k2, j2, h1, h2, hkj⟩, kk⟩ := h;rfl
  · obtain ⟨p, q, xs, ys, rfl, hp, hq, hl, hz, ⟨k1, j1, k2, j2, h1, h2, hkj⟩, kk⟩ := h
    refine ⟨_, (au (bh (i := 2) qW.nd rfl (Or.inl rfl) (dg sI hr T.iE T.fR.kp T.jf (ae (pv 0) ai)))
      (au (bh (i := 3) qW.nd rfl (Or.inl rfl) (dg sI hr T.iE T.fR.kp T.jf (ae (pv 1) ai)))
      (au (bh (i := 4) qW.nd rfl (Or.inl rfl) (EG rfl T.list rfl T.zip (ae (dg yD hr T.m4 T.mR.kp T.pE (ae (pv 0) (ae (pv 2) ai))) (ae (dg yD hr T.m4 T.mR.kp T.pE (ae (pv 1) (ae (pv 3) ai))) ai))))
      (aB (aV (dg Kx hr T.qH T.qR.kp T.tZ (ae (bX (Kp rfl) (by rfl) T.sum PyProof.Rows.boot_sum (ae (cQ ["mine", "yours"] [] [] (cZ (pv 4)) (fun _ => (uC K 2 (cA (aR (i := 0) (show List.Nodup (α := PySem.Str) ["mine", "yours"] by decide +kernel)) (cA (aR (i := 1) (show List.Nodup (α := PySem.Str) ["mine", "yours"] by decide +kernel)) iD)))) (fun _ => cP) (fun _ => (bT dM (pv 0) (pv 1)))) ai)) (ae (bT dM (pv 2) (pv 3)) ai)))))))), ?_⟩
    refine aU (σ := [some (.ref p), some (.ref q), none, none, none]) rfl ?_;obtain ⟨M, h1⟩ := h1.rowM (by lia);obtain ⟨N, h2⟩ := h2.rowM (by lia);replace hp := hp.rowK;replace hq := hq.rowK;replace hl : (ys.map nm).length = (xs.map nm).length := by simpa using hl
    replace hz : (xs.map nm).length ≤ 1000 := by simpa using hz
    obtain ⟨b1, s1⟩ := h1.bot;obtain ⟨b2, s2⟩ := h2.bot;have k2 : ∀ r H', aL H H' → H' r = some (.tup [.int (lo (Kh (xs.map nm) (ys.map nm)) (gY (xs.map nm) * gY (ys.map nm))), .int (hi (Kh (xs.map nm) (ys.map nm)) (gY (xs.map nm) * gY (ys.map nm)))]) → Q (.ref r) H' := fun r H' s g => kk r H' s (cB.mk g (L4 b1 b2))
    clear kk;generalize xs.map nm = ns at hp hq hl hz h1 h2 b1 b2 s1 s2 k2;generalize ys.map nm = ms at hp hq hl hz h1 h2 b1 b2 s1 s2 k2;have hb : 0 < gY ns * gY ms := sP b1 b2;walk_at "w";refine ⟨p, ns, M, rfl, hp, hz, h1, fun H1 t1 => ?_⟩;walk_at "w";refine ⟨q, ms, N, rfl, hq.same t1, by lia, h2, fun H2 t2 => ?_⟩;have u2 := t1.trans t2;walk_at "w";refine ⟨p, ns, M, _, rfl, hp.same u2, hz, h1, b1, s1, fun r1 H3 n3 t3 g3 => ?_⟩;walk_at "w";refine ⟨q, ms, N, _, rfl, (hq.same u2).same t3, by lia, h2, b2, s2, fun r2 H4 n4 t4 g4 => ?_⟩;walk_at "w";refine ⟨r1, r2, _, _, rfl, bV.of (t4 _ _ g3), bV.of g4, by simp [fo, hl], fun L ts H5 t5 n5 g5 pr => ?_⟩;have lt := pr.length;have ll : (fo ns (gY ns)).length = ns.length := by simp [fo]
    have lm : (fo ms (gY ms)).length = ns.length := by simp [fo, hl]
    rw [AI, ao, ao, ll, lm] at lt;walk_at "w";refine ⟨⟨_, bV.of g5⟩, ?_⟩;refine fE (K := K) (xs := ts) (fun i ys H' => H' = H5 /\ ys = ((List.zipWith (· * ·) (fo ns (gY ns)) (fo ms (gY ms))).take i).map V.int) (bp (bK (by lia))) ⟨rfl, rfl⟩ (fun i ys H' _ ⟨e, _⟩ => by subst e; exact bV.of g5) ?_ ?_
    · rintro i x ys H' hx hlen ⟨rfl, rfl⟩;obtain ⟨pq, epq, T, rfl, gT⟩ := cH pr hx;obtain ⟨t, u, et, eu, rfl⟩ := KI epq;walk_at "w";refine h7 (show kv _ _ from .inr ⟨_, _, C9 h1 b1 s1 (ay et), C9 h2 b2 s2 (ay eu), by decide⟩) ?_;have ez : (List.zipWith (· * ·) (fo ns (gY ns)) (fo ms (gY ms)))[i]? = some (t * u) := by rw [cU, et, eu]
      exact ⟨rfl, by rw [take_snoc ez]; simp⟩
    · rintro ys H' hy ⟨rfl, rfl⟩ l hl';walk_at "w";refine ⟨l, List.zipWith (· * ·) (fo ns (gY ns)) (fo ms (gY ms)), rfl, bV.of (by rw [aK, aI (by rw [ck]; lia)]), ?_⟩;walk_at "w";refine h7 (show kv _ _ from .inr ⟨_, _, s1, s2, by decide⟩) ?_;walk_at "w";refine ⟨_, _, rfl, by lia, (s1.mul s2).mono (by decide), fun r H6 t6 g6 => ?_⟩;rw [if_neg (by lia), if_neg (by lia)] at g6;exact k2 r H6 ((((u2.trans t3).trans t4).trans t5).trans ((aL.new hl').trans t6)) g6
theorem Ey:bo ["grid","row"] ["grid","row"] (az og):=by walk_at "d"
theorem EM (T:Txt K mg Z):cS P w K mg base gZ 5 Z.uR Z.uI ["grid","row"] (KY K):=by
 refine T.yk.ok Ey (fun vs H Q E h=>?_) (fun cdv A outer s H vs Q E hr h=>?_)
 ·obtain ⟨p,q,H0,rows,ys,rfl,hp,hq,hz,hl,hr1,kk⟩:=h;rfl
 ·obtain ⟨p,q,H0,rows,ys,rfl,hp,hq,hz,hl,hr1,kk⟩:=h;refine ⟨_,(aB (aV (cQ ["line"] ["row"] [1] (cZ (pv 0)) (fun _=>(aR (i:=0) (show List.Nodup (α:=PySem.Str) ["line","row"] by decide +kernel))) (fun _=>cP) (fun _=>(dg (zX T) hr T.vQ T.uV.kp T.yc (ae (pv 0) (ae (pv 1) ai))))))),?_⟩;refine aU (σ:=[some (.ref p),some (.ref q)]) rfl ?_;obtain ⟨xs,gx,qx,_⟩:=id hp;walk_at "w";refine ⟨⟨_,bV.of gx⟩,?_⟩;refine gD (K:=K) (F:=dq K H0) (cB K) (fun xs=>dW xs ys) gx qx hz (fun a b=>a.same b) (fun a b=>a.same b) ?_ ?_
  ·rintro i ns x H' NY NN en s ⟨u,rfl,_,hu⟩ k;obtain ⟨e1,e2⟩:=hr1 ns (ay en);walk_at "w";exact ⟨u,q,ns,ys,rfl,hu,hq.same s,e1.symm,by lia,e2,fun r H2 s2 h2'=>k _ _ s2 h2'⟩
  ·rintro ys' H' r hr s g pr nx;exact kk r H' hr s ⟨ys',g,pr⟩
theorem AM:bo ["system","rows"] ["system","rows"] (az ik):=by walk_at "d"
theorem ve (T:Txt K mg Z):cS P w K mg base gZ 6 Z.nE Z.m6 ["system","rows"] (GN K Z.a_System):=by
 refine T.nP.ok AM (fun vs H Q E h=>?_) (fun cdv A outer s H vs Q E hr h=>?_)
 ·obtain ⟨x,p,H0,H1,mv,pt,lk,R,rfl,S,D,G,l100,wR,hf,k⟩:=h;rfl
 ·obtain ⟨x,p,H0,H1,mv,pt,lk,R,rfl,S,D,G,l100,wR,hf,k⟩:=h;refine ⟨_,(aB (aV (cQ ["row"] ["system"] [0] (cZ (pv 1)) (fun _=>(aR (i:=0) (show List.Nodup (α:=PySem.Str) ["row","system"] by decide +kernel))) (fun _=>cP) (fun _=>(dg (EM T) hr T.Ad T.yk.kp T.BB (ae (FA K (pv 1) rfl) (ae (pv 0) ai))))))),?_⟩;refine aU (σ:=[some (.ref x),some (.ref p)]) rfl ?_;obtain ⟨dx,a',b',c',gx,_,_,_,Ga,Gb,Gc⟩:=id S;have d8:=D.n8;obtain ⟨xs,gxs,qx,_⟩:=id G;walk_at "w";refine ⟨⟨_,bV.of gxs⟩,?_⟩;refine gD (K:=K) (F:=dq K H1) (dq K H) (rd mv) gxs qx (by lia) (fun a b=>a.same b) (fun a b=>a.same b) ?_ ?_
  ·rintro i ns v H' NY NN en s ⟨u,rfl,_,hu⟩ k1;have mn:=ay en;walk_at "w";refine ⟨x,Z.a_System,dx,_,_,rfl,s _ _ gx,T.cl_System,T.na_move,zA,?_⟩;walk_at "w";exact ⟨a',u,H0,mv,ns,rfl,Ga.same s,hu,by lia,by rw[wR ns mn];lia,fun xs hx=>⟨by rw[D.mw xs hx,wR ns mn],hf xs hx ns mn⟩,fun r H2 nr s2 R2=>k1 _ _ s2 ⟨r,rfl,s.none nr,R2⟩⟩
  ·rintro ys H' r hr s g pr nx;exact k r H' hr s ⟨ys,g,pr,oU nx⟩
theorem ot:bo ["system","steps","lists","rows"] ["system","steps"] (az fV):=by walk_at "d"
theorem zY (T:Txt K mg Z):cS P w K mg base gZ 7 Z.lW Z.lF ["system","steps"] (GV K Z.a_System):=by
 refine T.qq.ok ot (fun vs H Q E h=>?_) (fun cdv A outer s H vs Q E hr h=>?_)
 ·obtain ⟨x,a,c,st,H0,mv,pt,lk,rfl,s1000,S,D,F,k⟩:=h;rfl
 ·obtain ⟨x,a,c,st,H0,mv,pt,lk,rfl,s1000,S,D,F,k⟩:=h
  refine ⟨_,(au (bh (i:=2) ot.nd rfl (Or.inl rfl) (dX (ae (dX ai) ai)))
   (au (zO PassesOwn.never (bc Pf (bX bL (by rfl) T.len bH (ae (pv 2) ai)) (pv 1) (bB _))
    (au (bh (i:=3) ot.nd rfl (Or.inl rfl) (dg (EK T) hr T.Ab T.yi.kp T.By (ae (bT tF (fD (pv 0) rfl) (dg (ve T) hr T.p0 T.nP.kp T.rM (ae (pv 0) (ae (bJ bZ (pv 2) (ym sS ar)) ai)))) (ae (fD (pv 0) rfl) ai))))
   (au (cT (bc eB (bX bL (by rfl) T.len bH (ae (pv 3) ai)) (bX bL (by rfl) T.len bH (ae (bJ bZ (pv 2) (ym sS ar)) ai)) (bB _)) (aB (aV (pv 2))) bS)
   (aB (iC (va cI dI dH kO (pv 2) (ae (pv 3) ai)))))))
   (aB (aV (pv 2))))),?_⟩
  refine aU (σ:=[some (.ref x),some (.int st),none,none]) rfl ?_;obtain ⟨dx,a',b',c',gx,_,_,_,Ga,Gb,Gc⟩:=id S;have d8:=D.n8;have i4:=D.i4;have lP:=fe (mv:=mv) (pt:=pt) rfl D.pw;walk_at "w";refine dz fun q0 H1 s1 nq0 g1=>?_
  walk_at "w";refine dz fun l H2 s2 nl g2=>?_
  have s02:=s1.trans s2;have nl0:H l=none:=s1.none nl;obtain ⟨Hz,eHz⟩:∃Hz,Hz=upd H l (.lst []):=⟨_,rfl⟩;have zl:Hz l≠none:=by rw[eHz,aK];exact fun z=>nomatch z
  have zn:∀q,Hz q=none->H q=none/\q≠l:=fun q h=>by
   have ne:q≠l:=fun z=>zl (by rw[<- z];exact h)
   rw[eHz,bu ne] at h;exact ⟨h,ne⟩
  have nz:∀q,H q=none->q≠l->Hz q=none:=fun q h ne=>by rw[eHz,bu ne];exact h
  clear eHz;have q0l:q0≠l:=fun z=>by rw[z,nl] at g1;cases g1
  have G0:bO K Hz H2 q0 []:=⟨[],s2 _ _ g1,.nil,fun z=>nomatch z⟩;walk_at "w";refine BL (fun σ' H'=>aL H H'/\∃Rs R us y,σ'=[some (.ref x),some (.int st),some (.ref l),y]/\H' l=some (.lst us)/\Paired (fun R v=>∃q,v=V.ref q/\Hz q=none/\bO K Hz H' q R) (Rs++[R]) us/\ug mv pt (Rs++[R])/\Rs.length<=st) (fun _ H'=>match H' l with | some (.lst us)=>st+1 - us.length | _=>0) ⟨s02,[],[],_,_,rfl,g2,.cons ⟨q0,rfl,nz q0 nq0 q0l,G0⟩ .nil,⟨by simp,fun t R e=>?_,fun t R R' e e'=>?_⟩,aY _⟩ ?_
  ·have ht:=(aH.mp e).1;have:t=0:=by simpa using ht
   subst this;cases e;exact ⟨[],Ni⟩
  ·have ht:=(aH.mp e').1;simp at ht
  rintro σ' Ha ⟨sa,Rs,R,us,y,rfl,gu,pa,Gw,hst⟩;have lu:=pa.length;rw[aw,bI] at lu;have eR:(Rs++[R])[Rs.length]?=some R:=by rw[aW (av _),gQ];rfl
  obtain ⟨ps,RR⟩:=Gw.rr _ _ eR;have tn:Rs.length<=mv.length:=by have:=Gw.len _ _ eR;have:=RR.le;have:=RR.1;lia
  have fin:∀(Hx:Hp) (sx:aL Ha Hx) (hh:∀s,(Rs.length=st/\s=st\/Rs.length < st/\Rs.length<=s)->∃ps,cu (kry mv pt s) mv.length R ps),Q (.ref l) Hx:=fun Hx sx hh=>by
   refine k l (Rs++[R]) Hx nl0 (sa.trans sx) ⟨us,sx _ _ gu,Paired.imp' (fun _ _ ⟨q,e1,e2,e3⟩=>⟨q,e1,(zn q e2).1,(zn q e2).2,bO.weakN (bO.same e3 sx) fun q h=>(zn q h).1⟩) pa⟩ Gw (by rw[aw,bI];lia) fun R2 e2 s hs=>?_
   rw[List.getLast?_concat] at e2;cases e2;rw[aw,bI,Nat.add_sub_cancel] at hs;exact hh s hs
  walk_at "w";refine ⟨_,_,rfl,.inl (bV.of gu),?_⟩;walk_at "w";refine gG (fun h0=>?_) (fun h0=>?_)
  ·have h0:=of_decide_eq_true h0;refine Mv ?_
   obtain ⟨zs,gS⟩:∃zs q,us=zs++[V.ref q]/\Hz q=none/\bO K Hz Ha q R:=by
    obtain ⟨v,ev,q,rfl,e2,e3⟩:∃v,us[Rs.length]?=some v/\∃q,v=V.ref q/\Hz q=none/\bO K Hz Ha q R:=by
     have ev:=ag (show Rs.length < us.length by lia);obtain ⟨R2,e2,w⟩:=cH pa ev;rw[eR] at e2;cases e2;exact ⟨_,ev,w⟩
    refine ⟨us.take Rs.length,q,?_,e2,e3⟩;rw[<- take_snoc ev,aI (by lia)]
   obtain ⟨q,rfl,zq,Gq⟩:=gS;have gxa:=sa _ _ gx;walk_at "w";refine ⟨x,Z.a_System,dx,_,_,rfl,gxa,T.cl_System,T.na_put,yT,?_⟩;walk_at "w";refine cN (bV.of gu) (xi _ _) ?_;have wR:=RR.2.1;have lR:=RR.1;have pn:=RR.le;walk_at "w";refine ⟨x,q,H0,Hz,mv,pt,lk,R,rfl,S.same sa,D,Gq,by lia,wR,F.fit d8 D.mw D.pw tn RR,fun mr Hb nmr sb Gm=>?_⟩;obtain ⟨pv,gpv,qpv,_⟩:=Gb.same (sa.trans sb);obtain ⟨mvs,gmv,qmv,_⟩:=id Gm;have lpv:=qpv.length;have lmv:=qmv.length;rw[ao] at lmv;walk_at "w";refine tq gpv gmv (bp (bK (by lia))) fun cr Hc sc nc gc=>?_
   have sab:=sa.trans (sb.trans sc);have Gc':bO K (fun _=>none) Hc cr (pt++R.map (rd mv)):=xY (H:=Hb) (b6 (Paired.imp' (fun _ _ ⟨q,e1,e2,e3⟩=>⟨q,e1,rfl,e3⟩) qpv) (Paired.imp' (fun _ _ ⟨q,e1,e2,e3⟩=>⟨q,e1,rfl,e3⟩) qmv)) sc nc gc;walk_at "w";refine ⟨x,Z.a_System,dx,_,_,rfl,sab _ _ gx,T.cl_System,T.na_states,oq,?_⟩;walk_at "w";refine ⟨cr,mv.length,_,_,_,rfl,Gc',by rw[aw,ao];lia,by lia,fun xs hx=>?_,F.step d8 D.mw D.pw tn RR,fun rr R' ps' M' Hd nrr sd G' RR' pm' _ _ _=>?_⟩
   ·rcases ax.mp hx with hx | hx
    ·exact D.pw xs hx
    ·obtain ⟨y,_,rfl⟩:=aD.mp hx;exact xR
   have sbd:=sb.trans (sc.trans sd);have sad:=sa.trans sbd;have K1:=Am rfl D.mw D.pw RR RR';have gud:=sbd _ _ gu;obtain ⟨rv,grv,qrv,_⟩:=id G';have lrv:=qrv.length;have lR':=RR'.1;have pn':=RR'.le;walk_at "w";refine ⟨_,_,rfl,.inl (bV.of grv),?_⟩;walk_at "w";refine cN (bV.of gud) (xi _ _) ?_;obtain ⟨ov,gov,qov,_⟩:=Gq.same sbd;have lov:=qov.length;walk_at "w";refine ⟨_,_,rfl,.inl (bV.of gov),?_⟩;walk_at "w";refine gG (fun h1=>?_) (fun h1=>?_)
   ·have h1:=of_decide_eq_true h1;walk_at "w";refine fin Hd sbd fun s hs=>⟨ps,?_⟩
    obtain ⟨s',rfl⟩:∃s',s=Rs.length+s':=⟨s - Rs.length,by lia⟩;exact HP rfl D.mw D.pw RR RR' (by lia) s'
   ·have h1:¬((rv.length:Int)=ov.length):=fun z=>h1 (decide_eq_true z)
    have gr:=JN rfl D.mw D.pw RR K1;have rl:rr≠l:=fun z=>by rw[z,(sb.trans sc) _ _ gu] at nrr;cases nrr
    have zc:∀q,Hc q=none->Hz q=none:=fun q h=>nz q (sab.none h) (fun z=>by rw[z,(sb.trans sc) _ _ gu] at h;cases h)
    walk_at "w";refine ⟨.inl ⟨rfl,_,bV.of gud⟩,?_⟩;walk_at "w";refine jE gud (bK (by lia)) ?_;refine ⟨⟨sad.after nl0,Rs++[R],R',_,_,rfl,aK,b6 (Paired.imp' (fun _ _ ⟨q,e1,e2,e3⟩=>⟨q,e1,e2,bO.updL (bO.same e3 sbd) gud zl (zn q e2).2⟩) pa) (.cons ⟨rr,rfl,zc rr nrr,bO.updL (G'.weakN zc) gud zl rl⟩ .nil),Gw.snoc K1 (by lia),by rw[aw,bI];lia⟩,?_⟩;simp only[gu,aK,aw,bI] at lu h0 ⊢
    lia
  ·have h0:¬((us.length:Int)<=st):=fun z=>h0 (decide_eq_true z)
   walk_at "w"
   exact fin Ha (aL.refl _) fun s hs=>⟨ps,by
    have:s=Rs.length:=by lia
    rw[this];exact RR⟩
theorem Ca:bo ["lists","joined","each"] ["lists"] (az xJ):=by walk_at "d"
theorem LO (T:Txt K mg Z):cS P w K mg base gZ 1 Z.CT Z.CG ["lists"] (IW K):=by
 refine T.Fe.ok Ca (fun vs H Q E h=>?_) (fun cdv A outer s H vs Q E hr h=>?_)
 ·obtain ⟨p,xs,Rs,rfl,gx,qx,hl,k⟩:=h;rfl
 ·obtain ⟨p,xs,Rs,rfl,gx,qx,hl,k⟩:=h
  refine ⟨_,(au (bh (i:=1) Ca.nd rfl (Or.inl rfl) (dX ai))
   (au (eT PassesOwn.never rfl (cZ (pv 0)) (aR (i:=2) Ca.nd)
    (aB (iC (va cI xy xx xT (pv 1) (ae (pv 2) ai)))))
   (aB (aV (pv 1))))),?_⟩
  refine aU (σ:=[some (.ref p),none,none]) rfl ?_;have lx:=qx.length;walk_at "w";refine dz fun j H1 s1 n1 g1=>?_
  walk_at "w";refine ⟨⟨_,bV.of (s1 _ _ gx)⟩,?_⟩;refine i8 (K:=K) (a:=p) (xs:=xs) (fun i σ' H'=>aL H H'/\∃(us:List V) (x:Option V),σ'=[some (.ref p),some (.ref j),x]/\H' j=some (.lst us)/\Paired (dq K (AW j) H') (Rs.take i).flatten us) ⟨s1,[],none,rfl,g1,.nil⟩ (fun i σ' H' _ ⟨s,_⟩=>bV.of (s _ _ gx)) ?_ ?_
  ·rintro i x σ' H' hx ⟨s,us,y,rfl,gj,pr⟩;obtain ⟨qs,eq,q,rfl,_,Gq⟩:=cH qx hx;obtain ⟨qj,zs,gz,qz,_⟩:=Gq.off n1;have lz:=qz.length;have lu:=pr.length;have tl:(Rs.take (i+1)).flatten=(Rs.take i).flatten++qs:=by rw[take_snoc eq,fu];simp
   have bl:(Rs.take i).flatten.length+qs.length<=1000:=by
    have e:Rs.flatten=(Rs.take (i+1)).flatten++(Rs.drop (i+1)).flatten:=by rw[<- fu,List.take_append_drop]
    rw[e,tl,aw,aw] at hl
    lia
   walk_at "w";refine ⟨.inl ⟨rfl,_,bV.of gj⟩,?_⟩;walk_at "w";refine ⟨j,q,us,zs,rfl,rfl,gj,s _ _ gz,bp (bK (by lia)),?_⟩;refine ⟨s.after n1,_,_,rfl,aK,?_⟩;rw[tl];exact b6 (Paired.imp' (fun _ _ z=>dq.updL z gj off_ne) pr) (Paired.imp' (fun _ _ z=>dq.updL (dq.same z s) gj off_ne) qz)
  ·rintro σ' H' ⟨s,us,y,rfl,gj,pr⟩;rw[aI (by lia)] at pr;walk_at "w";refine k j (AW j) H' n1 s ⟨us,gj,pr,fun z=>?_⟩;obtain ⟨_,_,q,e,h,_⟩:=dF pr z;cases e;exact off_ne h
theorem jQ:bo ["system","steps","lists","rows","step"] ["system","steps"] (az jx):=by walk_at "d"
theorem Ci (T:Txt K mg Z):cS P w K mg base gZ 7 Z.pL Z.o8 ["system","steps"] (IZ K Z.a_System):=by
 refine T.uo.ok jQ (fun vs H Q E h=>?_) (fun cdv A outer s H vs Q E hr h=>?_)
 ·obtain ⟨x,u,a,c,H0,mv,pt,lk,rfl,hu,S,D,F,k⟩:=h;rfl
 ·obtain ⟨x,u,a,c,H0,mv,pt,lk,rfl,hu,S,D,F,k⟩:=h
  refine ⟨_,(au (bh (i:=2) jQ.nd rfl (Or.inl rfl) (dX ai))
   (au (bh (i:=3) jQ.nd rfl (Or.inl rfl) (fD (pv 0) rfl))
   (au (eT PassesOwn.never rfl (cK rfl T.range (ae (pv 1) ai)) (aR (i:=4) jQ.nd)
    (au (iC (va cI dI dH kO (pv 2) (ae (pv 3) ai)))
   (aB (bh (i:=3) jQ.nd rfl (Or.inl rfl) (dg (ve T) hr T.p0 T.nP.kp T.rM (ae (pv 0) (ae (pv 3) ai)))))))
   (aB (aV (pv 2)))))),?_⟩
  refine aU (σ:=[some (.ref x),some (.int u),none,none,none]) rfl ?_;obtain ⟨dx,a',b',c',gx,_,_,_,Ga,Gb,Gc⟩:=id S;have d8:=D.n8;have i4:=D.i4;walk_at "w";refine dz fun l H1 s1 n1 g1=>?_
  walk_at "w";refine ⟨x,Z.a_System,dx,_,_,rfl,s1 _ _ gx,T.cl_System,T.na_put,yT,?_⟩;walk_at "w";obtain ⟨bl,G0⟩:=Gb.off n1;have G1:=G0.same s1;refine ⟨by lia,by lia,?_⟩;refine fM (n:=u) (fun i σ' H'=>aL H H'/\∃q us y,σ'=[some (.ref x),some (.int u),some (.ref l),some (.ref q),y]/\q≠l/\H' l=some (.lst us)/\Paired (Il K l H') (Ie mv pt i) us/\bO K (AW l) H' q (pt.map (gX mv i))) ⟨s1,b',[],_,rfl,bl,g1,.nil,by rw[show pt.map (gX mv 0)=pt from xt pt];exact G1⟩ ?_ ?_
  ·rintro i σ' H' hi ⟨s',q,us,y,rfl,ql,gu,pu,Gq⟩;have lu:=pu.length;have la:(Ie mv pt i).length=i:=by unfold Ie;rw[ao,cD]
   walk_at "w";refine ⟨.inl ⟨rfl,_,bV.of gu⟩,?_⟩;walk_at "w";refine jE gu (bK (by lia)) ?_;have s2:aL H (upd H' l (.lst (us++[V.ref q]))):=s'.after n1;have g2:(upd H' l (.lst (us++[V.ref q]))) l=some (.lst (us++[V.ref q])):=aK
   have p2:Paired (Il K l (upd H' l (.lst (us++[V.ref q])))) (Ie mv pt (i+1)) (us++[V.ref q]):=by
    rw[CS];exact b6 (Paired.imp' (fun _ _ z=>Il.upd z gu) pu) (.cons ⟨q,rfl,ql,Gq.updL gu off_ne ql⟩ .nil)
   have Gq2:=Gq.updL (o:=.lst (us++[V.ref q])) gu off_ne ql;generalize upd H' l (.lst (us++[V.ref q]))=H2 at s2 g2 p2 Gq2 ⊢;walk_at "w";refine ⟨x,q,H0,AW l,mv,pt,lk,_,rfl,S.same s2,D,Gq2,by rw[ao];lia,fun r hr=>?_,F.fitP D.mw D.pw (by lia),fun r H3 nr s3 G3=>?_⟩
   ·obtain ⟨y,hy,rfl⟩:=aD.mp hr;exact qZ (D.pw y hy) i
   ·have e:(pt.map (gX mv i)).map (rd mv)=pt.map (gX mv (i+1)):=by rw[uX];rfl
    rw[e] at G3;exact ⟨s2.trans s3,r,_,_,rfl,fun z=>(by rw[z,g2] at nr;cases nr),s3 _ _ g2,Paired.imp' (fun _ _ z=>Il.same z s3) p2,G3.weakN fun q h=>Jz fun z=>by rw[z,g2] at h;cases h⟩
  ·rintro σ' H' ⟨s',q,us,y,rfl,ql,gu,pu,Gq⟩;walk_at "w";exact k l us H' n1 s' gu pu
theorem AL:bo ["many"] ["many"] (az ij):=by walk_at "d"
theorem lD (T:Txt K mg Z):cS P w K mg base gZ 1 Z.nD Z.m5 ["many"] (M7 K):=by
 refine T.iP.ok AL (fun vs H Q E h=>?_) (fun cdv A outer s H vs Q E hr h=>?_)
 ·obtain ⟨m,rfl,hm,k⟩:=h;rfl
 ·obtain ⟨m,rfl,hm,k⟩:=h;refine ⟨_,(aB (aV (cQ ["place"] [] [] (cK rfl T.range (ae (pv 0) ai)) (fun _=>(aR (i:=0) (show List.Nodup (α:=PySem.Str) ["place"] by decide +kernel))) (fun _=>cP) (fun _=>(wg (v:=.ref Z.a_NOUGHT) rfl T.mg_NOUGHT rfl))))),?_⟩;refine aU (σ:=[some (.int m)]) rfl ?_;walk_at "w";refine ⟨by lia,by lia,?_⟩;refine gC (n:=m) (cB K) (fun _=>0) (by lia) (fun a b=>a.same b) ?_ ?_
  ·rintro i Ha NY NN hi sa k1;walk_at "w";exact k1 _ _ (aL.refl _) ⟨_,rfl,T.sq_NOUGHT _⟩
  ·rintro ys H1 t ht s1 g1 pr _;exact k t H1 ht s1 ⟨ys,g1,by rw[<- DE];exact pr⟩
theorem qB:bo ["rows","wide","due","found","answer","line","lead"] ["rows","wide","due"] (az qC):=by walk_at "d"
theorem A9 (T:Txt K mg Z):cS P w K mg base gZ 5 Z.xj Z.wW ["rows","wide","due"] (Em K):=by
 refine T.xn.ok qB (fun vs H Q E h=>?_) (fun cdv A outer s H vs Q E hr h=>?_)
 ·obtain ⟨p,q,n,w,H0,rows,due,rfl,G,Rd,hd,m99,n99,hw,F,k1,k2⟩:=h;rfl
 ·obtain ⟨p,q,n,w,H0,rows,due,rfl,G,Rd,hd,m99,n99,hw,F,k1,k2⟩:=h
  refine ⟨_,(au (bh (i:=3) qB.nd rfl (Or.inl rfl) (dg (Dx T) hr T.Aa T.zg.kp T.CL (ae (cQ ["row","wanted"] [] [] (uB rfl T.zip (ae (pv 0) (ae (pv 2) ai))) (fun _=>(uC K 2 (cA (aR (i:=0) (show List.Nodup (α:=PySem.Str) ["row","wanted"] by decide +kernel)) (cA (aR (i:=1) (show List.Nodup (α:=PySem.Str) ["row","wanted"] by decide +kernel)) iD)))) (fun _=>cP) (fun _=>(bT tF (pv 0) (dX (ae (pv 1) ai))))) (ae (bT fL (pv 1) ar) ai))))
   (au (cT (bc HE (pv 1) (bJ cO (pv 3) ar) (by with_unfolding_all rfl)) (aB (aV kM)) bS)
   (au (bh (i:=4) qB.nd rfl (Or.inl rfl) (dg (lD T) hr T.i5 T.iP.kp T.kg (ae (pv 1) ai)))
   (au (eT PassesOwn.never rfl (uB rfl T.zip (ae (bJ cO (pv 3) ar) (ae (bJ cO (pv 3) ar) ai))) (tu rfl (cA (aR (i:=5) qB.nd) (cA (aR (i:=6) qB.nd) iD)))
    (aB (eV (dg (uD T) hr T.qH T.qR.kp T.tZ (ae (bJ bZ (pv 5) (pv 1)) (ae (bJ bZ (pv 5) (pv 6)) ai))) (h8 (pv 4) (pv 6) set_list))))
   (aB (aV (pv 4))))))),?_⟩
  refine aU (σ:=[some (.ref p),some (.int n),some (.ref q),none,none,none,none]) rfl ?_;obtain ⟨xs,gx,qx,_⟩:=id G;obtain ⟨ds,gd,qd⟩:=id Rd;have lx:=qx.length;have ld:=qd.length;have lj:=p8 hd;walk_at "w";refine ⟨⟨_,bV.of gx⟩,⟨_,bV.of gd⟩,?_⟩;refine tW (K:=K) (xs:=xs) (ws:=ds) (fun i ys H'=>aL H H'/\Paired (dq K H H') ((dc rows due).take i) ys) (bp (bK (by lia))) (by lia) ⟨aL.refl _,.nil⟩ (fun i ys H' _ ⟨s,_⟩=>⟨bV.of (s _ _ gx),bV.of (s _ _ gd)⟩) ?_ ?_
  ·rintro i v1 v2 ys H' r h1 h2 hy ⟨s,pr⟩ hr;obtain ⟨row,er,u,rfl,_,Ru⟩:=cH qx h1;obtain ⟨d,ed,nd⟩:=cH qd h2;have wr:=hw row (ay er);have sr:aL H' (upd H' r (.tup [.ref u,v2])):=aL.new hr;have gr:(upd H' r (.tup [.ref u,v2])) r=some (.tup [.ref u,v2]):=aK;generalize upd H' r (.tup [.ref u,v2])=H2 at sr gr ⊢;have s2:=s.trans sr;walk_at "w";refine dz fun l1 H3 s3 n3 g3=>?_
   have s23:=s2.trans s3;obtain ⟨zs,gz,qz⟩:=Ru.same s23;have lz:=qz.length;walk_at "w";refine tq gz g3 (bp (bK (by rw[bI];lia))) fun l2 H4 s4 n4 g4=>?_
   refine ⟨s23.trans s4,?_⟩;rw[take_snoc (ME er ed)];exact b6 (Paired.imp' (fun _ _ z=>dq.same z ((sr.trans s3).trans s4)) pr) (.cons ⟨l2,rfl,s23.none n4,_,g4,Paired.imp' (fun _ _ z=>cB.same z s4) (b6 qz (.cons (nd.same s23) .nil))⟩ .nil)
  rintro ys H1 hy ⟨s1,pr⟩ l hl;have sn:aL H1 (upd H1 l (.lst ys)):=aL.new hl;have gn:(upd H1 l (.lst ys)) l=some (.lst ys):=aK;rw[aI (by lia)] at pr;generalize upd H1 l (.lst ys)=H2 at sn gn ⊢;have GJ:bO K H H2 l (dc rows due):=xY pr sn hl gn;have s02:=s1.trans sn;walk_at "w";rw[show ((n:Int)+1)=((n+1:Nat):Int) by lia];refine ⟨l,n+1,w,H,_,rfl,GJ,by lia,by lia,wN hw,F,fun t lp qp R ps d ls H3 gt gq GZ s3 S=>?_⟩;have s03:=s02.trans s3;have pn:=S.rr.le;walk_at "w";refine ⟨qp,mL ps,rfl,.inl (bV.of gq),rfl,HK,?_⟩;rw[JT];by_cases hn:n∈ps
  ·rw[decide_eq_true hn,show (if false=true then !true else true)=true from rfl];walk_at "w";exact k2 R ps H3 S.rr hn s03
  ·rw[decide_eq_false hn,show (if false=true then !false else false)=false from rfl];obtain ⟨lR,wR,rr⟩:=id S.rr;obtain ⟨_,zs,gz,qz⟩:=id GZ;have lz:=qz.length;have hl':=S.len
   have low:∀j,j < ps.length->ps.getD j 0 < n:=fun j hj=>by
    have:=rr.low j hj;have:ps.getD j 0≠n:=fun z=>hn (by rw[<- z];exact getD_in hj)
    lia
   obtain ⟨_,_,_,_,_,_,_,_,_,e89⟩:=id F;rw[lj] at e89;have dsz:Sz 8999 d:=bA S.dsz (dP (by decide) (by rw[lj];lia));have lps:=JA (ps:=ps);walk_at "w";refine ⟨n,rfl,by lia,fun an H4 na s4 R4=>?_⟩;rw[<- K4 (R:=R) (ps:=ps)] at R4;obtain ⟨vs0,g0,q0⟩:=id R4;have gt4:=s4 _ _ gt;walk_at "w";refine ⟨⟨_,bV.of (s4 _ _ gz)⟩,⟨_,bV.of (s4 _ _ gq)⟩,?_⟩;refine LU (K:=K) (xs:=zs) (ws:=mL ps) (fun j σ' H'=>aL H3 H'/\∃y1 y2 vs,σ'=[some (.ref p),some (.int n),some (.ref q),some (.ref t),some (.ref an),y1,y2]/\H' an=some (.lst vs)/\Paired (cB K H') (v3 R ps n j) vs) (by lia) ⟨s4,_,_,vs0,rfl,g0,q0⟩ (fun j σ' H' _ ⟨e,_⟩=>⟨bV.of (e _ _ gz),bV.of (e _ _ gq)⟩) ?_ ?_
   ·rintro j v1 v2 σ' H' r h1 h2 ⟨s',y1,y2,vs,rfl,ga,qa⟩ hr;obtain ⟨line,el,u,rfl,_,gu⟩:=cH qz h1;have wl:=S.wide line (ay el);obtain ⟨pj,ej,rfl⟩:=LR h2;have hj:j < ps.length:=(aH.mp ej).1;have ejD:ps.getD j 0=pj:=by rw[aa,ej];rfl
    have pjn:=low j hj;rw[ejD] at pjn;have v0:=S.val j n;rw[Iw el] at v0
    have ed:line.getD pj 0=d:=by
     have h:=S.val j pj;rw[Iw el] at h;have u:=rr.unit j hj j hj;rw[if_pos rfl,ejD] at u;rw[u,Kz] at h;exact dN.mp h
    have sr:aL H' (upd H' r (.tup [.ref u,.int pj])):=aL.new hr;have gr:(upd H' r (.tup [.ref u,.int pj])) r=some (.tup [.ref u,.int pj]):=aK;generalize upd H' r (.tup [.ref u,.int pj])=H5 at sr gr ⊢;have gu5:=(s'.trans sr) _ _ gu;walk_at "w";refine cN (bV.of gu5) (zo (by lia)) ?_;walk_at "w";refine cN (bV.of gu5) (zo (by lia)) ?_;rw[ed];walk_at "w";refine ⟨_,d,rfl,S.d0,dsz,fun r6 H6 s6 g6=>?_⟩;have d0:(d:Rat)≠0:=fun z=>S.d0 (qJ z)
    have n6:cB K H6 (cv R j n) (.ref r6):=by
     refine cB.mk g6 ?_;rcases Int.lt_or_lt_of_ne S.d0 with hd' | hd'
     ·rw[if_pos hd',if_pos hd'];refine rn (by lia) ?_;rw[dm,dm,v0];grind
     ·rw[if_neg (by lia),if_neg (by lia)];refine rn hd' ?_;rw[v0];grind
    have ga6:=(sr.trans s6) _ _ ga;have la:=qa.length;rw[kD] at la;walk_at "w";refine fb ga6 (fv (by lia)) rfl ?_;refine ⟨((s'.trans sr).trans s6).after na,_,_,_,rfl,aK,?_⟩;rw[<- K5 S.rr hj,ejD];exact ow (Paired.imp' (fun _ _ z=>(cB.same z (sr.trans s6)).updL ga6) qa) pj (n6.updL ga6)
   ·rintro σ' H' ⟨s',y1,y2,vs,rfl,ga,qa⟩;rw[show zs.length=ps.length by lia] at qa;walk_at "w";refine k1 an R ps d.natAbs H' S.rr hn (s03.none na) (s03.trans s') ⟨vs,ga,qa⟩ (by have:=S.d0;lia) (by rw[<- lj];exact S.dsz) ?_;rw[<- lj];exact OX (by have:=S.d0;lia) S.tp S.rr
theorem zH:bo ["grid","wide"] ["grid","wide"] (az fX):=by walk_at "d"
theorem jY (T:Txt K mg Z):cS P w K mg base gZ 1 Z.lZ Z.lH ["grid","wide"] (IJ K):=by
 refine T.gE.ok zH (fun vs H Q E h=>?_) (fun cdv A outer s H vs Q E hr h=>?_)
 ·obtain ⟨p,w,H0,rows,rfl,hp,hz,hw,hl,kk⟩:=h;rfl
 ·obtain ⟨p,w,H0,rows,rfl,hp,hz,hw,hl,kk⟩:=h;refine ⟨_,(aB (aV (cQ ["place"] ["grid"] [0] (cK rfl T.range (ae (pv 1) ai)) (fun _=>(aR (i:=0) (show List.Nodup (α:=PySem.Str) ["place","grid"] by decide +kernel) rfl (Or.inr rfl) (Or.inl rfl))) (fun _=>cP) (fun _=>(cQ ["line"] ["place"] [0] (Dv K (pv 1)) (fun _=>(aR (i:=0) (show List.Nodup (α:=PySem.Str) ["line","place"] by decide +kernel))) (fun _=>cP) (fun _=>(bJ (mN K (by rfl)) (pv 0) (pv 1)))))))),?_⟩;refine aU (σ:=[some (.ref p),some (.int w)]) rfl ?_;walk_at "w";refine ⟨by lia,by lia,?_⟩;refine gC (n:=w) (dq K H) (fun j=>rows.map fun xs=>xs.getD j 0) hw (fun a b=>a.same b) ?_ ?_
  ·rintro j H1 NY NN hj s1 k1;obtain ⟨xs,gx,qx,_⟩:=hp.same s1;walk_at "w";refine ⟨⟨_,bV.of gx⟩,?_⟩;refine gD (K:=K) (F:=dq K H0) (cB K) (fun xs=>xs.getD j 0) gx qx hz (fun a b=>a.same b) (fun a b=>a.same b) ?_ ?_
   ·rintro i ns x H2 NY2 NN2 en s2 ⟨u,rfl,_,zs,gz,qz⟩ k2;obtain ⟨v,ev,hv⟩:=JR qz (j:=j) (by rw[hl ns (ay en)];exact hj);walk_at "w";refine cN (bV.of gz) ev ?_;exact k2 _ _ (aL.refl _) hv
   ·rintro ys' H2 r hr s2 g pr nx;exact k1 _ _ s2 ⟨r,rfl,s1.none hr,ys',g,pr⟩
  ·rintro ys' H1 r hr s1 g pr nx;exact kk r H1 hr s1 ⟨ys',g,pr,oU nx⟩
theorem zE:bo ["rows","wide","due","answer","columns"] ["rows","wide","due"] (az uz):=by walk_at "d"
theorem Jx (T:Txt K mg Z):cS P w K mg base gZ 6 Z.zd Z.y7 ["rows","wide","due"] (GH K):=by
 refine T.C0.ok zE (fun vs H Q E h=>?_) (fun cdv A outer s H vs Q E hr h=>?_)
 ·obtain ⟨p,q,n,w,w1,H0,rows,due,rfl,G,Rd,hd,m90,n90,hw,F,F1,k1,k2⟩:=h;rfl
 ·obtain ⟨p,q,n,w,w1,H0,rows,due,rfl,G,Rd,hd,m90,n90,hw,F,F1,k1,k2⟩:=h
  refine ⟨_,(au (bh (i:=3) zE.nd rfl (Or.inl rfl) (dg (A9 T) hr T.xU T.xn.kp T.Ax (ae (pv 0) (ae (pv 1) (ae (pv 2) ai)))))
   (au (cT (bc Ce (pv 3) kM (bB _)) (aB (aV (df (ae kL (ae (pv 3) ai))))) bS)
   (au (bh (i:=4) zE.nd rfl (Or.inl rfl) (dg (jY T) hr T.ia T.gE.kp T.ja (ae (pv 0) (ae (pv 1) ai))))
   (aB (aV (df (ae kL (ae (dg (A9 T) hr T.xU T.xn.kp T.Ax (ae (bT tF (pv 4) (dX (ae (pv 2) ai))) (ae (bX bL (by rfl) T.len bH (ae (pv 0) ai)) (ae (bT tF (dg (lD T) hr T.i5 T.iP.kp T.kg (ae (pv 1) ai)) (dX (ae (wg (v:=.ref Z.a_ONE) rfl T.mg_ONE rfl) ai))) ai)))) ai)))))))),?_⟩
  refine aU (σ:=[some (.ref p),some (.int n),some (.ref q),none,none]) rfl ?_;walk_at "w";refine ⟨p,q,n,w,H0,rows,due,rfl,G,Rd,hd,by lia,by lia,hw,F,fun x R ps M H1 RR hn nx s1 Rx M0 M1 tM=>?_,fun R ps H1 RR hn s1=>?_⟩
  ·walk_at "w";refine ⟨rfl,_,rfl,?_⟩;rw[show decide (V.ref x=V.non)=false from decide_eq_false (fun z=>nomatch z)];walk_at "w";refine b9 fun t H2 s2 g2=>?_
   exact k1 t x R ps M H2 RR hn g2 nx (s1.trans s2) (Rx.same s2) M0 M1 tM
  ·walk_at "w";refine ⟨rfl,_,rfl,?_⟩;rw[show decide (V.non=V.non)=true from decide_eq_true rfl];walk_at "w";refine ⟨p,n,H0,rows,rfl,G.same s1,by lia,by lia,hw,fun co H2 nc s2 G2=>?_⟩;have s02:=s1.trans s2;walk_at "w";refine dz fun l3 H3 s3 n3 g3=>?_
   obtain ⟨cs,gc,qc,_⟩:=G2.same s3;have lc:=qc.length;rw[cy] at lc;walk_at "w";refine tq gc g3 (bp (bK (by rw[bI];lia))) fun l4 H4 s4 n4 g4=>?_
   have s03:=s02.trans s3;have s04:=s03.trans s4;have G4:bO K (fun _=>none) H4 l4 (bC rows n++[due]):=xY (H:=H3) (b6 (Paired.imp' (fun _ _ ⟨q',a,_,c⟩=>⟨q',a,rfl,c⟩) qc) (.cons ⟨q,rfl,rfl,Rd.same s03⟩ .nil)) s4 n4 g4;obtain ⟨xs,gx,qx,_⟩:=G.same s04;have lx:=qx.length;walk_at "w";refine ⟨_,_,rfl,.inl (bV.of gx),?_⟩;rw[<- lx];walk_at "w";refine ⟨n,rfl,by lia,fun l5 H5 n5 s5 R5=>?_⟩;walk_at "w";refine dz fun l6 H6 s6 n6 g6=>?_
   obtain ⟨zs,gz,qz⟩:=R5.same s6;have lz:=qz.length;rw[aF] at lz;walk_at "w";refine tq gz g6 (bp (bK (by rw[bI];lia))) fun l7 H7 s7 n7 g7=>?_
   have s47:=(s5.trans s6).trans s7;have s07:=s04.trans s47;have R7:cR K H7 l7 (List.replicate n 0++[1]):=⟨_,g7,Paired.imp' (fun _ _ z=>cB.same z s7) (b6 qz (.cons ⟨_,rfl,T.sq_ONE _⟩ .nil))⟩;have l1:(bC rows n++[due]).length=n+1:=by rw[aw,cy];rfl
   have w1':∀xs∈bC rows n++[due],xs.length=rows.length:=fun xs hx=>by
    rcases ax.mp hx with hx | hx
    ·exact kB xs hx
    ·rw[bW.mp hx];exact hd
   walk_at "w";refine ⟨l4,l7,rows.length,w1,_,_,_,rfl,G4.same s47,R7,by rw[l1,aw,aF];rfl,by lia,by lia,w1',F1,fun x R1 p1 M H8 RR1 hn1 nx s8 Rx M0 M1 tM=>?_,fun R1 p1 H8 RR1 hn1 s8=>?_⟩
   ·walk_at "w";refine b9 fun t H9 s9 g9=>?_
    rw[l1] at M1 tM;exact k2 t x R ps R1 p1 M H9 RR hn RR1 hn1 g9 (s07.none nx) ((s07.trans s8).trans s9) (Rx.same s9) M0 M1 tM
   ·exact absurd hn1 (Hv hd hw RR hn RR1)
theorem sX:bo ["rows","wide","row","answer"] ["rows","wide","row"] (az fU):=by walk_at "d"
theorem zW (T:Txt K mg Z):cS P w K mg base gZ 7 Z.lV Z.lE ["rows","wide","row"] (De K):=by
 refine T.qo.ok sX (fun vs H Q E h=>?_) (fun cdv A outer s H vs Q E hr h=>?_)
 ·obtain ⟨p,q,n,w,w1,H0,rows,row,rfl,G,Rr,hl,m90,n90,hw,F,F1,k1,k2⟩:=h;rfl
 ·obtain ⟨p,q,n,w,w1,H0,rows,row,rfl,G,Rr,hl,m90,n90,hw,F,F1,k1,k2⟩:=h
  refine ⟨_,(au (bh (i:=3) sX.nd rfl (Or.inl rfl) (dg (Jx T) hr T.DC T.C0.kp T.Ge (ae (dg (jY T) hr T.ia T.gE.kp T.ja (ae (pv 0) (ae (pv 1) ai))) (ae (bX bL (by rfl) T.len bH (ae (pv 0) ai)) (ae (pv 2) ai)))))
   (aB (aV (df (ae (Ju (bc eB (bJ cO (pv 3) ar) kL (bB _)) kL kL) (ae (bJ cO (pv 3) ar) ai)))))),?_⟩
  refine aU (σ:=[some (.ref p),some (.int n),some (.ref q),none]) rfl ?_;walk_at "w";refine ⟨p,n,H0,rows,rfl,G,by lia,by lia,hw,fun co H1 nc s1 G1=>?_⟩;obtain ⟨xs,gx,qx,_⟩:=G.same s1;have lx:=qx.length;walk_at "w";refine ⟨_,_,rfl,.inl (bV.of gx),?_⟩;rw[<- lx];have lT:(bC rows n).length=n:=cy;have eS:IH (bC rows n) rows.length row=dc (rows++[row]) (List.replicate rows.length 0++[1]):=by unfold IH;rw[Gy hw]
  walk_at "w";refine ⟨co,q,rows.length,w,w1,_,bC rows n,row,rfl,G1,Rr.same s1,by lia,by lia,by lia,fun xs hx=>kB xs hx,F,by rw[eS,lT];exact F1,fun t x R ps M H2 RR hn g2 nx s2 Rx M0 M1 tM=>?_,fun t x R ps R1 p1 M H2 RR hn RR1 hn1 g2 nx s2 Rx M0 M1 tM=>?_⟩
  ·rw[lT] at M1 tM;walk_at "w";rw[decide_eq_true rfl];walk_at "w";refine b9 fun t2 H3 s3 g3=>?_
   exact k1 t2 x R ps M H3 RR hn g3 (s1.none nx) ((s1.trans s2).trans s3) (Rx.same s3) M0 M1 tM
  ·rw[lT] at M1 tM RR1 hn1 Rx;rw[eS] at RR1;walk_at "w";rw[decide_eq_false (show ¬(Str.ofString "no"=Str.ofString "yes") by decide)];walk_at "w";refine b9 fun t2 H3 s3 g3=>?_
   exact k2 t2 x R ps R1 p1 M H3 RR hn RR1 hn1 g3 (s1.none nx) ((s1.trans s2).trans s3) (Rx.same s3) M0 M1 tM
theorem Jc:bo ["one","other"] ["one","other"] (az uA):=by walk_at "d"
theorem Jy (T:Txt K mg Z):cS P w K mg base gZ 3 Z.ze Z.y8 ["one","other"] (vI K (fun x y=>x - y)):=by
 refine T.C1.ok Jc (fun vs H Q E h=>?_) (fun cdv A outer s H vs Q E hr h=>?_)
 ·obtain ⟨p,q,a,b,c,d,rfl,hp,hq,hb,hd,sa,sb,sc,sd,k⟩:=Fp h;rfl
 ·obtain ⟨p,q,a,b,c,d,rfl,hp,hq,hb,hd,sa,sb,sc,sd,k⟩:=Fp h;refine ⟨_,(aB (aV (dg (uD T) hr T.qH T.qR.kp T.tZ (ae (bT pX (bT dM (bJ cO (pv 0) ar) (bJ cO (pv 1) ar)) (bT dM (bJ cO (pv 1) ar) (bJ cO (pv 0) ar))) (ae (bT dM (bJ cO (pv 0) ar) (bJ cO (pv 1) ar)) ai))))),?_⟩;refine aU (σ:=[some (.ref p),some (.ref q)]) rfl ?_;have hbd:0 < b*d:=sP hb hd;have sbd:Sz 8999 (b*d):=(sb.mul sd).mono (by decide);walk_at "w";refine h7 (show kv _ _ from .inr ⟨_,_,sa,sd,by decide⟩) ?_;walk_at "w";refine h7 (show kv _ _ from .inr ⟨_,_,sc,sb,by decide⟩) ?_;walk_at "w";refine h7 (show kv _ _ from .inr ⟨_,_,sb,sd,by decide⟩) ?_;walk_at "w";walk_at "w";refine ⟨_,_,rfl,by lia,sbd,fun r H' s' h'=>?_⟩;rw[if_neg (by lia),if_neg (by lia)] at h';exact k r H' s' h'
theorem BZ:bo ["one","other"] ["one","other"] (az jv):=by walk_at "d"
theorem Cf (T:Txt K mg Z):cS P w K mg base gZ 4 Z.pJ Z.o6 ["one","other"] (GQ K):=by
 refine T.ui.ok BZ (fun vs H Q E h=>?_) (fun cdv A outer s H vs Q E hr h=>?_)
 ·obtain ⟨p,q,xq,yq,rfl,hp,hq,hl,hz,hn,hm,k⟩:=h;rfl
 ·obtain ⟨p,q,xq,yq,rfl,hp,hq,hl,hz,hn,hm,k⟩:=h;refine ⟨_,(aB (aV (cQ ["mine","yours"] [] [] (uB rfl T.zip (ae (pv 0) (ae (pv 1) ai))) (fun _=>(uC K 2 (cA (aR (i:=0) (show List.Nodup (α:=PySem.Str) ["mine","yours"] by decide +kernel)) (cA (aR (i:=1) (show List.Nodup (α:=PySem.Str) ["mine","yours"] by decide +kernel)) iD)))) (fun _=>cP) (fun _=>(dg (Jy T) hr T.DD T.C1.kp T.Gg (ae (pv 0) (ae (pv 1) ai))))))),?_⟩;refine aU (σ:=[some (.ref p),some (.ref q)]) rfl ?_;obtain ⟨xs,gx,qx⟩:=id hp;obtain ⟨ys,gy,qy⟩:=id hq;have lx:=qx.length;have ly:=qy.length;walk_at "w";refine ⟨⟨_,bV.of gx⟩,⟨_,bV.of gy⟩,?_⟩;refine tW (K:=K) (xs:=xs) (ws:=ys) (fun i zs H'=>aL H H'/\Paired (cB K H') ((List.zipWith (fun x y=>x - y) xq yq).take i) zs) (bp (bK (by lia))) (by lia) ⟨aL.refl _,.nil⟩ (fun i zs H' _ ⟨s,_⟩=>⟨bV.of (s _ _ gx),bV.of (s _ _ gy)⟩) ?_ ?_
  ·rintro i x y zs H' r hx hy hlen ⟨s,hP⟩ hr;obtain ⟨n,en,hn1⟩:=cH qx hx;obtain ⟨m,em,hm1⟩:=cH qy hy;have s1:=aL.new (o:=.tup [x,y]) hr;have s01:=s.trans s1;have gr:(upd H' r (.tup [x,y])) r=some (.tup [x,y]):=aK;generalize upd H' r (.tup [x,y])=Hr at s1 s01 gr ⊢;walk_at "w";refine ⟨_,_,n,m,rfl,hn1.same s01,hm1.same s01,hn n (ay en),hm m (ay em),fun r3 H3 s3 h3=>?_⟩;refine ⟨s01.trans s3,?_⟩;have ez:(List.zipWith (fun x y=>x - y) xq yq)[i]?=some (n - m):=by rw[cU,en,em]
   rw[take_snoc ez];exact b6 (Paired.imp' (fun _ _ z=>z.same (s1.trans s3)) hP) (.cons h3 .nil)
  ·rintro zs H' hy ⟨s,hP⟩ l hl';rw[aI (by rw[ck];lia)] at hP;exact k l _ (s.none hl') (s.trans (aL.new hl')) ⟨zs,aK,Paired.imp' (fun _ _ z=>z.same (aL.new hl')) hP⟩
theorem sD:bo ["self","state","puts","columns"] ["self","state","puts"] (az fB):=by walk_at "d"
theorem yM (T:Txt K mg Z):cS P w K mg base gZ 5 Z.kj Z.kd ["self","state","puts"] (GO K Z.a_System):=by
 refine T.uv.ok sD (fun vs H Q E h=>?_) (fun cdv A outer s H vs Q E hr h=>?_)
 ·obtain ⟨x,p,q,H0,mv,pt,lk,st,pu,rfl,S,D,F,hp,hq,l1,l2,fs,k⟩:=h;rfl
 ·obtain ⟨x,p,q,H0,mv,pt,lk,st,pu,rfl,S,D,F,hp,hq,l1,l2,fs,k⟩:=h
  refine ⟨_,(au (bh (i:=3) sD.nd rfl (Or.inl rfl) (dg (jY T) hr T.ia T.gE.kp T.ja (ae (fD (pv 0) rfl) (ae (fD (pv 0) rfl) ai))))
   (aB (aV (cQ ["line","column"] ["state","puts"] [1,2] (uB rfl T.zip (ae (fD (pv 0) rfl) (ae (pv 3) ai))) (fun _=>(uC K 2 (cA (aR (i:=0) (show List.Nodup (α:=PySem.Str) ["line","column","state","puts"] by decide +kernel)) (cA (aR (i:=1) (show List.Nodup (α:=PySem.Str) ["line","column","state","puts"] by decide +kernel)) iD)))) (fun _=>cP) (fun _=>(dg (zX T) hr T.vQ T.uV.kp T.yc (ae (bT tF (pv 0) (pv 1)) (ae (bT tF (pv 2) (pv 3)) ai)))))))),?_⟩
  refine aU (σ:=[some (.ref x),some (.ref p),some (.ref q),none]) rfl ?_;obtain ⟨dx,a,b,c,gx,n1,n2,n3,Ga,Gb,Gc⟩:=id S;have d1:=D.n8;have d2:=D.i4;walk_at "w";refine ⟨x,Z.a_System,dx,_,_,rfl,gx,T.cl_System,T.na_put,yT,?_⟩;walk_at "w";refine ⟨x,Z.a_System,dx,_,_,rfl,gx,T.cl_System,T.na_states,oq,?_⟩;walk_at "w";refine ⟨b,mv.length,H0,pt,rfl,Gb,by lia,by lia,D.pw,fun t H1 nt s1 Gt=>?_⟩;obtain ⟨as,ga,qa,_⟩:=Ga.same s1;obtain ⟨ts,gt,qt,_⟩:=id Gt;have la:=qa.length;have lt:=qt.length;rw[cy] at lt;have gx1:=s1 _ _ gx;walk_at "w";refine ⟨x,Z.a_System,dx,_,_,rfl,gx1,T.cl_System,T.na_move,zA,?_⟩;walk_at "w";refine ⟨⟨_,bV.of ga⟩,⟨_,bV.of gt⟩,?_⟩;refine tW (K:=K) (xs:=as) (ws:=ts) (fun i ys H'=>aL H1 H'/\Paired (cB K H') ((kQ mv pt st pu).take i) ys) (bp (bK (by lia))) (by lia) ⟨aL.refl _,.nil⟩ (fun i ys H' _ ⟨s,_⟩=>⟨bV.of (s _ _ ga),bV.of (s _ _ gt)⟩) ?_ ?_
  ·rintro i v1 v2 ys H' r h1 h2 hy ⟨s,pr⟩ hr;obtain ⟨line,el,u1,rfl,_,R1⟩:=cH qa h1;obtain ⟨col,ec,u2,rfl,_,R2⟩:=cH qt h2;have ml:=ay el;have mc:=ay ec;have sr:aL H' (upd H' r (.tup [.ref u1,.ref u2])):=aL.new hr;have gr:(upd H' r (.tup [.ref u1,.ref u2])) r=some (.tup [.ref u1,.ref u2]):=aK;have s2:=s.trans sr;generalize upd H' r (.tup [.ref u1,.ref u2])=H2 at sr gr s2 ⊢;have lc:col.length=pt.length:=kB col mc;have ll:line.length=mv.length:=D.mw line ml;obtain ⟨z1,g1,q1⟩:=R1.same s2;obtain ⟨z2,g2,q2⟩:=R2.same s2;have y1:=q1.length;have y2:=q2.length;walk_at "w";refine tq g1 g2 (bp (bK (by lia))) fun c1 H3 s3 n3' g3=>?_
   have s13:=s2.trans s3;obtain ⟨z3,g4,q3⟩:=(hp.same s1).same s13;obtain ⟨z4,g5,q4⟩:=(hq.same s1).same s13;have y3:=q3.length;have y4:=q4.length;walk_at "w";refine tq g4 g5 (bp (bK (by lia))) fun c2 H4 s4 n4 g6=>?_
   have s34:=s3.trans s4;walk_at "w";refine ⟨c1,c2,line++col,st++pu,rfl,⟨_,s4 _ _ g3,Paired.imp' (fun _ _ z=>z.same s34) (b6 q1 q2)⟩,⟨_,g6,Paired.imp' (fun _ _ z=>z.same s4) (b6 q3 q4)⟩,by rw[aw,aw];lia,by rw[aw];lia,.sys ?_ fs,fun r2 H5 s5 h5=>?_⟩
   ·refine F.fits fun y hy=>?_
    rcases ax.mp hy with hy | hy
    ·exact .inl ⟨line,ml,hy⟩
    ·obtain ⟨j,_,rfl⟩:=aD.mp mc;obtain ⟨xs,hx,rfl⟩:=aD.mp hy;by_cases hj:j < xs.length
     ·refine .inr (.inl ⟨xs,hx,?_⟩);rw[aa,ag hj];exact aT hj
     ·exact .inr (.inr (.inr (by rw[aa,aS (by lia)];rfl)))
   ·have em:(kQ mv pt st pu)[i]?=some (dW (line++col) (st++pu)):=by
     unfold kQ;rw[cU,el,ec]
    refine ⟨((s2.trans s34).trans s5),?_⟩;rw[take_snoc em];exact b6 (Paired.imp' (fun _ _ z=>(z.same (sr.trans s34)).same s5) pr) (.cons h5 .nil)
  ·rintro ys H' hy ⟨s,pr⟩ l hl;have lm:(kQ mv pt st pu).length=mv.length:=by unfold kQ;rw[ck,cy];lia
   rw[aI (by lia)] at pr;exact k l _ (s1.none (s.none hl)) ((s1.trans s).trans (aL.new hl)) ⟨ys,aK,Paired.imp' (fun _ _ z=>z.same (aL.new hl)) pr⟩
theorem xG:bo ["system","start","puts","states","row"] ["system","start","puts"] (az qF):=by walk_at "d"
theorem HG (T:Txt K mg Z):cS P w K mg base gZ 6 Z.xm Z.wZ ["system","start","puts"] (Es K Z.a_System):=by
 refine T.AB.ok xG (fun vs H Q E h=>?_) (fun cdv A outer s H vs Q E hr h=>?_)
 ·obtain ⟨x,s,p,H0,H1,mv,pt,lk,pus,st,rfl,S,D,F,Rs,ls,Gp,lp,wp,cf,k⟩:=h;rfl
 ·obtain ⟨x,s,p,H0,H1,mv,pt,lk,pus,st,rfl,S,D,F,Rs,ls,Gp,lp,wp,cf,k⟩:=h
  refine ⟨_,(au (bh (i:=3) xG.nd rfl (Or.inl rfl) (dX (ae (e8 ke (by rfl) T.list PyProof.Rows.boot_list (ae (pv 1) ai)) ai)))
   (au (eT PassesOwn.never rfl (cZ (pv 2)) (aR (i:=4) xG.nd)
    (aB (iC (va cI dI dH kO (pv 3) (ae (LJ (pv 0) T.cl_System T.sG (yM T) (hr.mono (by decide)) T.ue .nil Dw (ae (bJ bZ (pv 3) (ym sS ar)) (ae (pv 4) ai))) ai)))))
   (aB (aV (pv 3))))),?_⟩
  refine aU (σ:=[some (.ref x),some (.ref s),some (.ref p),none,none]) rfl ?_;have d1:=D.n8;obtain ⟨ss,gs,qs⟩:=id Rs;obtain ⟨ps,gp,qp,_⟩:=id Gp;have lps:=qp.length;walk_at "w";refine ⟨s,ss,rfl,.inl (bV.of gs),fun c hc=>?_⟩;have sc:aL H (upd H c (.lst ss)):=aL.new hc;have Rc:cR K (upd H c (.lst ss)) c st:=⟨ss,aK,Paired.imp' (fun _ _ z=>z.same sc) qs⟩;generalize upd H c (.lst ss)=Hc at sc Rc ⊢;walk_at "w";refine dz fun l Hl sl nl gl=>?_
  have hl0:=sc.none nl;have s0:=sc.trans sl;have cl:c≠l:=fun z=>by obtain ⟨_,g,_⟩:=Rc;rw[z,nl] at g;cases g
  have pr0:Paired (yf K H l Hl) ((pB mv pt st pus).take 1) [V.ref c]:=by
   have:(pB mv pt st pus).take 1=[st]:=by
    have e:=take_snoc (uL (mv:=mv) (pt:=pt) (st:=st) (pus:=pus) (k:=0) (aY _));rw[e];rfl
   rw[this];exact .cons ⟨c,rfl,hc,cl,Rc.same sl⟩ .nil
  walk_at "w";refine ⟨⟨_,bV.of (s0 _ _ gp)⟩,?_⟩;refine i8 (K:=K) (a:=p) (xs:=ps) (fun i σ' H'=>aL H H'/\(∃y ys,σ'=[some (.ref x),some (.ref s),some (.ref p),some (.ref l),y]/\H' l=some (.lst ys)/\Paired (yf K H l H') ((pB mv pt st pus).take (i+1)) ys)) ⟨s0,_,_,rfl,gl,pr0⟩ (fun i σ' H' _ ⟨e,_⟩=>bV.of (e _ _ gp)) ?_ ?_
  ·rintro i v σ' H' hv ⟨e,y,ys,rfl,g,pr⟩;obtain ⟨pu,epu,u,rfl,_,Ru⟩:=cH qp hv;have hi:i < pus.length:=(aH.mp epu).1;have mp:=ay epu;have ly:=pr.length;rw[dn,vS] at ly;have ec:=uL (mv:=mv) (pt:=pt) (st:=st) (pus:=pus) (k:=i) (by lia);have el:ys[i]?=some (ys[i]'(by lia)):=ag (by lia)
   obtain ⟨vl,evl,q,hq1,hq2,hq3,Rq⟩:∃vl,ys[i]?=some vl/\∃q,vl=V.ref q/\H q=none/\q≠l/\cR K H' q (BQ mv pt st pus i):=by
    obtain ⟨xs,ex,w⟩:=cH pr el;rw[xA (by lia),ec] at ex;cases ex;exact ⟨_,el,w⟩
   subst hq1
   have ey:∃zs,ys=zs++[V.ref q]:=by
    refine ⟨ys.take i,?_⟩;rw[<- take_snoc evl,aI (by lia)]
   obtain ⟨zs,rfl⟩:=ey;walk_at "w";refine ⟨.inl ⟨rfl,_,bV.of g⟩,?_⟩;walk_at "w";obtain ⟨dx,_,_,_,gx,_⟩:=S.same e;refine ⟨x,dx,_,rfl,gx,GB,?_⟩;walk_at "w";refine cN (bV.of g) (xi _ _) ?_;walk_at "w";refine ⟨x,q,u,H0,mv,pt,lk,_,pu,rfl,S.same e,D,F,Rq,Ru.same e,vZ ls (by lia),wp pu mp,cf.both (by lia) mp,fun r1 H2 n2 s2 R2=>?_⟩;have gn:=s2 _ _ g;walk_at "w";refine jE gn (bK (by lia)) ?_;refine ⟨Ho (e.trans s2) hl0,_,_,rfl,aK,?_⟩;rw[take_snoc (uL (by lia)),zB epu];have rl:r1≠l:=fun z=>by rw[z,g] at n2;cases n2
   exact b6 (Paired.imp' (fun _ _ z=>(yf.same z s2).upd gn) pr) (.cons ⟨r1,rfl,e.none n2,rl,R2.updL gn rl⟩ .nil)
  ·rintro σ' H' ⟨e,y,ys,rfl,g,pr⟩;walk_at "w";rw[aI (by rw[vS];lia)] at pr;exact k l H' hl0 e ⟨ys,g,Paired.imp' (fun _ _ z=>yf.rowF z) pr,zL pr⟩
theorem zG:bo ["system","steps"] ["system","steps"] (az fW):=by walk_at "d"
theorem tG (T:Txt K mg Z):cS P w K mg base gZ 2 Z.lY Z.lG ["system","steps"] (IQ K Z.a_System):=by
 refine T.my.ok zG (fun vs H Q E h=>?_) (fun cdv A outer s H vs Q E hr h=>?_)
 ·obtain ⟨x,tt,H0,mv,pt,lk,rfl,hT,S,D,k⟩:=h;rfl
 ·obtain ⟨x,tt,H0,mv,pt,lk,rfl,hT,S,D,k⟩:=h;refine ⟨_,(aB (aV (cQ ["step"] ["system"] [0] (cK rfl T.range (ae (pv 1) ai)) (fun _=>(aR (i:=0) (show List.Nodup (α:=PySem.Str) ["step","system"] by decide +kernel))) (fun _=>cP) (fun _=>(dg (lD T) hr T.i5 T.iP.kp T.kg (ae (FA K (pv 1) rfl) ai)))))),?_⟩;refine aU (σ:=[some (.ref x),some (.int tt)]) rfl ?_;obtain ⟨dx,a',b',c',gx,_,_,_,Ga,Gb,Gc⟩:=id S;have i4:=D.i4;walk_at "w";refine ⟨by lia,by lia,?_⟩;refine gC (n:=tt) (dq K H) (fun (_:Nat)=>List.replicate pt.length (0:Rat)) (by lia) (fun a b=>a.same b) ?_ ?_
  ·rintro i Hb NY NN hi sa k1;walk_at "w";refine ⟨x,Z.a_System,dx,_,_,rfl,sa _ _ gx,T.cl_System,T.na_ins,Fm,?_⟩;walk_at "w";exact ⟨pt.length,rfl,by lia,fun r H2 nr s2 R2=>k1 _ _ s2 ⟨r,rfl,sa.none nr,R2⟩⟩
  rintro ys Hz t ht sz g pr nx;have e:(List.range tt).map (fun (_:Nat)=>List.replicate pt.length (0:Rat))=List.replicate tt (List.replicate pt.length 0):=by rw[AH,cD]
  rw[e] at pr nx;exact k t Hz ht sz ⟨ys,g,pr,oU nx⟩
theorem Ex:bo ["system","start","goal","steps"] ["system","start","goal","steps"] (az oa):=by walk_at "d"
theorem EL (T:Txt K mg Z):cS P w K mg base gZ 7 Z.uQ Z.uH ["system","start","goal","steps"] (IU K Z.a_System):=by
 refine T.yj.ok Ex (fun vs H Q E h=>?_) (fun cdv A outer s H vs Q E hr h=>?_)
 ·obtain ⟨x,s,g,tt,H0,mv,pt,lk,st,go,rfl,hT,S,D,F,Rs,ls,Rg,lg,cf,sg,k⟩:=h;rfl
 ·obtain ⟨x,s,g,tt,H0,mv,pt,lk,st,go,rfl,hT,S,D,F,Rs,ls,Rg,lg,cf,sg,k⟩:=h;refine ⟨_,(aB (aV (dg (Cf T) hr T.wG T.ui.kp T.yw (ae (pv 2) (ae (bJ bZ (dg (HG T) hr T.Bf T.AB.kp T.DU (ae (pv 0) (ae (pv 1) (ae (dg (tG T) hr T.oA T.my.kp T.qe (ae (pv 0) (ae (pv 3) ai))) ai)))) (ym sS ar)) ai))))),?_⟩;refine aU (σ:=[some (.ref x),some (.ref s),some (.ref g),some (.int tt)]) rfl ?_;have d8:=D.n8;have i4:=D.i4;walk_at "w";refine ⟨x,tt,H0,mv,pt,lk,rfl,by lia,S,D,fun p1 H1 n1 s1 G1=>?_⟩;walk_at "w";refine ⟨x,s,p1,H0,H,mv,pt,lk,_,st,rfl,S.same s1,D,F,Rs.same s1,ls,G1,by rw[aF];lia,fun xs hx=>by rw[(di.mp hx).2,aF],cf,fun p2 H2 n2 s2 G2=>?_⟩;obtain ⟨us,gu,qu,_⟩:=id G2;have lu:=qu.length;rw[vS,aF] at lu;have ec:=uL (mv:=mv) (pt:=pt) (st:=st) (pus:=List.replicate tt (List.replicate pt.length 0)) (k:=tt) (by rw[aF];exact av _);have el:us[tt]?=some (us[tt]'(by lia)):=ag (by lia)
  obtain ⟨q,eq,Rq⟩:∃q,us[tt]?=some (V.ref q)/\cR K H2 q (gX mv tt st):=by
   obtain ⟨xs,ex,q,e,_,w⟩:=cH qu el;rw[ec] at ex;cases ex;rw[Eh D ls] at w;exact ⟨q,by rw[el,e],w⟩
  have ey:∃zs,us=zs++[V.ref q]:=by
   refine ⟨us.take tt,?_⟩;rw[<- take_snoc eq,aI (by lia)]
  obtain ⟨zs,rfl⟩:=ey
  have szp:∀y∈gX mv tt st,uf y:=fun y hy=>by
   have:=(cf.state (k:=tt) (by rw[aF];exact av _)).szn (x:=y);rw[Eh D ls] at this;exact this hy
  walk_at "w";refine cN (bV.of gu) (xi _ _) ?_;walk_at "w";exact ⟨g,q,go,_,rfl,(Rg.same s1).same s2,Rq,by rw[lg,qZ ls],by lia,sg,szp,fun r H3 n3 s3 R3=>k r H3 ((s1.trans s2).none n3) ((s1.trans s2).trans s3) R3⟩
theorem Nh:bo ["row","many","wide"] ["row","many","wide"] (az A7):=by walk_at "d"
theorem NU (T:Txt K mg Z):cS P w K mg base gZ 1 Z.Gi Z.FY ["row","many","wide"] (KZ K):=by
 refine T.Ky.ok Nh (fun vs H Q E h=>?_) (fun cdv A outer s H vs Q E hr h=>?_)
 ·obtain ⟨p,u,kk,w,rfl,Rw,lw,uk,u1,k1,k⟩:=h;rfl
 ·obtain ⟨p,u,kk,w,rfl,Rw,lw,uk,u1,k1,k⟩:=h;refine ⟨_,(aB (aV (cQ ["turn"] ["row","wide"] [0,2] (cK rfl T.range (ae (pv 1) ai)) (fun _=>(aR (i:=0) (show List.Nodup (α:=PySem.Str) ["turn","row","wide"] by decide +kernel))) (fun _=>cP) (fun _=>(zS (Jb K (by rfl)) (pv 1) (yV (bT dM (pv 0) (pv 2))) (yV (bT dM (bT fL (pv 0) ar) (pv 2)))))))),?_⟩;refine aU (σ:=[some (.ref p),some (.int u),some (.int kk)]) rfl ?_;obtain ⟨xs,gx,qx⟩:=id Rw;have lx:=qx.length;walk_at "w";refine ⟨by lia,by lia,?_⟩;refine gC (n:=u) (dq K H) (fun t=>(w.drop (t*kk)).take kk) (by lia) (fun a b=>a.same b) ?_ ?_
  ·rintro i Hb NY NN hi sa k2;have b1:i*kk+kk<=u*kk:=by rw[<- dr];exact aA _ hi
   walk_at "w";refine h7 (CJ (by lia) (by lia)) ?_;walk_at "w";refine h7 (FZ (by lia) (by lia)) ?_;walk_at "w";rw[show ((i:Int)*(kk:Int))=((i*kk:Nat):Int) by lia,show (((i:Int)+1)*(kk:Int))=((i*kk:Nat):Int)+(kk:Int) by rw[Int.add_mul,Int.one_mul];lia];refine ⟨p,xs,rfl,bV.of (sa _ _ gx),fun r hr=>?_⟩;rw[L6 (by lia)];have sn:=aL.new (o:=.lst ((xs.drop (i*kk)).take kk)) hr;exact k2 _ _ sn ⟨r,rfl,sa.none hr,_,aK,Paired.imp' (fun _ _ z=>(z.same sa).same sn) (tx (vb qx _) _)⟩
  rintro ys Hz t ht sz g pr nx;exact k t Hz ht sz ⟨ys,g,pr,oU nx⟩
theorem v5:bo ["system","start","goal","steps","used","rows","answer","latest_first"] ["system","start","goal","steps"] (az xK):=by walk_at "d"
theorem LP (T:Txt K mg Z):cS P w K mg base gZ 8 Z.CV Z.CH ["system","start","goal","steps"] (IY K Z.a_System):=by
 refine T.Ff.ok v5 (fun vs H Q E h=>?_) (fun cdv A outer s H vs Q E hr h=>?_)
 ·obtain ⟨x,s,g,tt,a,c,D0,W0,E0,W1,H0,mv,pt,lk,st,go,rfl,hT,S,D,SF,F,Rs,ls,Rg,lg,cf,sg,CF,k1,k2⟩:=h;rfl
 ·obtain ⟨x,s,g,tt,a,c,D0,W0,E0,W1,H0,mv,pt,lk,st,go,rfl,hT,S,D,SF,F,Rs,ls,Rg,lg,cf,sg,CF,k1,k2⟩:=h
  refine ⟨_,(au (bh (i:=4) v5.nd rfl (Or.inl rfl) (bT pX (bX bL (by rfl) T.len bH (ae (dg (zY T) hr T.tP T.qq.kp T.vw (ae (pv 0) (ae (pv 3) ai))) ai)) ar))
   (au (bh (i:=5) v5.nd rfl (Or.inl rfl) (dg (LO T) hr T.FF T.Fe.kp T.Kr (ae (dg (Ci T) hr T.wI T.uo.kp T.yy (ae (pv 0) (ae (pv 4) ai))) ai)))
   (au (bh (i:=6) v5.nd rfl (Or.inl rfl) (dg (zW T) hr T.tO T.qo.kp T.vv (ae (pv 5) (ae (fD (pv 0) rfl) (ae (dg (EL T) hr T.Ac T.yj.kp T.BA (ae (pv 0) (ae (pv 1) (ae (pv 2) (ae (pv 3) ai))))) ai)))))
   (au (cT (bc eB (bJ cO (pv 6) ar) kL (bB _)) (aB (aV (df (ae kL (ae (bJ cO (pv 6) ar) ai))))) bS)
   (au (bh (i:=7) v5.nd rfl (Or.inl rfl) (dg (NU T) hr T.JF T.Ky.kp T.MM (ae (bJ cO (pv 6) ar) (ae (pv 4) (ae (fD (pv 0) rfl) ai)))))
   (aB (aV (df (ae kL (ae (bT tF (dg (tG T) hr T.oA T.my.kp T.qe (ae (pv 0) (ae (bT pX (pv 3) (pv 4)) ai))) (zT K rfl T.list rfl T.reversed (ae (pv 7) ai))) ai)))))))))),?_⟩
  refine aU (σ:=[some (.ref x),some (.ref s),some (.ref g),some (.int tt),none,none,none,none]) rfl ?_;have d8:=D.n8;have i4:=D.i4;obtain ⟨dx,a',b',c',gx,_⟩:=id S;walk_at "w";refine ⟨x,a,c,tt,H0,mv,pt,lk,rfl,by lia,S,D,F,fun r1 Rs1 H1 n1 s1 GL Gw ln hlast=>?_⟩;obtain ⟨us,gus,pus1⟩:=id GL;have lus:=pus1.length;have rne:=Gw.ne;have lpos:0 < Rs1.length:=List.length_pos_iff.mpr rne;walk_at "w";refine ⟨_,_,rfl,.inl (bV.of gus),?_⟩;rw[<- lus];obtain ⟨u,eu⟩:∃u,Rs1.length=u+1:=⟨Rs1.length - 1,by lia⟩;rw[eu];have eL:Rs1[u]?=some (Rs1[u]'(by lia)):=ag (by lia);obtain ⟨R,eR⟩:∃R,Rs1[u]?=some R:=⟨_,eL⟩;obtain ⟨ps,RRu⟩:=Gw.rr u R eR;have ul:=Gw.len u R eR;have un:u<=mv.length:=by have:=RRu.le;have:=RRu.1;lia
  have uT:u<=tt:=by lia
  obtain ⟨psT,RRT⟩:∃ps,cu (kry mv pt tt) mv.length R ps:=by
   refine hlast R ?_ tt (by lia);rw[List.getLast?_eq_getElem?,eu];exact eR
  have CU:=Gw.cmu eR RRT;walk_at "w";rw[show ((((u+1:Nat):Int)) - 1)=(u:Int) by lia];refine ⟨x,u,a,c,H0,mv,pt,lk,rfl,un,S.same s1,D,F,fun r2 us2 H2 n2 s2 g2 p2=>?_⟩;have s02:=s1.trans s2;have kl:=oY (mv:=mv) (pt:=pt) u;have kl2:u*pt.length<=8*4:=aE (by lia) i4;walk_at "w";refine ⟨r2,us2,Ie mv pt u,rfl,g2,p2,by rw[uM];lia,fun r3 H9 H3 n3 s3 G3=>?_⟩;rw[uM] at G3;have s03:=s02.trans s3;walk_at "w";refine ⟨x,Z.a_System,dx,_,_,rfl,s03 _ _ gx,T.cl_System,T.na_states,oq,?_⟩;walk_at "w";refine ⟨x,s,g,tt,H0,mv,pt,lk,st,go,rfl,hT,S.same s03,D,SF,Rs.same s03,ls,Rg.same s03,lg,cf,sg,fun r4 H4 n4 s4 R4=>?_⟩;have s04:=s03.trans s4;have lL:=JL (T:=tt) ls lg;have wk:=fe (mv:=mv) (pt:=pt) rfl D.pw u;have tk:=CF.tk u un;have up0:∀y,Tp D0 W0 y->Tp (D0*E0) (W0*E0+W1*D0+D0*E0) y:=fun y h=>h.up E0 (by lia)
  have up1:∀y,Tp E0 W1 y->Tp (D0*E0) (W0*E0+W1*D0+D0*E0) y:=fun y h=>by
   rw[bU D0 E0];exact h.up D0 (by lia)
  have up2:∀y,y=0\/y=1->Tp (D0*E0) (W0*E0+W1*D0+D0*E0) y:=fun y h=>by
   rcases h with rfl | rfl
   ·exact Tp.zero
   ·exact ⟨((D0*E0:Nat):Int),by rw[Rat.one_mul,aM],by rw[bM];lia⟩
  obtain ⟨wa,sw1⟩:=CF.join (rows:=bC (kry mv pt u) mv.length) (due:=mW mv tt st go) (n':=(kry mv pt u).length+1) (by rw[cy];exact lL) (fun ys hy y hy'=>by
   obtain ⟨j,_,rfl⟩:=aD.mp hy;obtain ⟨zs,hz,rfl⟩:=aD.mp hy';exact up0 _ (jN (tk zs hz) j)) (fun y hy=>up1 y (CF.tl y hy)) d8 (by rw[cy];lia)
  obtain ⟨wb,sw2⟩:=CF.join (rows:=kry mv pt u++[mW mv tt st go]) (due:=List.replicate (kry mv pt u).length 0++[1]) (n':=mv.length+1) (by simp) (fun ys hy y hy'=>by
   rcases ax.mp hy with hy | hy
   ·exact up0 _ (tk ys hy y hy')
   ·rw[bW.mp hy] at hy';exact up1 _ (CF.tl y hy')) (fun y hy=>by
   rcases ax.mp hy with hy | hy
   ·exact up2 _ (.inl (di.mp hy).2)
   ·exact up2 _ (.inr (bW.mp hy))) d8 (yG _ _)
  walk_at "w";refine ⟨r3,r4,mv.length,wa,wb,H9,kry mv pt u,mW mv tt st go,rfl,G3.same s4,R4,lL,by lia,by lia,wk,sw1,sw2,⟨fun t5 x5 R5 ps5 M5 H5 RR5 hn5 g5 n5 s5 R5' M50 M51 tp5=>?_,fun t5 x5 R5 ps5 R6 ps6 M5 H5 RR5 hn5 RR6 hn6 g5 n5 s5 R5' M50 M51 tp5=>?_⟩⟩
  ·have s05:=s04.trans s5;have x50:=s04.none n5;have ew:=Gx lL RR5 hn5;have CP:Mf mv pt tt (mW mv tt st go) (zN (fH R5 ps5 (kry mv pt u).length) tt u pt.length):=⟨u,R5,ps5,CU,RR5,hn5,rfl⟩;have lw:(fH R5 ps5 (kry mv pt u).length).length=(kry mv pt u).length:=kD;obtain ⟨q,q0,q1,q2⟩:=Nf wk lL (by lia) CF.d0 CF.e0 CF.w0 CF.w1 tk CF.tl RR5 hn5;generalize fH R5 ps5 (kry mv pt u).length=ws at ew lw q2 R5' tp5 CP;have lead:=E5 D ls lg uT lw ew;have lw2:ws.length=u*pt.length:=by rw[lw,kl]
   walk_at "w";rw[decide_eq_false (show ¬(Str.ofString "in"=Str.ofString "out") by decide)];walk_at "w";refine ⟨x,Z.a_System,dx,_,_,rfl,s05 _ _ gx,T.cl_System,T.na_ins,Fm,?_⟩;walk_at "w";refine ⟨x5,u,pt.length,ws,rfl,R5',lw2,by lia,by lia,by lia,fun r6 H6 n6 s6 G6=>?_⟩;have s06:=s05.trans s6;walk_at "w";rw[show ((tt:Int) - (u:Int))=((tt - u:Nat):Int) by lia];refine ⟨x,tt - u,H0,mv,pt,lk,rfl,by lia,S.same s06,D,fun r7 H7 n7 s7 G7=>?_⟩;obtain ⟨vs,gv,qv,_⟩:=id (G6.same s7);have lv:=qv.length;have lc:(yO ws u pt.length).length=u:=by unfold yO;rw[ao,cD]
   unfold zy;walk_at "w";refine ⟨r6,vs,rfl,bV.of gv,by lia,fun r8 H8 s8 n8 g8=>?_⟩;have s67:=s7.trans s8;obtain ⟨zs,gz,qz,_⟩:=id (G7.same s8);have lz:=qz.length;rw[aF] at lz;walk_at "w";refine tq gz g8 (bp (bK (by rw[fq];lia))) fun r9 H9 s9 n9 g9=>?_
   have s09:=(s06.trans s67).trans s9;have qz0:Paired (dq K H H8) (List.replicate (tt - u) (List.replicate pt.length 0)) zs:=Paired.imp' (fun _ _ ⟨q,a,b,c⟩=>⟨q,a,s06.none b,c⟩) qz;have qv0:Paired (dq K H H8) (yO ws u pt.length).reverse vs.reverse:=vM (Paired.imp' (fun _ _ ⟨q,a,b,c⟩=>⟨q,a,s05.none b,cR.same c s8⟩) qv);have G9:bO K H H9 r9 (zN ws tt u pt.length):=⟨_,g9,Paired.imp' (fun _ _ z=>dq.same z s9) (b6 qz0 qv0),oU ⟨H8,n9,b6 qz0 qv0⟩⟩;walk_at "w";refine b9 fun t10 H10 s10 g10=>?_
   exact k1 t10 r9 _ q H10 g10 ((s06.trans s67).none n9) (s09.trans s10) (G9.same s10) (Fx uT) (My lw2) lead CP q0 q1 (LF Tp.zero q2)
  ·have s05:=s04.trans s5;have x50:=s04.none n5;have lw:(fH R6 ps6 mv.length).length=mv.length:=kD;obtain ⟨pr1,pr2⟩:=Hu wk lL RR6 hn6;obtain ⟨q,q0,q1,q2⟩:=Jr wk lL (by lia) CF.d0 CF.e0 CF.w0 tk CF.tl RR6 hn6;walk_at "w";rw[decide_eq_true rfl];walk_at "w";refine b9 fun t10 H10 s10 g10=>?_
   exact k2 t10 x5 _ q H10 g10 x50 (s05.trans s10) (R5'.same s10) lw (Hw D.pw RRu RRT lw pr2) pr1 ⟨u,R5,ps5,R6,ps6,CU,RR5,hn5,RR6,rfl⟩ q0 q1 q2
theorem xI:bo ["self"] ["self"] (az eY):=by walk_at "d"
theorem xS (T:Txt K mg Z):cS P w K mg base gZ 7 Z.jh Z.je ["self"] (Ej K Z.a_System):=by
 refine T.sJ.ok xI (fun vs H Q E h=>?_) (fun cdv A outer s H vs Q E hr h=>?_)
 ·obtain ⟨x,H0,mv,pt,lk,rfl,S,D,F,k⟩:=h;rfl
 ·obtain ⟨x,H0,mv,pt,lk,rfl,S,D,F,k⟩:=h;refine ⟨_,(aB (aV (Fz T.mk_System (oz T) (hr.mono (by decide)) rfl T.mg_System T.kh .nil Dw (ae (dg (jY T) hr T.ia T.gE.kp T.ja (ae (fD (pv 0) rfl) (ae (fD (pv 0) rfl) ai))) (ae (fD (pv 0) rfl) (ae (fD (pv 0) rfl) ai)))))),?_⟩;refine aU (σ:=[some (.ref x)]) rfl ?_;obtain ⟨dx,a,b,c,gx,n1,n2,n3,Ga,Gb,Gc⟩:=id S;have d1:=D.n8;walk_at "w";refine ⟨x,Z.a_System,dx,_,_,rfl,gx,T.cl_System,T.na_move,zA,?_⟩;walk_at "w";refine ⟨x,Z.a_System,dx,_,_,rfl,gx,T.cl_System,T.na_states,oq,?_⟩;walk_at "w";refine ⟨a,mv.length,H0,mv,rfl,Ga,by lia,by lia,D.mw,fun t H1 nt s1 Gt=>?_⟩;have gx1:=s1 _ _ gx;walk_at "w";refine ⟨x,Z.a_System,dx,_,_,rfl,gx1,T.cl_System,T.na_look,IG,?_⟩;walk_at "w";refine ⟨x,Z.a_System,dx,_,_,rfl,gx1,T.cl_System,T.na_put,yT,?_⟩;walk_at "w";intro x' dx' nx ndx nex;have F':=F.turn;exact ⟨x',dx',t,c,b,H1,H,H0,H0,_,_,_,rfl,nx,ndx,nex,rfl,Gt,Gc.same s1,Gb.same s1,D.turn,F'.ok.1,F'.ok.2.1,F'.ok.2.2,fun H' s' S'=>⟨rfl,k x' H' (s1.none nx) (s1.trans s') (S'.weak s1)⟩⟩
theorem zD:bo ["system","asked","steps","answer"] ["system","asked","steps"] (az nX):=by walk_at "d"
theorem EJ (T:Txt K mg Z):cS P w K mg base gZ 9 Z.uN Z.uE ["system","asked","steps"] (IL K Z.a_System):=by
 refine T.yh.ok zD (fun vs H Q E h=>?_) (fun cdv A outer s H vs Q E hr h=>?_)
 ·obtain ⟨x,g,tt,a,c,D0,W0,E0,W1,H0,mv,pt,lk,go,rfl,hT,S,D,F,KF,Rg,lg,szg,CF,k1,k2⟩:=h;rfl
 ·obtain ⟨x,g,tt,a,c,D0,W0,E0,W1,H0,mv,pt,lk,go,rfl,hT,S,D,F,KF,Rg,lg,szg,CF,k1,k2⟩:=h
  refine ⟨_,(au (bh (i:=3) zD.nd rfl (Or.inl rfl) (dg (LP T) hr T.FG T.Ff.kp T.Ks (ae (Jt (pv 0) T.cl_System T.qI (xS T) (hr.mono (by decide)) T.sH .nil Dw) (ae (dg (lD T) hr T.i5 T.iP.kp T.kg (ae (fD (pv 0) rfl) ai)) (ae (pv 1) (ae (pv 2) ai))))))
   (au (cT (bc eB (bJ cO (pv 3) ar) kL (bB _)) (aB (aV (df (ae kL (ae (bJ cO (pv 3) ar) ai))))) bS)
   (aB (aV (df (ae kL (ae (zT K rfl T.list rfl T.reversed (ae (bJ cO (pv 3) ar) ai)) ai))))))),?_⟩
  refine aU (σ:=[some (.ref x),some (.ref g),some (.int tt),none]) rfl ?_;have d8:=D.n8;have et:(bC mv mv.length).length=mv.length:=cy;have lgt:go.length=(bC mv mv.length).length:=by rw[et];exact lg
  have L0:=Pj (T:=tt) D.turn.mw lgt;obtain ⟨dx,a',b',c',gx,_⟩:=id S;walk_at "w";refine ⟨x,dx,_,rfl,gx,Eg,?_⟩;walk_at "w";refine ⟨x,H0,mv,pt,lk,rfl,S,D,F.sf,fun y H1 ny s1 S1=>?_⟩;walk_at "w";refine ⟨x,Z.a_System,dx,_,_,rfl,s1 _ _ gx,T.cl_System,T.na_states,oq,?_⟩;walk_at "w";refine ⟨mv.length,rfl,by lia,fun z H2 nz s2 Rz=>?_⟩;have s02:=s1.trans s2;have cf:=cf0 (T:=tt) D.turn;rw[<- et] at Rz;walk_at "w";refine ⟨y,z,g,tt,a,c,D0,W0,E0,W1,H,bC mv mv.length,lk,pt,_,go,rfl,hT,S1.same s2,D.turn,F.turn,KF,Rz,by rw[aF],Rg.same s02,lgt,cf,szg,by rw[L0];exact CF,⟨fun t3 p3 pus q3 H3 g3 n3 s3 G3 l3 w3 st3 cp3 q0 q1 q2=>?_,fun t3 p3 pr q3 H3 g3 n3 s3 R3 l3 w3 d3 cp3 q0 q1 q2=>?_⟩⟩
  ·have s03:=s02.trans s3;obtain ⟨vs,gv,qv,nv⟩:=id G3;have lv:=qv.length;walk_at "w";rw[decide_eq_false (show ¬(Str.ofString "puts"=Str.ofString "never") by decide)];unfold zy;walk_at "w";refine ⟨p3,vs,rfl,bV.of gv,by lia,fun r4 H4 s4 n4 g4=>?_⟩;have qr:Paired (dq K H H3) pus.reverse vs.reverse:=vM (Paired.imp' (fun _ _ ⟨q,a,b,c⟩=>⟨q,a,s02.none b,c⟩) qv);have G4:bO K H H4 r4 pus.reverse:=⟨_,g4,Paired.imp' (fun _ _ z=>dq.same z s4) qr,oU ⟨H3,n4,qr⟩⟩;walk_at "w";refine b9 fun t5 H5 s5 g5=>?_
   rw[et] at st3 q1 q2;rw[L0] at cp3;exact k1 t5 r4 pus.reverse q3 H5 g5 (s03.none n4) ((s03.trans s4).trans s5) (G4.same s5) (by rw[fq];exact l3) (fun xs hx=>w3 xs (iW.mp hx)) (by rw[gV];exact st3) (by rw[gV];exact cp3) q0 q1 (fun xs hx=>q2 xs (iW.mp hx))
  ·have s03:=s02.trans s3;walk_at "w";rw[decide_eq_true rfl];walk_at "w";refine b9 fun t5 H5 s5 g5=>?_
   rw[L0] at d3 cp3;rw[et] at l3 q1 q2;exact k2 t5 p3 pr q3 H5 g5 (s02.none n3) (s03.trans s5) (R3.same s5) l3 w3 d3 cp3 q0 q1 q2
theorem oQ:bo ["_law_thing","_law_part"] ["_law_thing"] (az eN):=by walk_at "d"
theorem wF (T:Txt K mg Z):cS P w K mg base gZ 2 Z.iN Z.iH ["_law_thing"] (GU K):=by
 refine T.lh.ok oQ (fun vs H Q E h=>?_) (fun cdv A outer s H vs Q E hr h=>?_)
 ·obtain ⟨x,n,rfl,⟨p,rfl,hp⟩,hn,k⟩:=h;rfl
 ·obtain ⟨x,n,rfl,⟨p,rfl,hp⟩,hn,k⟩:=h
  refine ⟨_,(au (cT (PW.pt (mV (kK (jW (yW rfl T.isinstance PyProof.Rows.boot_tuple T.tuple (pv 0)))) (jm (bc wA (bX bL (by rfl) T.len bH (ae (pv 0) ai)) ar (bB _))))) (aB (aV yn)) bS)
   (au (eT PassesOwn.never rfl (NP (pv 0)) (aR (i:=1) oQ.nd)
    (aB (cT (PW.pt (mV (kK (jW (yW rfl T.isinstance PyProof.Rows.boot_int T.int (pv 1)))) (jm (jW (yW rfl T.isinstance PyProof.Rows.boot_bool T.bool (pv 1)))))) (aB (aV yn)) bS)))
   (aB (aV (EH (lC tE (bJ cO (pv 0) ar) ar (bB _)) (EF (lC (NS (EV hr)) (dg (mK T) hr T.jH T.js.kp T.kU (ae (bJ cO (pv 0) ar) (ae (bJ cO (pv 0) ar) ai))) (pv 0) (bB _)))))))),?_⟩
  refine aU (σ:=[some (.ref p),none]) rfl ?_;obtain ⟨hb,hg,_,hs⟩:=hn;walk_at "w";refine .inr ⟨p,_,_,rfl,hp,rfl,?_⟩;walk_at "w";refine ⟨_,_,rfl,.inr hp,?_⟩;walk_at "w"
  try refine HQ ?_
  walk_at "w";refine ⟨⟨_,hp⟩,?_⟩;refine LV (K:=K) (a:=p) (xs:=[.int n.1,.int n.2]) (fun i σ' H'=>H'=H/\∃x,σ'=[some (.ref p),x]) ⟨rfl,none,rfl⟩ (fun i σ' H' _ ⟨e,_⟩=>by subst e;exact hp) ?_ ?_
  ·rintro i x σ' H' hx ⟨rfl,y,rfl⟩
   obtain ⟨z,rfl⟩:∃z,x=V.int z:=by
    have hm:x∈[V.int n.1,V.int n.2]:=ay hx;simp only[aG,aZ,or_false] at hm;rcases hm with e | e
    ·exact ⟨_,e⟩
    ·exact ⟨_,e⟩
   walk_at "w";refine .inl ⟨_,_,.int z,rfl,?_⟩;walk_at "w";refine .inl ⟨_,_,.int z,rfl,?_⟩;walk_at "w";exact ⟨rfl,_,rfl⟩
  ·rintro σ' H' ⟨rfl,x,rfl⟩;walk_at "w";rw[decide_eq_true hb];walk_at "w";refine ⟨n.1,n.2,rfl,hb,hs.mono (by decide),fun r H' s1 h'=>?_⟩;obtain ⟨e1,e2⟩:=NZ hb hg;walk_at "w";refine ⟨_,_,Pl,(lo n.1 n.2,hi n.1 n.2),n,by decide,⟨r,rfl,oI.of h'⟩,⟨p,rfl,s1.sqt hp⟩,?_⟩;rw[e1,e2,decide_eq_true rfl];exact k _ s1
theorem zI:bo ["_law_thing","_law_many"] ["_law_thing","_law_many"] (az gA):=by walk_at "d"
theorem tK (T:Txt K mg Z):cS P w K mg base gZ 3 Z.mh Z.lO ["_law_thing","_law_many"] (A5 K):=by
 refine T.mD.ok zI (fun vs H Q E h=>?_) (fun cdv A outer s H vs Q E hr h=>?_)
 ·obtain ⟨p,ns,rfl,hp,hl,hn,k⟩:=h;rfl
 ·obtain ⟨p,ns,rfl,hp,hl,hn,k⟩:=h
  refine ⟨_,(au (cT (PW.pt (mV (kK (jW (vK rfl T.isinstance PyProof.Rows.boot_list T.list (pv 0)))) (jm (bc wA (bX bL (by rfl) T.len bH (ae (pv 0) ai)) (pv 1) (bB _))))) (aB (aV yn)) bS)
   (aB (aV (bX (Au rfl) (by rfl) T.all PyProof.Rows.boot_all (ae (cQ ["_law_one"] [] [] (cZ (pv 0)) (fun _=>(aR (i:=0) (show List.Nodup (α:=PySem.Str) ["_law_one"] by decide +kernel))) (fun _=>cP) (fun _=>(dg (wF T) hr T.oW T.lh.kp T.qP (ae (pv 0) ai)))) ai))))),?_⟩
  refine aU (σ:=[some (.ref p),some (.int ns.length)]) rfl ?_;obtain ⟨xs,gx,qx⟩:=id hp;have lx:=qx.length;walk_at "w";refine ⟨_,_,.lst gx,rfl,?_⟩;walk_at "w";refine ⟨_,_,rfl,.inl (bV.of gx),?_⟩;walk_at "w";rw[show ((xs.length:Nat):Int)=(ns.length:Nat) by rw[lx],decide_eq_true rfl];walk_at "w";refine ⟨⟨_,bV.of gx⟩,?_⟩;refine fE (K:=K) (xs:=xs) (fun i ys H'=>aL H H'/\ys=List.replicate i (.bl true)) (bp (bK (by lia))) ⟨aL.refl _,rfl⟩ (fun i ys H' _ ⟨s,_⟩=>bV.of (s _ _ gx)) ?_ ?_
  ·rintro i x ys H' hx hlen ⟨s,rfl⟩;obtain ⟨n,en,z⟩:=cH qx hx;walk_at "w";exact ⟨x,n,rfl,s.num z,hn n (ay en),fun H2 s2=>⟨s.trans s2,by rw[BG]⟩⟩
  ·rintro ys H' hy ⟨s,rfl⟩ l hl';walk_at "w";refine ⟨l,List.replicate xs.length true,rfl,bV.of (by rw[aK];simp),?_⟩;have e4:(List.replicate xs.length true).all id=true:=by simp
   rw[e4];exact k _ (s.trans (aL.new hl'))
theorem yK:bo ["_law_thing","_law_many","_law_wide"] ["_law_thing","_law_many","_law_wide"] (az fA):=by walk_at "d"
theorem yL (T:Txt K mg Z):cS P w K mg base gZ 4 Z.ki Z.ka ["_law_thing","_law_many","_law_wide"] (Ep K):=by
 refine T.oK.ok yK (fun vs H Q E h=>?_) (fun cdv A outer s H vs Q E hr h=>?_)
 ·obtain ⟨p,rows,m,rfl,hp,hl,hm,hn,k⟩:=h;rfl
 ·obtain ⟨p,rows,m,rfl,hp,hl,hm,hn,k⟩:=h
  refine ⟨_,(au (cT (PW.pt (mV (kK (jW (vK rfl T.isinstance PyProof.Rows.boot_list T.list (pv 0)))) (jm (bc wA (bX bL (by rfl) T.len bH (ae (pv 0) ai)) (pv 1) (bB _))))) (aB (aV yn)) bS)
   (aB (aV (bX (Au rfl) (by rfl) T.all PyProof.Rows.boot_all (ae (cQ ["_law_row_here"] ["_law_wide"] [2] (cZ (pv 0)) (fun _=>(aR (i:=0) (show List.Nodup (α:=PySem.Str) ["_law_row_here","_law_wide"] by decide +kernel))) (fun _=>cP) (fun _=>(dg (tK T) hr T.oF T.mD.kp T.qi (ae (pv 0) (ae (pv 1) ai))))) ai))))),?_⟩
  refine aU (σ:=[some (.ref p),some (.int rows.length),some (.int m)]) rfl ?_;obtain ⟨xs,gx,qx⟩:=id hp;have lx:=qx.length;walk_at "w";refine ⟨_,_,.lst gx,rfl,?_⟩;walk_at "w";refine ⟨_,_,rfl,.inl (bV.of gx),?_⟩;walk_at "w";rw[show ((xs.length:Nat):Int)=(rows.length:Nat) by rw[lx],decide_eq_true rfl];walk_at "w";refine ⟨⟨_,bV.of gx⟩,?_⟩;refine fE (K:=K) (xs:=xs) (fun i ys H'=>aL H H'/\ys=List.replicate i (.bl true)) (bp (bK (by lia))) ⟨aL.refl _,rfl⟩ (fun i ys H' _ ⟨s,_⟩=>bV.of (s _ _ gx)) ?_ ?_
  ·rintro i x ys H' hx hlen ⟨s,rfl⟩;obtain ⟨ns,en,q,rfl,z⟩:=cH qx hx;obtain ⟨e1,e2⟩:=hn ns (ay en);walk_at "w";exact ⟨q,ns,by rw[e1],z.same s,by lia,e2,fun H2 s2=>⟨s.trans s2,by rw[BG]⟩⟩
  ·rintro ys H' hy ⟨s,rfl⟩ l hl';walk_at "w";refine ⟨l,List.replicate xs.length true,rfl,bV.of (by rw[aK];simp),?_⟩;have e4:(List.replicate xs.length true).all id=true:=by simp
   rw[e4];exact k _ (s.trans (aL.new hl'))
theorem qY:bo ["_law_grid","_law_found","_law_row_here"] ["_law_grid"] (az jD):=by walk_at "d"
theorem Cm (T:Txt K mg Z):cS P w K mg base gZ 1 Z.pR Z.pA ["_law_grid"] (IV K):=by
 refine T.uu.ok qY (fun vs H Q E h=>?_) (fun cdv A outer s H vs Q E hr h=>?_)
 ·obtain ⟨p,H0,rows,c,rfl,G,r100,c100,hw,k⟩:=h;rfl
 ·obtain ⟨p,H0,rows,c,rfl,G,r100,c100,hw,k⟩:=h
  refine ⟨_,(au (bh (i:=1) qY.nd rfl (Or.inl rfl) (dX ai))
   (au (eT PassesOwn.never rfl (cZ (pv 0)) (aR (i:=2) qY.nd)
    (aB (iC (va cI xy xx xT (pv 1) (ae (pv 2) ai)))))
   (aB (aV (pv 1))))),?_⟩
  refine aU (σ:=[some (.ref p),none,none]) rfl ?_;obtain ⟨rs,grs,qrs,_⟩:=id G;have lrs:=qrs.length;walk_at "w";refine dz fun fd H1 s1 nf gf=>?_
  walk_at "w";refine ⟨⟨_,bV.of (s1 _ _ grs)⟩,?_⟩;refine i8 (K:=K) (a:=p) (xs:=rs) (fun j σ' H'=>aL H H'/\∃y us,σ'=[some (.ref p),some (.ref fd),y]/\H' fd=some (.lst us)/\Paired (cB K H') (rows.take j).flatten us) ⟨s1,_,[],rfl,gf,.nil⟩ (fun j σ' H' _ ⟨s,_⟩=>bV.of (s _ _ grs)) ?_ ?_
  ·rintro j v σ' H2 hv ⟨s2,y,us,rfl,gu,pu⟩;obtain ⟨xs,ex,q,rfl,_,zs,gz,qz⟩:=cH qrs hv;have lz:=qz.length;have lu:=pu.length;have wx:=hw xs (ay ex);have hj:j < rows.length:=(aH.mp ex).1;have lf:(rows.take j).flatten.length=(rows.take j).length*c:=tT fun ys hy=>hw ys (cC hy)
   rw[dn] at lf;have lb:min j rows.length*c<=100*100:=aE (by lia) c100;have qf:q≠fd:=fun z=>by have:=s1.none (l:=fd);rw[z] at gz;rw[nf] at gz;cases gz
   walk_at "w";refine ⟨.inl ⟨rfl,_,bV.of gu⟩,?_⟩;walk_at "w";refine ⟨fd,q,us,zs,rfl,rfl,gu,s2 _ _ gz,?_,?_⟩
   ·have:(10100:Nat)<=sizeLine:=by rw[sizeLine_eq];decide
    lia
   refine ⟨s2.after nf,_,us++zs,rfl,aK,?_⟩;rw[take_snoc ex,fu,show [xs].flatten=xs by simp];exact b6 (Paired.imp' (fun _ _ z=>z.updL gu) pu) (Paired.imp' (fun _ _ z=>(z.same s2).updL gu) qz)
  ·rintro σ' H2 ⟨s2,y,us,rfl,gu,pu⟩;rw[aI (by lia)] at pu;walk_at "w";exact k fd H2 nf s2 ⟨us,gu,pu⟩
theorem dR:bo ["_law_system_here","_law_rows","_law_asked","_law_steps_here","_law_n","_law_handed","_law_told","_law_word","_law_found","_law_kept","_law_row_here"] ["_law_system_here","_law_rows","_law_asked","_law_steps_here","_law_n"] (az ir):=by walk_at "d"
theorem vf (T:Txt K mg Z):cS P w K mg base gZ 10 Z.nK Z.nk ["_law_system_here","_law_rows","_law_asked","_law_steps_here","_law_n"] (En K Z.a_System):=by
 refine T.nQ.ok dR (fun vs H Q E h=>?_) (fun cdv A outer s H vs Q E hr h=>?_)
 ·obtain ⟨x,rw,g,tt,a,c,D0,W0,E0,W1,M,d,j,e,γ,χ,y,v,H0,H1,mv,pt,lk,go,rfl,t12,S,D,F,Gr,Rg,lg,R5,k⟩:=h;rfl
 ·obtain ⟨x,rw,g,tt,a,c,D0,W0,E0,W1,M,d,j,e,γ,χ,y,v,H0,H1,mv,pt,lk,go,rfl,t12,S,D,F,Gr,Rg,lg,R5,k⟩:=h
  refine ⟨_,(au (bh (i:=5) dR.nd rfl (Or.inl rfl) (e8 ke (by rfl) T.list PyProof.Rows.boot_list (ae (pv 2) ai)))
   (au (bh (i:=6) dR.nd rfl (Or.inl rfl) (dg (EJ T) hr T.z9 T.yh.kp T.Bx (ae (pv 0) (ae (pv 5) (ae (pv 3) ai)))))
   (au (cT (PW.pt (mV (bc (zV (EV hr)) (pv 5) (pv 2) (bB _)) (mV (kK (jW (vK rfl T.isinstance PyProof.Rows.boot_tuple T.tuple (pv 6)))) (jm (bc wA (bX bL (by rfl) T.len bH (ae (pv 6) ai)) ar (bB _)))))) (aB (aV kM)) bS)
   (au (eV (pv 6) (tu rfl (cA (aR (i:=7) dR.nd) (cA (aR (i:=8) dR.nd) iD))))
   (au (cT (bc eB (pv 7) kL (bB _)) (au (cT (PW.pt (mV (kK (jW (dg (yL T) hr T.sF T.oK.kp T.uc (ae (pv 8) (ae (pv 3) (ae (fD (pv 0) rfl) ai)))))) (jm (bc (zV (EV hr)) (dg (tH T) hr T.oC T.mB.kp T.qg (ae (dg (Cm T) hr T.wL T.uu.kp T.yB (ae (pv 8) ai)) (ae (pv 1) (ae (pv 4) ai)))) (pv 2) (bB _))))) (aB (aV kM)) bS)
   (au (bh (i:=9) dR.nd rfl (Or.inl rfl) (df (ae (pv 7) (ae (dg (j5 T) hr T.ib T.gF.kp T.jb (ae (pv 8) ai)) ai))))
   (aB (eT PassesOwn.never rfl (cZ (pv 8)) (aR (i:=10) dR.nd)
    (aB (iC (va cI dI dH kO (pv 10) (ae kM ai)))))))) (aB (cT (bc eB (pv 7) kL (bB _)) (au (cT (PW.pt (mV (kK (jW (dg (tK T) hr T.oF T.mD.kp T.qi (ae (pv 8) (ae (pv 4) ai))))) (jm (bc (zV (EV hr)) (dg (tL T) hr T.oX T.oM.kp T.rP (ae (pv 2) (ae (pv 8) ai))) (df (ae ar (ae ar ai))) (bB _))))) (aB (aV kM)) bS)
   (au (eT PassesOwn.never rfl (cZ (pv 1)) (aR (i:=10) dR.nd)
    (aB (cT (bc (zV (EV hr)) (dg (tL T) hr T.oX T.oM.kp T.rP (ae (pv 10) (ae (pv 8) ai))) (df (ae ar (ae ar ai))) (bB _)) (aB (aV kM)) bS)))
   (aB (bh (i:=9) dR.nd rfl (Or.inl rfl) (df (ae (pv 7) (ae (e8 ke (by rfl) T.list PyProof.Rows.boot_list (ae (pv 8) ai)) ai))))))) (aB (aV kM)))))
   (au (iC (va cI dI dH kO (pv 8) (ae kM ai)))
   (aB (aV (pv 9))))))))),?_⟩
  refine aU (σ:=[some (.ref x),some (.ref rw),some (.ref g),some (.int tt),some (.int mv.length),none,none,none,none,none,none]) rfl ?_;have d8:=D.n8;have o4:=D.o4;have et:(bC mv mv.length).length=mv.length:=cy;obtain ⟨dx,a',b',c',gx,_⟩:=id S;obtain ⟨zs,gz,qz⟩:=id Rg;have lz:=qz.length;walk_at "w";refine ⟨g,zs,rfl,.inl (bV.of gz),fun hd nh=>?_⟩;have s1:aL H (upd H hd (.lst zs)):=aL.new nh;have Rh:cR K (upd H hd (.lst zs)) hd go:=⟨zs,aK,Paired.imp' (fun _ _ z=>cB.same z s1) qz⟩;generalize upd H hd (.lst zs)=H2 at s1 Rh ⊢;walk_at "w";refine ⟨x,hd,tt,a,c,D0,W0,E0,W1,H0,mv,pt,lk,go,rfl,by lia,S.same s1,D,F,R5.kf,Rh,lg,R5.goS,R5.co,⟨fun td fd ws q H3 gt nf s3 Gf lw ww st3 cp q0 q1 q2=>?_,fun td fd pr q H3 gt nf s3 Rf lp kp dp cn q0 q1 q2=>?_⟩⟩
  ·have s03:=s1.trans s3;walk_at "w";refine ⟨_,_,Bi,_,_,by decide,(Rh.same s3).kind,(Rg.same s03).kind,?_⟩;rw[decide_eq_true rfl];walk_at "w";refine Ji (.tup gt) (.inr (.inr (.inr rfl))) ?_;rw[show tyB "tuple" (.ref td) H3=true by unfold tyB;dsimp only;rw[gt];rfl];walk_at "w";refine ⟨_,_,rfl,.inr (oI.of gt),?_⟩;walk_at "w"
   try refine HQ ?_
   walk_at "w";rw[decide_eq_true rfl];walk_at "w";refine ⟨x,Z.a_System,dx,_,_,rfl,s03 _ _ gx,T.cl_System,T.na_outs,IE,?_⟩;walk_at "w";obtain ⟨tw,sw,Eq0,b1,b2⟩:=R5.wsT q0 (by rw[et];exact q1) et.symm q2;obtain ⟨us,gu,qu,nu⟩:=id Gf;have lu:=qu.length;refine ⟨fd,ws.map (List.map nm),lk.length,by rw[ao,lw],Gf.gridK,by rw[ao];lia,by lia,fun ns hn=>?_,fun H4 s4=>?_⟩
   ·obtain ⟨xs,hx,rfl⟩:=aD.mp hn;exact ⟨by rw[ao];exact ww xs hx,fun n hn=>by obtain ⟨z,hz,rfl⟩:=aD.mp hn;exact IC (sw xs hx z hz)⟩
   have s04:=s03.trans s4;walk_at "w";refine ⟨fd,H2,ws,lk.length,rfl,Gf.same s4,by lia,by lia,ww,fun fl H5 nfl s5 Rl=>?_⟩;have s05:=s04.trans s5;have kl:=oY (mv:=bC mv mv.length) (pt:=lk) tt;have kb:tt*lk.length<=12*4:=aE t12 o4;have wk:=fe (mv:=bC mv mv.length) rfl D.turn.pw tt;walk_at "w";refine ⟨_,_,_,rfl,rw,fl,mv.length,M,E0*q,2^(j+d),2^(v+χ),H1,kry (bC mv mv.length) lk tt,ws.flatten,rfl,Gr.same s05,Rl,by rw[tT ww,kl,lw],by lia,by lia,fun xs hx=>by rw[wk xs hx,et],R5.m0,Eq0,R5.rowT,tw,cE,cE,b1,b2,fun sm H6 nsm s6 Rs=>?_⟩;have ew:=OH D.turn lw ww;rw[et,st3] at ew;rw[ew] at Rs;have s06:=s05.trans s6;have s36:=(s4.trans s5).trans s6;walk_at "w";refine ⟨_,_,Bi,_,_,by decide,Rs.kind,(Rg.same s06).kind,?_⟩;rw[decide_eq_true rfl];walk_at "w";refine ⟨fd,H2,ws,rfl,Gf.same s36,by lia,fun xs hx=>by have:=ww xs hx;lia,fun cp' H7 ncp s7 G7=>?_⟩;walk_at "w";refine b9 fun kt H8 s8 g8=>?_
   have s68:=s7.trans s8;have s08:=s06.trans s68;have s38:=s36.trans s68;have G8:=G7.same s8;have nfd:H fd=none:=s1.none nf;walk_at "w";refine ⟨⟨_,bV.of (s38 _ _ gu)⟩,?_⟩;refine i8 (K:=K) (a:=fd) (xs:=us) (fun i σ' H'=>aL H H'/\H' fd=some (.lst us)/\H' kt=some (.tup [.str (Str.ofString "from"),.ref cp'])/\bO K H6 H' cp' ws/\(∀y∈us,∃q zs,y=V.ref q/\H q=none/\H6 q≠none/\q≠fd/\H' q=some (.lst zs)/\zs.length<=20+i)/\∃y1,σ'=[some (.ref x),some (.ref rw),some (.ref g),some (.int tt),some (.int mv.length),some (.ref hd),some (.ref td),some (.str (Str.ofString "from")),some (.ref fd),some (.ref kt),y1]) ⟨s08,s38 _ _ gu,g8,G8,fun y hy=>?_,_,rfl⟩ (fun i σ' H' _ ⟨_,g,_⟩=>bV.of g) ?_ ?_
   ·obtain ⟨xs,mx,q',rfl,nq,zs',gz',qz'⟩:=dF qu hy;have:=qz'.length;have:=ww xs mx;exact ⟨q',zs',rfl,s1.none nq,by rw[s36 _ _ gz'];exact (fun z=>nomatch z),fun z=>nu (by rw[<- z];exact hy),s38 _ _ gz',by lia⟩
   ·rintro i v' σ' H9 hv ⟨s9,g9,k9,G9,hq,y1,rfl⟩;have hi:i < us.length:=(aH.mp hv).1;obtain ⟨q',zs',rfl,nq,nq6,qt,gq,lz'⟩:=hq v' (ay hv);walk_at "w";refine ⟨.inl ⟨rfl,_,bV.of gq⟩,?_⟩;walk_at "w";refine jE gq (bK (by lia)) ?_;refine ⟨s9.after nq,by rw[bu (Ne.symm qt)];exact g9,by rw[bu fun z=>by rw[z,gq] at k9;cases k9];exact k9,G9.updL gq nq6 (fun z=>nq6 (by rw[<- z];exact ncp)),fun y hy=>?_,_,rfl⟩;obtain ⟨q2,zs2,rfl,nq2,nq62,qt2,gq2,lz2⟩:=hq y hy;by_cases z:q2=q'
    ·exact ⟨q2,zs'++[.non],rfl,nq2,nq62,qt2,by rw[z,aK],by rw[aw,bI];lia⟩
    ·exact ⟨q2,zs2,rfl,nq2,nq62,qt2,by rw[bu z];exact gq2,by lia⟩
   ·rintro σ' H9 ⟨s9,g9,k9,G9,_,y1,rfl⟩;have nf6:H6 fd≠none:=by rw[s36 _ _ gu];exact fun z=>nomatch z
    walk_at "w";refine ⟨.inl ⟨rfl,_,bV.of g9⟩,?_⟩;walk_at "w";refine jE g9 (bK (by lia)) ?_;walk_at "w";exact k kt _ (s9.after nfd) (.inl ⟨cp',ws,by rw[bu fun z=>by rw[z,g9] at k9;cases k9];exact k9,(G9.updL g9 nf6 (fun z=>nf6 (by rw[<- z];exact ncp))).weakN fun q h=>s06.none h,cp⟩)
  ·have s03:=s1.trans s3;walk_at "w";refine ⟨_,_,Bi,_,_,by decide,(Rh.same s3).kind,(Rg.same s03).kind,?_⟩;rw[decide_eq_true rfl];walk_at "w";refine Ji (.tup gt) (.inr (.inr (.inr rfl))) ?_;rw[show tyB "tuple" (.ref td) H3=true by unfold tyB;dsimp only;rw[gt];rfl];walk_at "w";refine ⟨_,_,rfl,.inr (oI.of gt),?_⟩;walk_at "w"
   try refine HQ ?_
   walk_at "w";rw[decide_eq_false (show ¬(Str.ofString "alike"=Str.ofString "from") by decide)];walk_at "w";rw[decide_eq_true rfl];walk_at "w";obtain ⟨szp,f1,f2⟩:=R5.prF q0 et.symm q1 q2;refine ⟨fd,pr.map nm,by rw[ao,lp],Rf.rowK,by rw[ao];lia,fun n hn=>by obtain ⟨z,hz,rfl⟩:=aD.mp hn;exact IC (szp z hz),fun H4 s4=>?_⟩;have s04:=s03.trans s4;walk_at "w";refine ⟨g,fd,go,pr,rfl,Rg.same s04,Rf.same s4,by lia,by lia,f1,fun r5 H5 s5 n5=>?_⟩;rw[HY,dp] at n5;walk_at "w";refine b9 fun t6 H6 s6 g6=>?_
   have s46:=s5.trans s6;have s06:=s04.trans s46;have s36:=s4.trans s46;walk_at "w";refine ⟨_,_,JP,1,1,by decide,n5.same s6,cB.mk (q:=1) g6 rfl,?_⟩;rw[decide_eq_true rfl];obtain ⟨rs,grs,qrs,_⟩:=id Gr;have wk:=fe (mv:=bC mv mv.length) rfl D.turn.pw tt;walk_at "w";refine ⟨⟨_,bV.of (s06 _ _ grs)⟩,?_⟩;refine i8 (K:=K) (a:=rw) (xs:=rs) (fun i σ' H'=>aL H6 H'/\∃y1,σ'=[some (.ref x),some (.ref rw),some (.ref g),some (.int tt),some (.int mv.length),some (.ref hd),some (.ref td),some (.str (Str.ofString "alike")),some (.ref fd),none,y1]) ⟨aL.refl _,_,rfl⟩ (fun i σ' H' _ ⟨s,_⟩=>bV.of (s _ _ (s06 _ _ grs))) ?_ ?_
   ·rintro i v' σ' H7 hv ⟨s7,y1,rfl⟩;obtain ⟨one,eo,u,rfl,_,Ru⟩:=cH qrs hv;have mo:=ay eo;have wo:=wk one mo;have s07:=s06.trans s7;walk_at "w";refine ⟨u,fd,one,pr,rfl,Ru.same s07,Rf.same (s36.trans s7),by lia,by lia,f2 one mo,fun r8 H8 s8 n8=>?_⟩;rw[kp one mo] at n8;walk_at "w";refine b9 fun t9 H9 s9 g9=>?_
    walk_at "w";refine ⟨_,_,JP,0,0,by decide,n8.same s9,cB.mk (q:=0) g9 rfl,?_⟩;rw[decide_eq_true rfl];walk_at "w";exact ⟨(s7.trans s8).trans s9,_,rfl⟩
   ·rintro σ' H7 ⟨s7,y1,rfl⟩;obtain ⟨fs,gf,qf⟩:=Rf.same (s36.trans s7);have lf:=qf.length;have nfd:H fd=none:=s1.none nf;walk_at "w";refine ⟨fd,fs,rfl,.inl (bV.of gf),fun cl ncl=>?_⟩;have s8:aL H7 (upd H7 cl (.lst fs)):=aL.new ncl;have R8:cR K (upd H7 cl (.lst fs)) cl pr:=⟨fs,aK,Paired.imp' (fun _ _ z=>cB.same z s8) qf⟩;generalize upd H7 cl (.lst fs)=H8 at s8 R8 ⊢;walk_at "w";refine b9 fun kt H9 s9 g9=>?_
    have gf9:=s9 _ _ (s8 _ _ gf);obtain ⟨cs,gc,qc⟩:=R8.same s9;have cf:cl≠fd:=fun z=>by rw[z,gf] at ncl;cases ncl
    walk_at "w";refine ⟨.inl ⟨rfl,_,bV.of gf9⟩,?_⟩;walk_at "w";refine jE gf9 (bK (by lia)) ?_;walk_at "w";exact k kt _ ((((s06.trans s7).trans s8).trans s9).after nfd) (.inr ⟨cl,pr,by rw[bu fun z=>by rw[z,gf9] at g9;cases g9];exact g9,⟨cs,by rw[bu cf];exact gc,Paired.imp' (fun _ _ z=>z.updL gf9) qc⟩,cn⟩)
theorem pW:bo ["_law_script","_law_bag_here","_law_parts_here","_law_wide","_law_system_here","_law_n","_law_steps_here","_law_rows","_law_asked","_law_told"] ["_law_script"] (az A6):=by walk_at "d"
theorem NT (T:Txt K mg Z):cS P w K mg base gZ 11 Z.Kv Z.Kj ["_law_script"] (BS K):=by
 refine T.MR.ok pW (fun vs H Q E h=>?_) (fun cdv A outer s H vs Q E hr h=>?_)
 ·obtain ⟨a,ns,rfl,hS,hlen,k⟩:=h;rfl
 ·obtain ⟨a,ns,rfl,hS,hlen,k⟩:=h
  refine ⟨_,(au (bh (i:=1) pW.nd rfl (Or.inl rfl) (dg (Dy T) hr T.yp T.vV.kp T.Ay (ae (pv 0) ai)))
   (au (eV (dg (AV T) hr T.vq T.sC.kp T.xh (ae (pv 1) ai)) (tu rfl (cA (aR (i:=2) pW.nd) (cA (aR (i:=3) pW.nd) iD))))
   (au (bh (i:=4) pW.nd rfl (Or.inr rfl) (dg (zZ T) hr T.tR T.qA.kp T.vz (ae (pv 2) ai)))
   (au (bh (i:=5) pW.nd rfl (Or.inr rfl) (bX bL (by rfl) T.len bH (ae (bJ cO (pv 2) ar) ai)))
   (au (bh (i:=6) pW.nd rfl (Or.inr rfl) (dg (AR T) hr T.vn T.su.kp T.xc (ae (pv 1) (ae (pv 5) (ae (pv 3) ai)))))
   (au (bh (i:=7) pW.nd rfl (Or.inr rfl) (dg (wD T) hr T.oV T.kZ.kp T.qO (ae (pv 2) (ae (pv 6) ai))))
   (au (bh (i:=8) pW.nd rfl (Or.inr rfl) (dX (ae (dg (oT T) hr T.j9 T.iQ.kp T.kW (ae (pv 1) (ae (pv 7) (ae (pv 5) (ae (pv 3) ai))))) (ae (dg (oT T) hr T.j9 T.iQ.kp T.kW (ae (pv 1) (ae (pv 7) (ae (pv 5) (ae (pv 3) ai))))) ai))))
   (au (oS 9 ["_law_k"] ["_law_system_here","_law_rows","_law_asked","_law_steps_here","_law_n"] [4,7,8,6,5] pW.nd rfl rfl (cZ (dX (ae ar (ae ar (ae ar ai))))) (fun _=>(aR (i:=0) (show List.Nodup (α:=PySem.Str) ["_law_k","_law_system_here","_law_rows","_law_asked","_law_steps_here","_law_n"] by decide +kernel))) (fun _=>cP) (fun _=>(dg (vf T) hr T.p6 T.nQ.kp T.rN (ae (pv 1) (ae (pv 2) (ae (bJ (mN K (by rfl)) (pv 3) (pv 0)) (ae (pv 4) (ae (pv 5) ai))))))))
   (au (cT (PW.pt (mV (bc (LM (EV hr)) kM (pv 9) (by with_unfolding_all rfl)) (jm (bc (zV (EV hr)) (bJ bZ (pv 9) ar) (bJ bZ (pv 9) ar) (bB _))))) (aB (aV yn)) bS)
   (aB (aV (lC Ce (dg (vf T) hr T.p6 T.nQ.kp T.rN (ae (pv 4) (ae (dX ai) (ae (bJ bZ (pv 8) ar) (ae ar (ae (pv 5) ai)))))) kM (bB _))))))))))))),?_⟩
  refine aU (σ:=[some (.ref a),none,none,none,none,none,none,none,none,none]) rfl ?_;walk_at "w";refine ⟨a,ns,rfl,hS,hlen,fun b H0 hb0 B0 s0=>?_⟩;walk_at "w";refine ⟨b,rfl,B0,fun t r w mv pt lk H1 g1 PQ D F G w1 wk B1 u1=>?_⟩;have d8:=D.n8;have o4:=D.o4;have et:(bC mv mv.length).length=mv.length:=cy;walk_at "w";refine ⟨r,H0,mv,pt,lk,rfl,PQ,D,F.sf,fun x H2 nx s2 S=>?_⟩;have P2:=PQ.same s2;have B2:=B1.same s2;obtain ⟨m,p,l,gt,mn,pn,ln,Gm,Gp,Gl⟩:=id P2;obtain ⟨um,gm,qm,_⟩:=id Gm;have lum:=qm.length;walk_at "w";refine ⟨_,_,rfl,.inl (bV.of gm),?_⟩;rw[<- lum];walk_at "w";refine ⟨b,mv.length,w,rfl,B2,d8,fun tt H3 St B3 u3=>?_⟩;have t12:=St.1;obtain ⟨ee,VV⟩:=Fv (T:=tt) G D.turn (by rw[et];exact St);obtain ⟨M,d,j,M0,M1,dj,fr,R5⟩:=Nj (T:=tt) G D.turn (by rw[et];exact St);have S3:=S.upto u3 B2 B1.at;have P3:=P2.upto u3 B2 B0.at;walk_at "w";refine ⟨r,tt,H0,mv,pt,lk,rfl,t12,P3,D,VV.ad,fun rw H4 nrw s4 Gr=>?_⟩;have B4:=B3.same s4;have rwb:rw≠b:=fun z=>B3.at (by rw[<- z];exact nrw)
  have kl:=oY (mv:=bC mv mv.length) (pt:=lk) tt;have kb:tt*lk.length<=12*4:=aE t12 o4;have wd:∀xs∈kry (bC mv mv.length) lk tt,xs.length=mv.length:=fun xs hx=>by rw[fe (mv:=bC mv mv.length) rfl D.turn.pw tt xs hx,et]
  have ww:w<=9\/w=1000/\mv.length<=2:=by
   rcases G with ⟨h,_⟩ | ⟨h,_⟩ | ⟨h,h2,_⟩
   ·exact .inl h
   ·exact .inl h
   ·exact .inr ⟨h,by rw[<- et];exact h2⟩
  walk_at "w";refine ⟨b,rw,mv.length,w,M,d,j,H3,kry (bC mv mv.length) lk tt,rfl,B4,B3.at,rwb,Gr,by lia,d8,wd,w1,ww,M0,M1,dj,fr,fun q1 go1 H5 nq1 Rq1 lq1 A1 B5 u5=>?_⟩;have Gr5:=Gr.upto u5 B4 rwb B3.at;have qb1:q1≠b:=fun z=>B4.at (by rw[<- z];exact nq1)
  walk_at "w";refine ⟨b,rw,mv.length,w,M,d,j,H3,kry (bC mv mv.length) lk tt,rfl,B5,B3.at,rwb,Gr5,by lia,d8,wd,w1,ww,M0,M1,dj,fr,fun q2 go2 H6 nq2 Rq2 lq2 A2 B6 u6=>?_⟩;have Gr6:=Gr5.upto u6 B5 rwb B3.at;have Rq1:=Rq1.upto u6 B5 qb1;have S6:=((S3.same s4).upto u5 B4 B1.at).upto u6 B5 B1.at;walk_at "w";refine dz fun ak H7 s7 n7 g7=>?_
  walk_at "w";refine dz fun kl' H8 s8 n8 g8=>?_
  have s68:=s7.trans s8;have S8:=S6.same s68;have Gr8:=Gr6.same s68;have R18:=Rq1.same s68;have R28:=Rq2.same s68;have g78:=s8 _ _ g7;walk_at "w";refine ⟨⟨_,bV.of g8⟩,?_⟩;refine gD (K:=K) (as:=[true,false,true]) (F:=fun _ c x=>x=V.int (if c=true then 0 else 1)) (fun H' c x=>∃t,x=V.ref t/\DW K (bC mv mv.length) lk tt (if c=true then go1 else go2) H8 H' t) id g8 (.cons rfl (.cons rfl (.cons rfl .nil))) (by decide) (fun h _=>h) (fun ⟨y,h1,h2⟩ e=>⟨y,h1,h2.same e⟩) ?_ ?_
  ·rintro i c v Ha NY NN ec sa rfl k1;obtain ⟨a1,a2,a3,a4,a5,a6,a7,a8,a9,a10,a11,a12,a13,a14,R1⟩:=R5 go1 A1 tt (av _);obtain ⟨c1,c2,c3,c4,c5,c6,c7,c8,c9,c10,c11,c12,c13,c14,R2⟩:=R5 go2 A2 tt (av _);have ga:=sa _ _ g78;cases c with
   | true =>
    walk_at "w";exact ⟨x,rw,q1,tt,_,_,_,_,_,_,_,_,_,_,_,_,_,_,H1,H3,mv,pt,lk,go1,rfl,t12,S8.same sa,D,F,Gr8.same sa,R18.same sa,lq1,R1,fun t H' s tl=>k1 _ _ s ⟨t,rfl,tl.weak sa⟩⟩
   | false =>
    walk_at "w";exact ⟨x,rw,q2,tt,_,_,_,_,_,_,_,_,_,_,_,_,_,_,H1,H3,mv,pt,lk,go2,rfl,t12,S8.same sa,D,F,Gr8.same sa,R28.same sa,lq2,R2,fun t H' s tl=>k1 _ _ s ⟨t,rfl,tl.weak sa⟩⟩
  rintro ys H9 tl ntl s9 gtl pr _
  obtain ⟨t1,t2,t3,rfl,T1,T2,T3⟩:∃t1 t2 t3,ys=[V.ref t1,V.ref t2,V.ref t3]/\DW K (bC mv mv.length) lk tt go1 H8 H9 t1/\DW K (bC mv mv.length) lk tt go2 H8 H9 t2/\DW K (bC mv mv.length) lk tt go1 H8 H9 t3:=by
   cases pr with
   | cons h1 t=>cases t with
    | cons h2 t'=>cases t' with
     | cons h3 t'' =>
      cases t'';obtain ⟨y1,rfl,S1⟩:=h1;obtain ⟨y2,rfl,S2⟩:=h2;obtain ⟨y3,rfl,S3⟩:=h3;exact ⟨y1,y2,y3,rfl,S1,S2,S3⟩
  walk_at "w";refine ⟨tl,_,rfl,rfl,bV.of gtl,fun v hv=>?_,?_⟩
  ·simp only[aG,aZ,or_false] at hv;rcases hv with rfl | rfl | rfl
   ·obtain ⟨zs,h⟩:=T1.tup;exact ⟨_,zs,rfl,oI.of h⟩
   ·obtain ⟨zs,h⟩:=T2.tup;exact ⟨_,zs,rfl,oI.of h⟩
   ·obtain ⟨zs,h⟩:=T3.tup;exact ⟨_,zs,rfl,oI.of h⟩
  walk_at "w";refine DW.ne (K:=K) T1 T3 ?_;walk_at "w";refine dz fun el H10 s10 n10 g10=>?_
  have s8t:=s9.trans s10;have gat:=s8t _ _ g78;walk_at "w";obtain ⟨c1,c2,c3,c4,c5,c6,c7,c8,c9,c10,c11,c12,c13,c14,R2⟩:=R5 go2 A2 0 (aY _);refine ⟨x,el,q2,0,_,_,_,_,_,_,_,_,_,_,_,_,_,_,H1,H9,mv,pt,lk,go2,rfl,by decide,S8.same s8t,D,F,⟨_,g10,.nil,fun z=>nomatch z⟩,R28.same s8t,lq2,R2,fun t H' s _=>?_⟩;walk_at "w";refine ⟨rfl,?_⟩;exact k _
end
theorem EU {P:List Value->Prop} (h:∀x0,P [x0]):∀us:List Value,us.length=1->P us
 | [x0],_=>h x0
theorem ln2 {P:List Value->Prop} (h:∀x0 x1,P [x0,x1]):∀us:List Value,us.length=2->P us
 | [x0,x1],_=>h x0 x1
theorem FK {P:List Value->Prop} (h:∀x0 x1 x2,P [x0,x1,x2]):∀us:List Value,us.length=3->P us
 | [x0,x1,x2],_=>h x0 x1 x2
theorem Oz {P:List Value->Prop} (h:∀x0 x1 x2 x3,P [x0,x1,x2,x3]):∀us:List Value,us.length=4->P us
 | [x0,x1,x2,x3],_=>h x0 x1 x2 x3
theorem Qg {P:List Value->Prop} (h:∀x0 x1 x2 x3 x4,P [x0,x1,x2,x3,x4]):∀us:List Value,us.length=5->P us
 | [x0,x1,x2,x3,x4],_=>h x0 x1 x2 x3 x4
theorem all_mk {l:W.OpenLaw} {w:World} {K:W.Frag} {h:Heap} {mg:Str->Option Value} {fa:Addr}
  {f0 f1 f2 f3 f4 f5 f6 f7 f8 f9 f10 f11 f12 f13 f14 f15 f16 f17 f18 f19 f20 f21 f22 f23 f24 f25 f26 f27 f28 f29 f30 f31 f32 f33 f34 f35 f36 f37 f38 f39 f40 f41 f42 f43 f44 f45 f46 f47 f48 f49 f50 f51 f52 f53 f54 f55 f56 f57 f58 f59 f60 f61 f62 f63 f64:Addr} {od0 od1 od2 od3 od4 od5 od6 od7 od8 od9 od10 od11 od12 od13 od14 od15 od16 od17 od18 od19 od20 od21 od22 od23 od24 od25 od26 od27 od28 od29 od30 od31 od32 od33 od34 od35 od36 od37 od38 od39 od40 od41 od42 od43 od44 od45 od46 od47 od48 od49 od50 od51 od52 od53 od54 od55 od56 od57 od58 od59 od60 od61 od62 od63 od64 an0 an1 an2 an3 an4 an5 an6 an7 an8 an9 an10 an11 an12 an13 an14 an15 an16 an17 an18 an19 an20 an21 an22 an23 an24 an25 an26 an27 an28 an29 an30 an31 an32 an33 an34 an35 an36 an37 an38 an39 an40 an41 an42 an43 an44 an45 an46 an47 an48 an49 an50 an51 an52 an53 an54 an55 an56 an57 an58 an59 an60 an61 an62 an63 an64:Option Addr} {sl0 sl1 sl2 sl3 sl4 sl5 sl6 sl7 sl8 sl9 sl10 sl11 sl12 sl13 sl14 sl15 sl16 sl17 sl18 sl19 sl20 sl21 sl22 sl23 sl24 sl25 sl26 sl27 sl28 sl29 sl30 sl31 sl32 sl33 sl34 sl35 sl36 sl37 sl38 sl39 sl40 sl41 sl42 sl43 sl44 sl45 sl46 sl47 sl48 sl49 sl50 sl51 sl52 sl53 sl54 sl55 sl56 sl57 sl58 sl59 sl60 sl61 sl62 sl63 sl64:Array (Option Value)} {oc0 oc1 oc2 oc3 oc4 oc5 oc6 oc7 oc8 oc9 oc10 oc11 oc12 oc13 oc14 oc15 oc16 oc17 oc18 oc19 oc20 oc21 oc22 oc23 oc24 oc25 oc26 oc27 oc28 oc29 oc30 oc31 oc32 oc33 oc34 oc35 oc36 oc37 oc38 oc39 oc40 oc41 oc42 oc43 oc44 oc45 oc46 oc47 oc48 oc49 oc50 oc51 oc52 oc53 oc54 oc55 oc56 oc57 oc58 oc59 oc60 oc61 oc62 oc63 oc64 kV0 kV1 kV2 kV3 kV4 kV5 kV6 kV7 kV8 kV9 kV10 kV11 kV12 kV13 kV14 kV15 kV16 kV17 kV18 kV19 kV20 kV21 kV22 kV23 kV24 kV25 kV26 kV27 kV28 kV29 kV30 kV31 kV32 kV33 kV34 kV35 kV36 kV37 kV38 kV39 kV40 kV41 kV42 kV43 kV44 kV45 kV46 kV47 kV48 kV49 kV50 kV51 kV52 kV53 kV54 kV55 kV56 kV57 kV58 kV59 kV60 kV61 kV62 kV63 kV64 dc0 dc1 dc2 dc3 dc4 dc5 dc6 dc7 dc8 dc9 dc10 dc11 dc12 dc13 dc14 dc15 dc16 dc17 dc18 dc19 dc20 dc21 dc22 dc23 dc24 dc25 dc26 dc27 dc28 dc29 dc30 dc31 dc32 dc33 dc34 dc35 dc36 dc37 dc38 dc39 dc40 dc41 dc42 dc43 dc44 dc45 dc46 dc47 dc48 dc49 dc50 dc51 dc52 dc53 dc54 dc55 dc56 dc57 dc58 dc59 dc60 dc61 dc62 dc63 dc64 pm0 pm1 pm2 pm3 pm4 pm5 pm6 pm7 pm8 pm9 pm10 pm11 pm12 pm13 pm14 pm15 pm16 pm17 pm18 pm19 pm20 pm21 pm22 pm23 pm24 pm25 pm26 pm27 pm28 pm29 pm30 pm31 pm32 pm33 pm34 pm35 pm36 pm37 pm38 pm39 pm40 pm41 pm42 pm43 pm44 pm45 pm46 pm47 pm48 pm49 pm50 pm51 pm52 pm53 pm54 pm55 pm56 pm57 pm58 pm59 pm60 pm61 pm62 pm63 pm64 cd0 cd1 cd2 cd3 cd4 cd5 cd6 cd7 cd8 cd9 cd10 cd11 cd12 cd13 cd14 cd15 cd16 cd17 cd18 cd19 cd20 cd21 cd22 cd23 cd24 cd25 cd26 cd27 cd28 cd29 cd30 cd31 cd32 cd33 cd34 cd35 cd36 cd37 cd38 cd39 cd40 cd41 cd42 cd43 cd44 cd45 cd46 cd47 cd48 cd49 cd50 cd51 cd52 cd53 cd54 cd55 cd56 cd57 cd58 cd59 cd60 cd61 cd62 cd63 cd64 ct0 ct1 ct2 ct3 ct4 ct5 ct6 ct7 ct8 ct9 ct10 ct11 ct12 ct13 ct14 ct15 ct16 ct17 ct18 ct19 ct20 ct21 ct22 ct23 ct24 ct25 ct26 ct27 ct28 ct29 ct30 ct31 ct32 ct33 ct34 ct35 ct36 ct37 ct38 ct39 ct40 ct41 ct42 ct43 ct44 ct45 ct46 ct47 ct48 ct49 ct50 ct51 ct52 ct53 ct54 ct55 ct56 ct57 ct58 ct59 ct60 ct61 ct62 ct63 ct64:Value}
  (X:K.In h) (G:h.Ns mainGlobals mg) (hfa:mg "law"=some (.ref fa))
  {C:Addr} (aC:W.nsIn K mainGlobals "System"=some (some (.ref C)))
  (a0:W.nsIn K mainGlobals "_law_bag"=some (some (.ref f0))) (l0:K.lookup f0=some ⟨oc0,od0,.func (W.fnOf "_law_bag" "_law_bag" (bg kJ) (be kJ) (az kJ) .none kV0 dc0 pm0 an0 cd0 ct0),sl0⟩) (c0:W.codeIn K cd0 "_law_bag"=true) (k0:W.keepIn K (.ref f0)=true)
  (a1:W.nsIn K mainGlobals "_law_take"=some (some (.ref f1))) (l1:K.lookup f1=some ⟨oc1,od1,.func (W.fnOf "_law_take" "_law_take" (bg jy) (be jy) (az jy) .none kV1 dc1 pm1 an1 cd1 ct1),sl1⟩) (c1:W.codeIn K cd1 "_law_take"=true) (k1:W.keepIn K (.ref f1)=true)
  (a2:W.nsIn K mainGlobals "_law_low"=some (some (.ref f2))) (l2:K.lookup f2=some ⟨oc2,od2,.func (W.fnOf "_law_low" "_law_low" (bg kH) (be kH) (az kH) .none kV2 dc2 pm2 an2 cd2 ct2),sl2⟩) (c2:W.codeIn K cd2 "_law_low"=true) (k2:W.keepIn K (.ref f2)=true)
  (a3:W.nsIn K mainGlobals "_law_sum"=some (some (.ref f3))) (l3:K.lookup f3=some ⟨oc3,od3,.func (W.fnOf "_law_sum" "_law_sum" (bg kF) (be kF) (az kF) .none kV3 dc3 pm3 an3 cd3 ct3),sl3⟩) (c3:W.codeIn K cd3 "_law_sum"=true) (k3:W.keepIn K (.ref f3)=true)
  (a4:W.nsIn K mainGlobals "_law_plus"=some (some (.ref f4))) (l4:K.lookup f4=some ⟨oc4,od4,.func (W.fnOf "_law_plus" "_law_plus" (bg jA) (be jA) (az jA) .none kV4 dc4 pm4 an4 cd4 ct4),sl4⟩) (c4:W.codeIn K cd4 "_law_plus"=true) (k4:W.keepIn K (.ref f4)=true)
  (a5:W.nsIn K mainGlobals "_law_prod"=some (some (.ref f5))) (l5:K.lookup f5=some ⟨oc5,od5,.func (W.fnOf "_law_prod" "_law_prod" (bg jz) (be jz) (az jz) .none kV5 dc5 pm5 an5 cd5 ct5),sl5⟩) (c5:W.codeIn K cd5 "_law_prod"=true) (k5:W.keepIn K (.ref f5)=true)
  (a6:W.nsIn K mainGlobals "_law_by"=some (some (.ref f6))) (l6:K.lookup f6=some ⟨oc6,od6,.func (W.fnOf "_law_by" "_law_by" (bg oi) (be oi) (az oi) .none kV6 dc6 pm6 an6 cd6 ct6),sl6⟩) (c6:W.codeIn K cd6 "_law_by"=true) (k6:W.keepIn K (.ref f6)=true)
  (a7:W.nsIn K mainGlobals "_law_mixed"=some (some (.ref f7))) (l7:K.lookup f7=some ⟨oc7,od7,.func (W.fnOf "_law_mixed" "_law_mixed" (bg iw) (be iw) (az iw) .none kV7 dc7 pm7 an7 cd7 ct7),sl7⟩) (c7:W.codeIn K cd7 "_law_mixed"=true) (k7:W.keepIn K (.ref f7)=true)
  (a8:W.nsIn K mainGlobals "_law_line"=some (some (.ref f8))) (l8:K.lookup f8=some ⟨oc8,od8,.func (W.fnOf "_law_line" "_law_line" (bg jC) (be jC) (az jC) .none kV8 dc8 pm8 an8 cd8 ct8),sl8⟩) (c8:W.codeIn K cd8 "_law_line"=true) (k8:W.keepIn K (.ref f8)=true)
  (a9:W.nsIn K mainGlobals "_law_sizes"=some (some (.ref f9))) (l9:K.lookup f9=some ⟨oc9,od9,.func (W.fnOf "_law_sizes" "_law_sizes" (bg fK) (be fK) (az fK) .none kV9 dc9 pm9 an9 cd9 ct9),sl9⟩) (c9:W.codeIn K cd9 "_law_sizes"=true) (k9:W.keepIn K (.ref f9)=true)
  (a10:W.nsIn K mainGlobals "_law_number"=some (some (.ref f10))) (l10:K.lookup f10=some ⟨oc10,od10,.func (W.fnOf "_law_number" "_law_number" (bg gi) (be gi) (az gi) .none kV10 dc10 pm10 an10 cd10 ct10),sl10⟩) (c10:W.codeIn K cd10 "_law_number"=true) (k10:W.keepIn K (.ref f10)=true)
  (a11:W.nsIn K mainGlobals "_law_row"=some (some (.ref f11))) (l11:K.lookup f11=some ⟨oc11,od11,.func (W.fnOf "_law_row" "_law_row" (bg kG) (be kG) (az kG) .none kV11 dc11 pm11 an11 cd11 ct11),sl11⟩) (c11:W.codeIn K cd11 "_law_row"=true) (k11:W.keepIn K (.ref f11)=true)
  (a12:W.nsIn K mainGlobals "_law_move"=some (some (.ref f12))) (l12:K.lookup f12=some ⟨oc12,od12,.func (W.fnOf "_law_move" "_law_move" (bg jB) (be jB) (az jB) .none kV12 dc12 pm12 an12 cd12 ct12),sl12⟩) (c12:W.codeIn K cd12 "_law_move"=true) (k12:W.keepIn K (.ref f12)=true)
  (a13:W.nsIn K mainGlobals "_law_parts"=some (some (.ref f13))) (l13:K.lookup f13=some ⟨oc13,od13,.func (W.fnOf "_law_parts" "_law_parts" (bg iu) (be iu) (az iu) .none kV13 dc13 pm13 an13 cd13 ct13),sl13⟩) (c13:W.codeIn K cd13 "_law_parts"=true) (k13:W.keepIn K (.ref f13)=true)
  (a14:W.nsIn K mainGlobals "_law_drawn"=some (some (.ref f14))) (l14:K.lookup f14=some ⟨oc14,od14,.func (W.fnOf "_law_drawn" "_law_drawn" (bg iB) (be iB) (az iB) .none kV14 dc14 pm14 an14 cd14 ct14),sl14⟩) (c14:W.codeIn K cd14 "_law_drawn"=true) (k14:W.keepIn K (.ref f14)=true)
  (a15:W.nsIn K mainGlobals "want_list"=some (some (.ref f15))) (l15:K.lookup f15=some ⟨oc15,od15,.func (W.fnOf "want_list" "want_list" (bg jt) (be jt) (az jt) .none kV15 dc15 pm15 an15 cd15 ct15),sl15⟩) (c15:W.codeIn K cd15 "want_list"=true) (k15:W.keepIn K (.ref f15)=true)
  (a16:W.nsIn K mainGlobals "is_whole"=some (some (.ref f16))) (l16:K.lookup f16=some ⟨oc16,od16,.func (W.fnOf "is_whole" "is_whole" (bg kE) (be kE) (az kE) .none kV16 dc16 pm16 an16 cd16 ct16),sl16⟩) (c16:W.codeIn K cd16 "is_whole"=true) (k16:W.keepIn K (.ref f16)=true)
  (a17:W.nsIn K mainGlobals "common_divisor"=some (some (.ref f17))) (l17:K.lookup f17=some ⟨oc17,od17,.func (W.fnOf "common_divisor" "common_divisor" (bg eJ) (be eJ) (az eJ) .none kV17 dc17 pm17 an17 cd17 ct17),sl17⟩) (c17:W.codeIn K cd17 "common_divisor"=true) (k17:W.keepIn K (.ref f17)=true)
  (a18:W.nsIn K mainGlobals "is_number"=some (some (.ref f18))) (l18:K.lookup f18=some ⟨oc18,od18,.func (W.fnOf "is_number" "is_number" (bg jw) (be jw) (az jw) .none kV18 dc18 pm18 an18 cd18 ct18),sl18⟩) (c18:W.codeIn K cd18 "is_number"=true) (k18:W.keepIn K (.ref f18)=true)
  (a19:W.nsIn K mainGlobals "is_row"=some (some (.ref f19))) (l19:K.lookup f19=some ⟨oc19,od19,.func (W.fnOf "is_row" "is_row" (bg qE) (be qE) (az qE) .none kV19 dc19 pm19 an19 cd19 ct19),sl19⟩) (c19:W.codeIn K cd19 "is_row"=true) (k19:W.keepIn K (.ref f19)=true)
  (a20:W.nsIn K mainGlobals "copied_rows"=some (some (.ref f20))) (l20:K.lookup f20=some ⟨oc20,od20,.func (W.fnOf "copied_rows" "copied_rows" (bg fY) (be fY) (az fY) .none kV20 dc20 pm20 an20 cd20 ct20),sl20⟩) (c20:W.codeIn K cd20 "copied_rows"=true) (k20:W.keepIn K (.ref f20)=true)
  (a21:W.findIn K (.ref C) "__init__"=some (some (.ref f21))) (i21:W.isFn K (.ref f21)=true) (l21:K.lookup f21=some ⟨oc21,od21,.func (W.fnOf "__init__" "System.__init__" (bg d5) (be d5) (az d5) .none kV21 dc21 pm21 an21 cd21 ct21),sl21⟩) (c21:W.codeIn K cd21 "System.__init__"=true) (k21:W.keepIn K (.ref f21)=true)
  (a22:W.nsIn K mainGlobals "_law_copied"=some (some (.ref f22))) (l22:K.lookup f22=some ⟨oc22,od22,.func (W.fnOf "_law_copied" "_law_copied" (bg gB) (be gB) (az gB) .none kV22 dc22 pm22 an22 cd22 ct22),sl22⟩) (c22:W.codeIn K cd22 "_law_copied"=true) (k22:W.keepIn K (.ref f22)=true)
  (a23:W.nsIn K mainGlobals "_law_system"=some (some (.ref f23))) (l23:K.lookup f23=some ⟨oc23,od23,.func (W.fnOf "_law_system" "_law_system" (bg fZ) (be fZ) (az fZ) .none kV23 dc23 pm23 an23 cd23 ct23),sl23⟩) (c23:W.codeIn K cd23 "_law_system"=true) (k23:W.keepIn K (.ref f23)=true)
  (a24:W.nsIn K mainGlobals "_law_steps"=some (some (.ref f24))) (l24:K.lookup f24=some ⟨oc24,od24,.func (W.fnOf "_law_steps" "_law_steps" (bg iq) (be iq) (az iq) .none kV24 dc24 pm24 an24 cd24 ct24),sl24⟩) (c24:W.codeIn K cd24 "_law_steps"=true) (k24:W.keepIn K (.ref f24)=true)
  (a25:W.nsIn K mainGlobals "_law_dot"=some (some (.ref f25))) (l25:K.lookup f25=some ⟨oc25,od25,.func (W.fnOf "_law_dot" "_law_dot" (bg kI) (be kI) (az kI) .none kV25 dc25 pm25 an25 cd25 ct25),sl25⟩) (c25:W.codeIn K cd25 "_law_dot"=true) (k25:W.keepIn K (.ref f25)=true)
  (a26:W.nsIn K mainGlobals "_law_look_rows"=some (some (.ref f26))) (l26:K.lookup f26=some ⟨oc26,od26,.func (W.fnOf "_law_look_rows" "_law_look_rows" (bg eK) (be eK) (az eK) .none kV26 dc26 pm26 an26 cd26 ct26),sl26⟩) (c26:W.codeIn K cd26 "_law_look_rows"=true) (k26:W.keepIn K (.ref f26)=true)
  (a27:W.nsIn K mainGlobals "_law_summed"=some (some (.ref f27))) (l27:K.lookup f27=some ⟨oc27,od27,.func (W.fnOf "_law_summed" "_law_summed" (bg gh) (be gh) (az gh) .none kV27 dc27 pm27 an27 cd27 ct27),sl27⟩) (c27:W.codeIn K cd27 "_law_summed"=true) (k27:W.keepIn K (.ref f27)=true)
  (a28:W.nsIn K mainGlobals "_law_asked_row"=some (some (.ref f28))) (l28:K.lookup f28=some ⟨oc28,od28,.func (W.fnOf "_law_asked_row" "_law_asked_row" (bg eO) (be eO) (az eO) .none kV28 dc28 pm28 an28 cd28 ct28),sl28⟩) (c28:W.codeIn K cd28 "_law_asked_row"=true) (k28:W.keepIn K (.ref f28)=true)
  (a29:W.nsIn K mainGlobals "tops_over"=some (some (.ref f29))) (l29:K.lookup f29=some ⟨oc29,od29,.func (W.fnOf "tops_over" "tops_over" (bg ju) (be ju) (az ju) .none kV29 dc29 pm29 an29 cd29 ct29),sl29⟩) (c29:W.codeIn K cd29 "tops_over"=true) (k29:W.keepIn K (.ref f29)=true)
  (a30:W.nsIn K mainGlobals "common_multiple"=some (some (.ref f30))) (l30:K.lookup f30=some ⟨oc30,od30,.func (W.fnOf "common_multiple" "common_multiple" (bg d4) (be d4) (az d4) .none kV30 dc30 pm30 an30 cd30 ct30),sl30⟩) (c30:W.codeIn K cd30 "common_multiple"=true) (k30:W.keepIn K (.ref f30)=true)
  (a31:W.nsIn K mainGlobals "common_bottom"=some (some (.ref f31))) (l31:K.lookup f31=some ⟨oc31,od31,.func (W.fnOf "common_bottom" "common_bottom" (bg eX) (be eX) (az eX) .none kV31 dc31 pm31 an31 cd31 ct31),sl31⟩) (c31:W.codeIn K cd31 "common_bottom"=true) (k31:W.keepIn K (.ref f31)=true)
  (a32:W.nsIn K mainGlobals "first_with"=some (some (.ref f32))) (l32:K.lookup f32=some ⟨oc32,od32,.func (W.fnOf "first_with" "first_with" (bg il) (be il) (az il) .none kV32 dc32 pm32 an32 cd32 ct32),sl32⟩) (c32:W.codeIn K cd32 "first_with"=true) (k32:W.keepIn K (.ref f32)=true)
  (a33:W.nsIn K mainGlobals "cleared"=some (some (.ref f33))) (l33:K.lookup f33=some ⟨oc33,od33,.func (W.fnOf "cleared" "cleared" (bg oh) (be oh) (az oh) .none kV33 dc33 pm33 an33 cd33 ct33),sl33⟩) (c33:W.codeIn K cd33 "cleared"=true) (k33:W.keepIn K (.ref f33)=true)
  (a34:W.nsIn K mainGlobals "brought_up"=some (some (.ref f34))) (l34:K.lookup f34=some ⟨oc34,od34,.func (W.fnOf "brought_up" "brought_up" (bg ip) (be ip) (az ip) .none kV34 dc34 pm34 an34 cd34 ct34),sl34⟩) (c34:W.codeIn K cd34 "brought_up"=true) (k34:W.keepIn K (.ref f34)=true)
  (a35:W.nsIn K mainGlobals "swept"=some (some (.ref f35))) (l35:K.lookup f35=some ⟨oc35,od35,.func (W.fnOf "swept" "swept" (bg uy) (be uy) (az uy) .none kV35 dc35 pm35 an35 cd35 ct35),sl35⟩) (c35:W.codeIn K cd35 "swept"=true) (k35:W.keepIn K (.ref f35)=true)
  (a36:W.nsIn K mainGlobals "lowest"=some (some (.ref f36))) (l36:K.lookup f36=some ⟨oc36,od36,.func (W.fnOf "lowest" "lowest" (bg qD) (be qD) (az qD) .none kV36 dc36 pm36 an36 cd36 ct36),sl36⟩) (c36:W.codeIn K cd36 "lowest"=true) (k36:W.keepIn K (.ref f36)=true)
  (a37:W.nsIn K mainGlobals "reduced"=some (some (.ref f37))) (l37:K.lookup f37=some ⟨oc37,od37,.func (W.fnOf "reduced" "reduced" (bg nZ) (be nZ) (az nZ) .none kV37 dc37 pm37 an37 cd37 ct37),sl37⟩) (c37:W.codeIn K cd37 "reduced"=true) (k37:W.keepIn K (.ref f37)=true)
  (a38:W.nsIn K mainGlobals "row_dot"=some (some (.ref f38))) (l38:K.lookup f38=some ⟨oc38,od38,.func (W.fnOf "row_dot" "row_dot" (bg nY) (be nY) (az nY) .none kV38 dc38 pm38 an38 cd38 ct38),sl38⟩) (c38:W.codeIn K cd38 "row_dot"=true) (k38:W.keepIn K (.ref f38)=true)
  (a39:W.nsIn K mainGlobals "grid_on"=some (some (.ref f39))) (l39:K.lookup f39=some ⟨oc39,od39,.func (W.fnOf "grid_on" "grid_on" (bg og) (be og) (az og) .none kV39 dc39 pm39 an39 cd39 ct39),sl39⟩) (c39:W.codeIn K cd39 "grid_on"=true) (k39:W.keepIn K (.ref f39)=true)
  (a40:W.nsIn K mainGlobals "moved_rows"=some (some (.ref f40))) (l40:K.lookup f40=some ⟨oc40,od40,.func (W.fnOf "moved_rows" "moved_rows" (bg ik) (be ik) (az ik) .none kV40 dc40 pm40 an40 cd40 ct40),sl40⟩) (c40:W.codeIn K cd40 "moved_rows"=true) (k40:W.keepIn K (.ref f40)=true)
  (a41:W.nsIn K mainGlobals "reach_grown"=some (some (.ref f41))) (l41:K.lookup f41=some ⟨oc41,od41,.func (W.fnOf "reach_grown" "reach_grown" (bg fV) (be fV) (az fV) .none kV41 dc41 pm41 an41 cd41 ct41),sl41⟩) (c41:W.codeIn K cd41 "reach_grown"=true) (k41:W.keepIn K (.ref f41)=true)
  (a42:W.nsIn K mainGlobals "flat"=some (some (.ref f42))) (l42:K.lookup f42=some ⟨oc42,od42,.func (W.fnOf "flat" "flat" (bg xJ) (be xJ) (az xJ) .none kV42 dc42 pm42 an42 cd42 ct42),sl42⟩) (c42:W.codeIn K cd42 "flat"=true) (k42:W.keepIn K (.ref f42)=true)
  (a43:W.nsIn K mainGlobals "additions"=some (some (.ref f43))) (l43:K.lookup f43=some ⟨oc43,od43,.func (W.fnOf "additions" "additions" (bg jx) (be jx) (az jx) .none kV43 dc43 pm43 an43 cd43 ct43),sl43⟩) (c43:W.codeIn K cd43 "additions"=true) (k43:W.keepIn K (.ref f43)=true)
  (a44:W.nsIn K mainGlobals "nought_row"=some (some (.ref f44))) (l44:K.lookup f44=some ⟨oc44,od44,.func (W.fnOf "nought_row" "nought_row" (bg ij) (be ij) (az ij) .none kV44 dc44 pm44 an44 cd44 ct44),sl44⟩) (c44:W.codeIn K cd44 "nought_row"=true) (k44:W.keepIn K (.ref f44)=true)
  (a45:W.nsIn K mainGlobals "solved"=some (some (.ref f45))) (l45:K.lookup f45=some ⟨oc45,od45,.func (W.fnOf "solved" "solved" (bg qC) (be qC) (az qC) .none kV45 dc45 pm45 an45 cd45 ct45),sl45⟩) (c45:W.codeIn K cd45 "solved"=true) (k45:W.keepIn K (.ref f45)=true)
  (a46:W.nsIn K mainGlobals "grid_turned"=some (some (.ref f46))) (l46:K.lookup f46=some ⟨oc46,od46,.func (W.fnOf "grid_turned" "grid_turned" (bg fX) (be fX) (az fX) .none kV46 dc46 pm46 an46 cd46 ct46),sl46⟩) (c46:W.codeIn K cd46 "grid_turned"=true) (k46:W.keepIn K (.ref f46)=true)
  (a47:W.nsIn K mainGlobals "solve"=some (some (.ref f47))) (l47:K.lookup f47=some ⟨oc47,od47,.func (W.fnOf "solve" "solve" (bg uz) (be uz) (az uz) .none kV47 dc47 pm47 an47 cd47 ct47),sl47⟩) (c47:W.codeIn K cd47 "solve"=true) (k47:W.keepIn K (.ref f47)=true)
  (a48:W.nsIn K mainGlobals "weights_for"=some (some (.ref f48))) (l48:K.lookup f48=some ⟨oc48,od48,.func (W.fnOf "weights_for" "weights_for" (bg fU) (be fU) (az fU) .none kV48 dc48 pm48 an48 cd48 ct48),sl48⟩) (c48:W.codeIn K cd48 "weights_for"=true) (k48:W.keepIn K (.ref f48)=true)
  (a49:W.nsIn K mainGlobals "minus"=some (some (.ref f49))) (l49:K.lookup f49=some ⟨oc49,od49,.func (W.fnOf "minus" "minus" (bg uA) (be uA) (az uA) .none kV49 dc49 pm49 an49 cd49 ct49),sl49⟩) (c49:W.codeIn K cd49 "minus"=true) (k49:W.keepIn K (.ref f49)=true)
  (a50:W.nsIn K mainGlobals "row_minus"=some (some (.ref f50))) (l50:K.lookup f50=some ⟨oc50,od50,.func (W.fnOf "row_minus" "row_minus" (bg jv) (be jv) (az jv) .none kV50 dc50 pm50 an50 cd50 ct50),sl50⟩) (c50:W.codeIn K cd50 "row_minus"=true) (k50:W.keepIn K (.ref f50)=true)
  (a51:W.findIn K (.ref C) "moved"=some (some (.ref f51))) (i51:W.isFn K (.ref f51)=true) (l51:K.lookup f51=some ⟨oc51,od51,.func (W.fnOf "moved" "System.moved" (bg fB) (be fB) (az fB) .none kV51 dc51 pm51 an51 cd51 ct51),sl51⟩) (c51:W.codeIn K cd51 "System.moved"=true) (k51:W.keepIn K (.ref f51)=true)
  (a52:W.nsIn K mainGlobals "course"=some (some (.ref f52))) (l52:K.lookup f52=some ⟨oc52,od52,.func (W.fnOf "course" "course" (bg qF) (be qF) (az qF) .none kV52 dc52 pm52 an52 cd52 ct52),sl52⟩) (c52:W.codeIn K cd52 "course"=true) (k52:W.keepIn K (.ref f52)=true)
  (a53:W.nsIn K mainGlobals "nothing_for"=some (some (.ref f53))) (l53:K.lookup f53=some ⟨oc53,od53,.func (W.fnOf "nothing_for" "nothing_for" (bg fW) (be fW) (az fW) .none kV53 dc53 pm53 an53 cd53 ct53),sl53⟩) (c53:W.codeIn K cd53 "nothing_for"=true) (k53:W.keepIn K (.ref f53)=true)
  (a54:W.nsIn K mainGlobals "lacking"=some (some (.ref f54))) (l54:K.lookup f54=some ⟨oc54,od54,.func (W.fnOf "lacking" "lacking" (bg oa) (be oa) (az oa) .none kV54 dc54 pm54 an54 cd54 ct54),sl54⟩) (c54:W.codeIn K cd54 "lacking"=true) (k54:W.keepIn K (.ref f54)=true)
  (a55:W.nsIn K mainGlobals "cut"=some (some (.ref f55))) (l55:K.lookup f55=some ⟨oc55,od55,.func (W.fnOf "cut" "cut" (bg A7) (be A7) (az A7) .none kV55 dc55 pm55 an55 cd55 ct55),sl55⟩) (c55:W.codeIn K cd55 "cut"=true) (k55:W.keepIn K (.ref f55)=true)
  (a56:W.nsIn K mainGlobals "come"=some (some (.ref f56))) (l56:K.lookup f56=some ⟨oc56,od56,.func (W.fnOf "come" "come" (bg xK) (be xK) (az xK) .none kV56 dc56 pm56 an56 cd56 ct56),sl56⟩) (c56:W.codeIn K cd56 "come"=true) (k56:W.keepIn K (.ref f56)=true)
  (a57:W.findIn K (.ref C) "turned"=some (some (.ref f57))) (i57:W.isFn K (.ref f57)=true) (l57:K.lookup f57=some ⟨oc57,od57,.func (W.fnOf "turned" "System.turned" (bg eY) (be eY) (az eY) .none kV57 dc57 pm57 an57 cd57 ct57),sl57⟩) (c57:W.codeIn K cd57 "System.turned"=true) (k57:W.keepIn K (.ref f57)=true)
  (a58:W.nsIn K mainGlobals "told_by"=some (some (.ref f58))) (l58:K.lookup f58=some ⟨oc58,od58,.func (W.fnOf "told_by" "told_by" (bg nX) (be nX) (az nX) .none kV58 dc58 pm58 an58 cd58 ct58),sl58⟩) (c58:W.codeIn K cd58 "told_by"=true) (k58:W.keepIn K (.ref f58)=true)
  (a59:W.nsIn K mainGlobals "_law_is_number"=some (some (.ref f59))) (l59:K.lookup f59=some ⟨oc59,od59,.func (W.fnOf "_law_is_number" "_law_is_number" (bg eN) (be eN) (az eN) .none kV59 dc59 pm59 an59 cd59 ct59),sl59⟩) (c59:W.codeIn K cd59 "_law_is_number"=true) (k59:W.keepIn K (.ref f59)=true)
  (a60:W.nsIn K mainGlobals "_law_is_row"=some (some (.ref f60))) (l60:K.lookup f60=some ⟨oc60,od60,.func (W.fnOf "_law_is_row" "_law_is_row" (bg gA) (be gA) (az gA) .none kV60 dc60 pm60 an60 cd60 ct60),sl60⟩) (c60:W.codeIn K cd60 "_law_is_row"=true) (k60:W.keepIn K (.ref f60)=true)
  (a61:W.nsIn K mainGlobals "_law_is_grid"=some (some (.ref f61))) (l61:K.lookup f61=some ⟨oc61,od61,.func (W.fnOf "_law_is_grid" "_law_is_grid" (bg fA) (be fA) (az fA) .none kV61 dc61 pm61 an61 cd61 ct61),sl61⟩) (c61:W.codeIn K cd61 "_law_is_grid"=true) (k61:W.keepIn K (.ref f61)=true)
  (a62:W.nsIn K mainGlobals "_law_flat"=some (some (.ref f62))) (l62:K.lookup f62=some ⟨oc62,od62,.func (W.fnOf "_law_flat" "_law_flat" (bg jD) (be jD) (az jD) .none kV62 dc62 pm62 an62 cd62 ct62),sl62⟩) (c62:W.codeIn K cd62 "_law_flat"=true) (k62:W.keepIn K (.ref f62)=true)
  (a63:W.nsIn K mainGlobals "_law_right"=some (some (.ref f63))) (l63:K.lookup f63=some ⟨oc63,od63,.func (W.fnOf "_law_right" "_law_right" (bg ir) (be ir) (az ir) .none kV63 dc63 pm63 an63 cd63 ct63),sl63⟩) (c63:W.codeIn K cd63 "_law_right"=true) (k63:W.keepIn K (.ref f63)=true)
  (a64:W.nsIn K mainGlobals "law"=some (some (.ref f64))) (l64:K.lookup f64=some ⟨oc64,od64,.func (W.fnOf "law" "law" (bg A6) (be A6) (az A6) .none kV64 dc64 pm64 an64 cd64 ct64),sl64⟩) (c64:W.codeIn K cd64 "law"=true) (k64:W.keepIn K (.ref f64)=true)
  {m0:Addr} {mo0:Option Addr} {mn0:Nat} {ms0:Array (Option Value)} {mt0_0 mt0_1:Tok} (ca0:W.nsIn K mainGlobals "NOUGHT"=some (some (.ref m0))) (cl0:K.lookup m0=some ⟨.type "tuple",mo0,.seq #[.int 0 mt0_0,.int 1 mt0_1] mn0,ms0⟩)
  {m1:Addr} {mo1:Option Addr} {mn1:Nat} {ms1:Array (Option Value)} {mt1_0 mt1_1:Tok} (ca1:W.nsIn K mainGlobals "ONE"=some (some (.ref m1))) (cl1:K.lookup m1=some ⟨.type "tuple",mo1,.seq #[.int 1 mt1_0,.int 1 mt1_1] mn1,ms1⟩)
  {it0:Tok} (ci0:W.nsIn K mainGlobals "MOST_STATES"=some (some (.int 8 it0)))
  {it1:Tok} (ci1:W.nsIn K mainGlobals "MOST_PUTS"=some (some (.int 4 it1)))
  {it2:Tok} (ci2:W.nsIn K mainGlobals "MOST_LOOKS"=some (some (.int 4 it2)))
  (pg:W.plainGet K C Str.empty=true) (hd:W.hasDictIn K C=true) (po:W.plainOver K C=true) (sa:W.findIn K (.ref C) "__setattr__"=some (some (.builtin "object.__setattr__"))) (mk:W.makesIn K C=true) (kc:W.keepIn K (.ref C)=true)
  (n_move:W.findIn K (.ref C) "move"=some none)
  (n_states:W.findIn K (.ref C) "states"=some none)
  (n_put:W.findIn K (.ref C) "put"=some none)
  (n_ins:W.findIn K (.ref C) "ins"=some none)
  (n_look:W.findIn K (.ref C) "look"=some none)
  (n_outs:W.findIn K (.ref C) "outs"=some none)
  (z_abs:W.nsIn K mainGlobals "abs"=some none)
  (z_len:W.nsIn K mainGlobals "len"=some none)
  (z_range:W.nsIn K mainGlobals "range"=some none)
  (z_int:W.nsIn K mainGlobals "int"=some none)
  (z_min:W.nsIn K mainGlobals "min"=some none)
  (z_isinstance:W.nsIn K mainGlobals "isinstance"=some none)
  (z_list:W.nsIn K mainGlobals "list"=some none)
  (z_bool:W.nsIn K mainGlobals "bool"=some none)
  (z_tuple:W.nsIn K mainGlobals "tuple"=some none)
  (z_all:W.nsIn K mainGlobals "all"=some none)
  (z_enumerate:W.nsIn K mainGlobals "enumerate"=some none)
  (z_zip:W.nsIn K mainGlobals "zip"=some none)
  (z_sum:W.nsIn K mainGlobals "sum"=some none)
  (z_reversed:W.nsIn K mainGlobals "reversed"=some none)
  : ∃fd:FuncData,(∀(s:Shared) (v:Value),BindsTo s fd ⟨[v],[]⟩ [("_law_script",v)])/\∀base:Heap,K.In base->base.Ns mainGlobals mg->cS l.prog w K mg base gZ 11 fa fd ["_law_script"] (BS K):=by
 have e:=hfa.symm.trans (W.mg_of X G a64);cases e;have F0:=bN (st:=kJ) l0 c0 k0;have F1:=bN (st:=jy) l1 c1 k1;have F2:=bN (st:=kH) l2 c2 k2;have F3:=bN (st:=kF) l3 c3 k3;have F4:=bN (st:=jA) l4 c4 k4;have F5:=bN (st:=jz) l5 c5 k5;have F6:=bN (st:=oi) l6 c6 k6;have F7:=bN (st:=iw) l7 c7 k7;have F8:=bN (st:=jC) l8 c8 k8;have F9:=bN (st:=fK) l9 c9 k9;have F10:=bN (st:=gi) l10 c10 k10;have F11:=bN (st:=kG) l11 c11 k11;have F12:=bN (st:=jB) l12 c12 k12;have F13:=bN (st:=iu) l13 c13 k13;have F14:=bN (st:=iB) l14 c14 k14;have F15:=bN (st:=jt) l15 c15 k15;have F16:=bN (st:=kE) l16 c16 k16;have F17:=bN (st:=eJ) l17 c17 k17;have F18:=bN (st:=jw) l18 c18 k18;have F19:=bN (st:=qE) l19 c19 k19;have F20:=bN (st:=fY) l20 c20 k20;have F21:=bN (st:=d5) l21 c21 k21;have F22:=bN (st:=gB) l22 c22 k22;have F23:=bN (st:=fZ) l23 c23 k23;have F24:=bN (st:=iq) l24 c24 k24;have F25:=bN (st:=kI) l25 c25 k25;have F26:=bN (st:=eK) l26 c26 k26;have F27:=bN (st:=gh) l27 c27 k27;have F28:=bN (st:=eO) l28 c28 k28;have F29:=bN (st:=ju) l29 c29 k29;have F30:=bN (st:=d4) l30 c30 k30;have F31:=bN (st:=eX) l31 c31 k31;have F32:=bN (st:=il) l32 c32 k32;have F33:=bN (st:=oh) l33 c33 k33;have F34:=bN (st:=ip) l34 c34 k34;have F35:=bN (st:=uy) l35 c35 k35;have F36:=bN (st:=qD) l36 c36 k36;have F37:=bN (st:=nZ) l37 c37 k37;have F38:=bN (st:=nY) l38 c38 k38;have F39:=bN (st:=og) l39 c39 k39;have F40:=bN (st:=ik) l40 c40 k40;have F41:=bN (st:=fV) l41 c41 k41;have F42:=bN (st:=xJ) l42 c42 k42;have F43:=bN (st:=jx) l43 c43 k43;have F44:=bN (st:=ij) l44 c44 k44;have F45:=bN (st:=qC) l45 c45 k45;have F46:=bN (st:=fX) l46 c46 k46;have F47:=bN (st:=uz) l47 c47 k47;have F48:=bN (st:=fU) l48 c48 k48;have F49:=bN (st:=uA) l49 c49 k49;have F50:=bN (st:=jv) l50 c50 k50;have F51:=bN (st:=fB) l51 c51 k51;have F52:=bN (st:=qF) l52 c52 k52;have F53:=bN (st:=fW) l53 c53 k53;have F54:=bN (st:=oa) l54 c54 k54;have F55:=bN (st:=A7) l55 c55 k55;have F56:=bN (st:=xK) l56 c56 k56;have F57:=bN (st:=eY) l57 c57 k57;have F58:=bN (st:=nX) l58 c58 k58;have F59:=bN (st:=eN) l59 c59 k59;have F60:=bN (st:=gA) l60 c60 k60;have F61:=bN (st:=fA) l61 c61 k61;have F62:=bN (st:=jD) l62 c62 k62;have F63:=bN (st:=ir) l63 c63 k63;have F64:=bN (st:=A6) l64 c64 k64
 have T:Txt K mg { rW:=f0,rH:=_,pM:=f1,o9:=_,rT:=f2,rF:=_,rR:=f3,rD:=_,pO:=f4,pe:=_,pN:=f5,pd:=_,uU:=f6,uK:=_,nN:=f7,nB:=_,pQ:=f8,pz:=_,nJ:=f9,ni:=_,mf:=f10,lN:=_,rS:=f11,rE:=_,pP:=f12,ph:=_,nM:=f13,nA:=_,nO:=f14,nC:=_,pG:=f15,oZ:=_,rQ:=f16,rC:=_,iL:=f17,iF:=_,pK:=f18,o7:=_,xl:=f19,wY:=_,ma:=f20,lJ:=_,gP:=f21,gM:=_,mi:=f22,lQ:=_,md:=f23,lK:=_,nH:=f24,m9:=_,rV:=f25,rG:=_,iM:=f26,iG:=_,me:=f27,lM:=_,iO:=f28,iI:=_,pH:=f29,o5:=_,gO:=f30,gL:=_,jg:=f31,jd:=_,nF:=f32,m7:=_,uS:=f33,uJ:=_,nG:=f34,m8:=_,zb:=f35,yZ:=_,xk:=f36,wX:=_,uP:=f37,uG:=_,uO:=f38,uF:=_,uR:=f39,uI:=_,nE:=f40,m6:=_,lW:=f41,lF:=_,CT:=f42,CG:=_,pL:=f43,o8:=_,nD:=f44,m5:=_,xj:=f45,wW:=_,lZ:=f46,lH:=_,zd:=f47,y7:=_,lV:=f48,lE:=_,ze:=f49,y8:=_,pJ:=f50,o6:=_,kj:=f51,kd:=_,xm:=f52,wZ:=_,lY:=f53,lG:=_,uQ:=f54,uH:=_,Gi:=f55,FY:=_,CV:=f56,CH:=_,jh:=f57,je:=_,uN:=f58,uE:=_,iN:=f59,iH:=_,mh:=f60,lO:=_,ki:=f61,ka:=_,pR:=f62,pA:=_,nK:=f63,nk:=_,Kv:=fa,Kj:=_,a_NOUGHT:=m0,a_ONE:=m1,t_MOST_STATES:=it0,t_MOST_PUTS:=it1,t_MOST_LOOKS:=it2,a_System:=C }:={
  yp:=W.mg_of X G a0
  Ay:=F0.binds (ps:=["_law_script"]) fun _ _ _ _ _ _=>by refine EU ?_;intros;rfl
  vV:=F0
  bf:=W.mg_of X G a1
  bD:=F1.binds (ps:=["_law_bag_here","_law_many"]) fun _ _ _ _ _ _=>by refine ln2 ?_;intros;rfl
  bx:=F1
  jH:=W.mg_of X G a2
  kU:=F2.binds (ps:=["_law_top","_law_bottom"]) fun _ _ _ _ _ _=>by refine ln2 ?_;intros;rfl
  js:=F2
  jG:=W.mg_of X G a3
  kT:=F3.binds (ps:=["_law_one","_law_other"]) fun _ _ _ _ _ _=>by refine ln2 ?_;intros;rfl
  jr:=F3
  rj:=W.mg_of X G a4
  t8:=F4.binds (ps:=["_law_one","_law_other"]) fun _ _ _ _ _ _=>by refine ln2 ?_;intros;rfl
  pS:=F4
  j8:=W.mg_of X G a5
  mO:=F5.binds (ps:=["_law_one","_law_other"]) fun _ _ _ _ _ _=>by refine ln2 ?_;intros;rfl
  jM:=F5
  vR:=W.mg_of X G a6
  yd:=F6.binds (ps:=["_law_factor","_law_row_here"]) fun _ _ _ _ _ _=>by refine ln2 ?_;intros;rfl
  uW:=F6
  p7:=W.mg_of X G a7
  rO:=F7.binds (ps:=["_law_bag_here","_law_move_here","_law_put","_law_look"]) fun _ _ _ _ _ _=>by refine Oz ?_;intros;rfl
  nR:=F7
  wK:=W.mg_of X G a8
  yA:=F8.binds (ps:=["_law_bag_here"]) fun _ _ _ _ _ _=>by refine EU ?_;intros;rfl
  ur:=F8
  vo:=W.mg_of X G a9
  xf:=F9.binds (ps:=["_law_bag_here"]) fun _ _ _ _ _ _=>by refine EU ?_;intros;rfl
  sv:=F9
  oE:=W.mg_of X G a10
  qh:=F10.binds (ps:=["_law_bag_here","_law_wide"]) fun _ _ _ _ _ _=>by refine ln2 ?_;intros;rfl
  mC:=F10
  mM:=W.mg_of X G a11
  oG:=F11.binds (ps:=["_law_bag_here","_law_many","_law_wide"]) fun _ _ _ _ _ _=>by refine FK ?_;intros;rfl
  kY:=F11
  wJ:=W.mg_of X G a12
  yz:=F12.binds (ps:=["_law_bag_here","_law_n","_law_way","_law_first","_law_wide"]) fun _ _ _ _ _ _=>by refine Qg ?_;intros;rfl
  uq:=F12
  vp:=W.mg_of X G a13
  xg:=F13.binds (ps:=["_law_bag_here","_law_n","_law_ins","_law_outs","_law_wide"]) fun _ _ _ _ _ _=>by refine Qg ?_;intros;rfl
  sA:=F13
  vq:=W.mg_of X G a14
  xh:=F14.binds (ps:=["_law_bag_here"]) fun _ _ _ _ _ _=>by refine EU ?_;intros;rfl
  sC:=F14
  m3:=W.mg_of X G a15
  pC:=F15.binds (ps:=["thing","at","most"]) fun _ _ _ _ _ _=>by refine FK ?_;intros;rfl
  mQ:=F15
  tQ:=W.mg_of X G a16
  vT:=F16.binds (ps:=["thing"]) fun _ _ _ _ _ _=>by refine EU ?_;intros;rfl
  rY:=F16
  gK:=W.mg_of X G a17
  iK:=F17.binds (ps:=["one","other"]) fun _ _ _ _ _ _=>by refine ln2 ?_;intros;rfl
  fF:=F17
  wH:=W.mg_of X G a18
  yx:=F18.binds (ps:=["thing"]) fun _ _ _ _ _ _=>by refine EU ?_;intros;rfl
  uj:=F18
  Be:=W.mg_of X G a19
  DT:=F19.binds (ps:=["thing","many"]) fun _ _ _ _ _ _=>by refine ln2 ?_;intros;rfl
  AA:=F19
  j7:=W.mg_of X G a20
  lU:=F20.binds (ps:=["things","wide"]) fun _ _ _ _ _ _=>by refine ln2 ?_;intros;rfl
  jc:=F20
  kh:=F21.binds (ps:=["self","move","put","look"]) fun _ _ _ _ _ _=>by refine Oz ?_;intros;rfl
  pT:=F21
  ib:=W.mg_of X G a22
  jb:=F22.binds (ps:=["_law_grid"]) fun _ _ _ _ _ _=>by refine EU ?_;intros;rfl
  gF:=F22
  tR:=W.mg_of X G a23
  vz:=F23.binds (ps:=["_law_parts_here"]) fun _ _ _ _ _ _=>by refine EU ?_;intros;rfl
  qA:=F23
  vn:=W.mg_of X G a24
  xc:=F24.binds (ps:=["_law_bag_here","_law_n","_law_wide"]) fun _ _ _ _ _ _=>by refine FK ?_;intros;rfl
  su:=F24
  oX:=W.mg_of X G a25
  rP:=F25.binds (ps:=["_law_one","_law_other"]) fun _ _ _ _ _ _=>by refine ln2 ?_;intros;rfl
  oM:=F25
  oV:=W.mg_of X G a26
  qO:=F26.binds (ps:=["_law_parts_here","_law_steps_here"]) fun _ _ _ _ _ _=>by refine ln2 ?_;intros;rfl
  kZ:=F26
  oC:=W.mg_of X G a27
  qg:=F27.binds (ps:=["_law_weights","_law_rows","_law_n"]) fun _ _ _ _ _ _=>by refine FK ?_;intros;rfl
  mB:=F27
  j9:=W.mg_of X G a28
  kW:=F28.binds (ps:=["_law_bag_here","_law_rows","_law_n","_law_wide"]) fun _ _ _ _ _ _=>by refine Oz ?_;intros;rfl
  iQ:=F28
  m4:=W.mg_of X G a29
  pE:=F29.binds (ps:=["row","bottom"]) fun _ _ _ _ _ _=>by refine ln2 ?_;intros;rfl
  mR:=F29
  oB:=W.mg_of X G a30
  pF:=F30.binds (ps:=["wholes"]) fun _ _ _ _ _ _=>by refine EU ?_;intros;rfl
  ku:=F30
  iE:=W.mg_of X G a31
  jf:=F31.binds (ps:=["row"]) fun _ _ _ _ _ _=>by refine EU ?_;intros;rfl
  fR:=F31
  vh:=W.mg_of X G a32
  w5:=F32.binds (ps:=["lines","begin","place"]) fun _ _ _ _ _ _=>by refine FK ?_;intros;rfl
  rZ:=F32
  Ae:=W.mg_of X G a33
  BC:=F33.binds (ps:=["lines","at","place","before"]) fun _ _ _ _ _ _=>by refine Oz ?_;intros;rfl
  yl:=F33
  vm:=W.mg_of X G a34
  xa:=F34.binds (ps:=["lines","at","to"]) fun _ _ _ _ _ _=>by refine FK ?_;intros;rfl
  so:=F34
  Aa:=W.mg_of X G a35
  CL:=F35.binds (ps:=["rows","wide"]) fun _ _ _ _ _ _=>by refine ln2 ?_;intros;rfl
  zg:=F35
  qH:=W.mg_of X G a36
  tZ:=F36.binds (ps:=["top","bottom"]) fun _ _ _ _ _ _=>by refine ln2 ?_;intros;rfl
  qR:=F36
  Ab:=W.mg_of X G a37
  By:=F37.binds (ps:=["rows","wide"]) fun _ _ _ _ _ _=>by refine ln2 ?_;intros;rfl
  yi:=F37
  vQ:=W.mg_of X G a38
  yc:=F38.binds (ps:=["one","other"]) fun _ _ _ _ _ _=>by refine ln2 ?_;intros;rfl
  uV:=F38
  Ad:=W.mg_of X G a39
  BB:=F39.binds (ps:=["grid","row"]) fun _ _ _ _ _ _=>by refine ln2 ?_;intros;rfl
  yk:=F39
  p0:=W.mg_of X G a40
  rM:=F40.binds (ps:=["system","rows"]) fun _ _ _ _ _ _=>by refine ln2 ?_;intros;rfl
  nP:=F40
  tP:=W.mg_of X G a41
  vw:=F41.binds (ps:=["system","steps"]) fun _ _ _ _ _ _=>by refine ln2 ?_;intros;rfl
  qq:=F41
  FF:=W.mg_of X G a42
  Kr:=F42.binds (ps:=["lists"]) fun _ _ _ _ _ _=>by refine EU ?_;intros;rfl
  Fe:=F42
  wI:=W.mg_of X G a43
  yy:=F43.binds (ps:=["system","steps"]) fun _ _ _ _ _ _=>by refine ln2 ?_;intros;rfl
  uo:=F43
  i5:=W.mg_of X G a44
  kg:=F44.binds (ps:=["many"]) fun _ _ _ _ _ _=>by refine EU ?_;intros;rfl
  iP:=F44
  xU:=W.mg_of X G a45
  Ax:=F45.binds (ps:=["rows","wide","due"]) fun _ _ _ _ _ _=>by refine FK ?_;intros;rfl
  xn:=F45
  ia:=W.mg_of X G a46
  ja:=F46.binds (ps:=["grid","wide"]) fun _ _ _ _ _ _=>by refine ln2 ?_;intros;rfl
  gE:=F46
  DC:=W.mg_of X G a47
  Ge:=F47.binds (ps:=["rows","wide","due"]) fun _ _ _ _ _ _=>by refine FK ?_;intros;rfl
  C0:=F47
  tO:=W.mg_of X G a48
  vv:=F48.binds (ps:=["rows","wide","row"]) fun _ _ _ _ _ _=>by refine FK ?_;intros;rfl
  qo:=F48
  DD:=W.mg_of X G a49
  Gg:=F49.binds (ps:=["one","other"]) fun _ _ _ _ _ _=>by refine ln2 ?_;intros;rfl
  C1:=F49
  wG:=W.mg_of X G a50
  yw:=F50.binds (ps:=["one","other"]) fun _ _ _ _ _ _=>by refine ln2 ?_;intros;rfl
  ui:=F50
  sG:=⟨a51,i51,k51⟩
  ue:=F51.binds (ps:=["self","state","puts"]) fun _ _ _ _ _ _=>by refine FK ?_;intros;rfl
  uv:=F51
  Bf:=W.mg_of X G a52
  DU:=F52.binds (ps:=["system","start","puts"]) fun _ _ _ _ _ _=>by refine FK ?_;intros;rfl
  AB:=F52
  oA:=W.mg_of X G a53
  qe:=F53.binds (ps:=["system","steps"]) fun _ _ _ _ _ _=>by refine ln2 ?_;intros;rfl
  my:=F53
  Ac:=W.mg_of X G a54
  BA:=F54.binds (ps:=["system","start","goal","steps"]) fun _ _ _ _ _ _=>by refine Oz ?_;intros;rfl
  yj:=F54
  JF:=W.mg_of X G a55
  MM:=F55.binds (ps:=["row","many","wide"]) fun _ _ _ _ _ _=>by refine FK ?_;intros;rfl
  Ky:=F55
  FG:=W.mg_of X G a56
  Ks:=F56.binds (ps:=["system","start","goal","steps"]) fun _ _ _ _ _ _=>by refine Oz ?_;intros;rfl
  Ff:=F56
  qI:=⟨a57,i57,k57⟩
  sH:=F57.binds (ps:=["self"]) fun _ _ _ _ _ _=>by refine EU ?_;intros;rfl
  sJ:=F57
  z9:=W.mg_of X G a58
  Bx:=F58.binds (ps:=["system","asked","steps"]) fun _ _ _ _ _ _=>by refine FK ?_;intros;rfl
  yh:=F58
  oW:=W.mg_of X G a59
  qP:=F59.binds (ps:=["_law_thing"]) fun _ _ _ _ _ _=>by refine EU ?_;intros;rfl
  lh:=F59
  oF:=W.mg_of X G a60
  qi:=F60.binds (ps:=["_law_thing","_law_many"]) fun _ _ _ _ _ _=>by refine ln2 ?_;intros;rfl
  mD:=F60
  sF:=W.mg_of X G a61
  uc:=F61.binds (ps:=["_law_thing","_law_many","_law_wide"]) fun _ _ _ _ _ _=>by refine FK ?_;intros;rfl
  oK:=F61
  wL:=W.mg_of X G a62
  yB:=F62.binds (ps:=["_law_grid"]) fun _ _ _ _ _ _=>by refine EU ?_;intros;rfl
  uu:=F62
  p6:=W.mg_of X G a63
  rN:=F63.binds (ps:=["_law_system_here","_law_rows","_law_asked","_law_steps_here","_law_n"]) fun _ _ _ _ _ _=>by refine Qg ?_;intros;rfl
  nQ:=F63
  MR:=F64
  abs:=W.mg_none_of X G z_abs
  len:=W.mg_none_of X G z_len
  range:=W.mg_none_of X G z_range
  int:=W.mg_none_of X G z_int
  min:=W.mg_none_of X G z_min
  isinstance:=W.mg_none_of X G z_isinstance
  list:=W.mg_none_of X G z_list
  bool:=W.mg_none_of X G z_bool
  tuple:=W.mg_none_of X G z_tuple
  all:=W.mg_none_of X G z_all
  enumerate:=W.mg_none_of X G z_enumerate
  zip:=W.mg_none_of X G z_zip
  sum:=W.mg_none_of X G z_sum
  reversed:=W.mg_none_of X G z_reversed
  mg_NOUGHT:=W.mg_of X G ca0
  sq_NOUGHT:=fun H=>.inr ⟨_,_,_,cl0,rfl,rfl,jO rfl,.cons ⟨_,rfl⟩ (.cons ⟨_,rfl⟩ (.nil))⟩
  mg_ONE:=W.mg_of X G ca1
  sq_ONE:=fun H=>.inr ⟨_,_,_,cl1,rfl,rfl,jO rfl,.cons ⟨_,rfl⟩ (.cons ⟨_,rfl⟩ (.nil))⟩
  mg_MOST_STATES:=W.mg_of X G ci0
  mg_MOST_PUTS:=W.mg_of X G ci1
  mg_MOST_LOOKS:=W.mg_of X G ci2
  mg_System:=W.mg_of X G aC
  cl_System:=⟨pg,hd,po,sa⟩
  na_move:=n_move
  na_states:=n_states
  na_put:=n_put
  na_ins:=n_ins
  na_look:=n_look
  na_outs:=n_outs
  mk_System:=⟨mk,a21,i21,kc⟩ }
 exact ⟨_,fun s v=>.of_eq rfl,fun base _ _=>NT T⟩
theorem walk {l:W.OpenLaw} {q:Program} {loose:List Str} {XP:(Str->Option Value)->Heap->Prop} {YP:World->Heap->Prop} {d:DefRec} {K:Params->W.Frag} (hn:l.most=some 63) (hdf:d.params.defaults=[])
  (hY:∀(w:World) (h:Heap),YP w h->(K w.params).In h)
  (F:∀(w:World) (mg:Str->Option Value) (fa:Addr) (h:Heap),(K w.params).In h->h.Ns mainGlobals mg->mg d.name=some (.ref fa) →
   ∃fd:FuncData,(∀(s:Shared) (u:Value),BindsTo s fd ⟨[u],[]⟩ [("_law_script",u)])/\∀base:Heap,(K w.params).In base->base.Ns mainGlobals mg->cS l.prog w (K w.params) mg base gZ 11 fa fd ["_law_script"] (BS (K w.params))) :
  W.WalkO q loose XP YP l.row.toRowW d [] (fun f vs=>PySem.call f vs) :=
 L2.KN (n:=63) (k:=11) (x:="_law_script") (CX:=fun _=>gZ) (sp:=fun w=>BS (K w.params)) hn (by decide) hdf ⟨rfl,by decide,by decide⟩ hY F (fun _ _ a ns hl _ hS=>⟨a,ns,rfl,hS,hl,fun _=>rfl⟩) fun _ _ _ _ _ z=>z
end Lw
namespace PySem.W.Fast
def tw5312972650018221257:=()
def tw13710821957530990163:=()
def tw12452191973021349492:=()
def tw14258823735421235940:=()
def tw195664230715713905:=()
def tw17015989104388371360:=()
def tw10021231207742076672:=()
def tw3114309066178061873:=()
def tw1047969119804901771:=()
def tw12737904218378992720:=()
def tw2796583627675760686:=()
def tw5755463793318237871:=()
def tw14034717354038486916:=()
def tw3280172996297431495:=()
def tw13208991168845699266:=()
def tw3654298858415895121:=()
def tw9127538043340105647:=()
def tw3129423401854641632:=()
def tw15692232474340061216:=()
def tw11954079341887164859:=()
def tw13657253165677793197:=()
def tw9818212796110684618:=()
def tw10558893009739353242:=()
def tw15396723179738400677:=()
def tw5021256337623407794:=()
def tw8955517440976512406:=()
def tw9381243734581165763:=()
def tw5630997492394896077:=()
def tw14388716238422323681:=()
def tw2108922140968340505:=()
def tw3454360332552300972:=()
def tw217038722771426718:=()
def tw11244951429139188584:=()
def tw4642002040630695364:=()
def tw10388827667435333698:=()
def tw9757973442237141386:=()
def tw7508118469898588320:=()
def tw16410156682357058674:=()
def tw7199740070398271164:=()
def tw7967073044734541079:=()
def tw10487840497058232114:=()
def tw1005176152556602486:=()
def tw14808851241695162928:=()
def tw12143291910183290292:=()
def tw1897715996463956908:=()
def tw12452075006929554156:=()
def tw14755664518156055163:=()
def tw11677749314184125322:=()
def tw13462270745681064970:=()
def tw5181536231134416276:=()
def tw16879524535743734703:=()
def tw11392907005054091025:=()
def tw15023191629699598845:=()
def tw16255428246328220799:=()
def tw8859581313413543316:=()
def tw181143362179541175:=()
def tw3301911239516469951:=()
def tw16438508175234772575:=()
def tw4631606795219807245:=()
def tw8627891517592982009:=()
def tw7876089451746436357:=()
def tw7822917827050533211:=()
def tw15977288066591330693:=()
def tw1933885357596263561:=()
def tw4406839510930464457:=()
def tw13863273003453717708:=()
def tw5225936774561199863:=()
def tw2071243167838390580:=()
def tw12301285951623189280:=()
def tw12349417876483110822:=()
def tw18326470551864089483:=()
def tw5045519225422567995:=()
def tw10335481860138187095:=()
def tw1893610381339764630:=()
def tw18367395950572746652:=()
def tw9974903391853101801:=()
def tw10459717467373878223:=()
def tw8341093282551709107:=()
def tw4385080392245377093:=()
def tw16868445780380344217:=()
def tw10821028843047241508:=()
def tw3730676700566903909:=()
def tw7321763953284534357:=()
def tw7427617506910956568:=()
def tw3069739238950266942:=()
def tw4423857402576275734:=()
def tw12696628083322041504:=()
def tw6650549509709701849:=()
def tw3216794070650179424:=()
def tw6036471671436498120:=()
def tw9234986985484785568:=()
def tw7447860660068901051:=()
def tw11725561570058765748:=()
def tw3374141252144180173:=()
def tw9886074767643052905:=()
def tw4409163947029712713:=()
def tw4120396255724896955:=()
def tw2216251906106975863:=()
def tw14738157075877398557:=()
def tw1418180681804090445:=()
def tw3763245120552239253:=()
def tw17990167990847222734:=()
def tw2054003434306766362:=()
def tw10274821614477296180:=()
def tw8734618900107416799:=()
def tw5238494336370494282:=()
def tw2527457815374633285:=()
def tw10733529347210552148:=()
def tw11324248026352346672:=()
def tw1874860790374517423:=()
def tw10745359987368140504:=()
def tw6912251894383302503:=()
def tw1061442507858042852:=()
def tw5436415811838848041:=()
def tw13520211361667350519:=()
def tw16551395942029481852:=()
def tw7217051594506707119:=()
def tw13585143575877026672:=()
def tw2361782690308908885:=()
def tw14162467671288522929:=()
def tw11629590985103605791:=()
def tw13272838750604415066:=()
def tw4329799249684578232:=()
def tw14261205581042063610:=()
def tw11241408054802255680:=()
def tw9216941291613844647:=()
def tw3271756187964788318:=()
def tw16567780208356571362:=()
def tw6076212785206956674:=()
def tw5238024428427285196:=()
def tw18321037588745127749:=()
def tw3448141168532112092:=()
def tw7978391552904183217:=()
def tw10478150982700480467:=()
def tw2561960072533792278:=()
def tw5257350770206128692:=()
def tw6095014645467161460:=()
def tw4652672354444826920:=()
def tw11837423013595390209:=()
def tw9556593975977483954:=()
def tw7906418101256641920:=()
def tw15481714750807154751:=()
def tw16730713969603853995:=()
def tw8196635189527564802:=()
def tw13127657497761339457:=()
def tw2093662002709273236:=()
def tw12952239361983287636:=()
def tw15071276770577959256:=()
def tw6342705137595333865:=()
def tw8947282982184938632:=()
def tw13348673812084674941:=()
def tw9044797875079173920:=()
def tw724529197408584185:=()
def tw10832126800389454164:=()
def tw4811665357338298261:=()
def tw8446789769123361408:=()
def tw9706573956859307737:=()
def tw6022432593768426859:=()
def tw11928631883121536651:=()
def tw12040345604554722505:=()
def tw1593456768640062094:=()
def tw3993387876729361404:=()
def tw5425268186403808459:=()
def tw10895175580942807228:=()
def tw9862490208870632580:=()
def tw12492625000061720538:=()
def tw14415434707386672967:=()
def tw1938269843600108637:=()
def tw2017175437666561840:=()
def tw5751805841342243209:=()
def tw2944753573335689763:=()
def tw15478765411493931598:=()
def tw5800963185621112870:=()
def tw18112822238630814190:=()
def tw4294636753222606348:=()
def tw7196172697386570623:=()
def tw10977272083133297610:=()
def tw4160529298361976150:=()
def tw7925071291600494667:=()
def tw13296862362817407808:=()
def tw2459329492290557663:=()
def tw17576878099247144525:=()
def tw7085769343491422895:=()
def tw10292893416326206841:=()
def tw8685478659705527344:=()
def tw14896804547328188155:=()
def tw6261960301621418261:=()
def tw11938720028703696148:=()
def tw18077663203953236791:=()
def tw10770731673302995412:=()
def tw673549211083755957:=()
def tw2512010708281997172:=()
def tw3655311946130435280:=()
def tw12601486616359072246:=()
def tw15028117705213183713:=()
def tw14004801657709160553:=()
def tw15789739301528748514:=()
def tw3773279381832995439:=()
def tw16332914802408553931:=()
def tw13001697552786607844:=()
def tw7888662369996734885:=()
def tw7795114434491287197:=()
def tw160731049402745904:=()
def tw13613569775979962620:=()
def tw9007391962725255755:=()
def tw5119704700658201450:=()
def tw9680661903788003044:=()
def tw14742393082845356768:=()
def tw6301597458817329496:=()
def tw11070330484078089819:=()
def tw8412531289108999220:=()
def tw8979551422265572303:=()
def tw15682542737153745041:=()
def tw16231848107332843132:=()
def tw1229667133805664719:=()
def tw8160017942533684485:=()
def tw11078677753295994196:=()
def tw6288369983319808547:=()
def tw7280497387603517174:=()
def tw10604218529338960588:=()
def tw15576321741964881570:=()
def tw7950822851169033554:=()
def tw2842824098781473689:=()
def tw9762018072133755386:=()
def tw7584672057251806179:=()
def tw2462939737662598119:=()
def tw14859135306888630244:=()
def tw161618741117600734:=()
def tw7202918056896347689:=()
def tw8665937081877361431:=()
def tw306379365062437697:=()
def tw9789115652547675191:=()
def tw4555142420129109430:=()
def tw17594599761244544090:=()
def tw12458548619211188153:=()
def tw7498809382791543971:=()
def tw4586646221146716506:=()
def tw766384215748060780:=()
def tw15500092887390427739:=()
def tw5310936213015388928:=()
def tw5597573753890715332:=()
def tw1025372272972045385:=()
def tw13277595725668668716:=()
def tw5501039134689831775:=()
def tw16010880310441741227:=()
def tw14021913096212928509:=()
def tw10041196576092905230:=()
def tw16325631863483098742:=()
def tw15624775206544274453:=()
def tw14512527463146239324:=()
def tw12255541805826490098:=()
def tw15752203832655485256:=()
def tw6348361567694485906:=()
def tw7633681795750718264:=()
def tw4546798227188738293:=()
def tw15156942207722155139:=()
def tw12971526331784196860:=()
def tw3696713286611145376:=()
def tw8778623795296160937:=()
def tw9336646683393205012:=()
def tw7786659877492050739:=()
def tw14793813686750008455:=()
def tw18061081874686539339:=()
def tw4621351722025843694:=()
def tw4005716498621634858:=()
def tw8274550523373312775:=()
def tw2285847320784534429:=()
def tw14135551792310218143:=()
def tw9619622767053064742:=()
def tw12966377989247578163:=()
def tw11018700566103282742:=()
def tw12518158491301310042:=()
def tw11067766157088523271:=()
def tw15130539662117384468:=()
def tw4437762221580440583:=()
def tw2601890561911843801:=()
def tw11431103524131235350:=()
def tw7564759710665848346:=()
def tw1818131927388638207:=()
def tw7994645848883473729:=()
def tw15292271047962412222:=()
def tw9410916204136000494:=()
def tw9074637765552536544:=()
def tw14978524359589829821:=()
def tw5309206937735531743:=()
def tw15090226183338119222:=()
def tw9056792885945526466:=()
def tw14951742150948996895:=()
def tw1310438953956603530:=()
def tw8577533578598683603:=()
def tw8381717949292481125:=()
def tw2882299461876516657:=()
def tw4245016659158337852:=()
def tw3450294740380271476:=()
def tw391401744171611757:=()
def tw13394201682676167434:=()
def tw4501294466073027277:=()
def tw1845996835993247575:=()
def tw16583534985980670362:=()
def tw11145904943358283101:=()
def tw17670775313456769789:=()
def tw8582729895706260725:=()
def tw7065925524175827938:=()
def tw4622286941229719964:=()
def tw12335047430276704812:=()
def tw12028561979315301151:=()
def tw14770468790409865871:=()
def tw16303681894679289031:=()
def tw1392160645914321562:=()
def tw6028264796242334938:=()
def tw230561724016145097:=()
def tw3999716737014550122:=()
def tw17203610521840355502:=()
def tw13799951226821897502:=()
def tw15340192373178315545:=()
def tw14636570306607964916:=()
def tw17205169032262238253:=()
def tw13146715858579894773:=()
def tw519215274313301484:=()
def tw10465966560984011546:=()
def tw3376079273089852956:=()
def tw11525320430295280134:=()
def tw7717322944158475324:=()
def tw12565890016709132607:=()
def tw283018551267738093:=()
def tw1583782203174356840:=()
def tw3208984886319781972:=()
def tw14961184888987747109:=()
def tw15571644080120399433:=()
def tw9694496822852700875:=()
def tw5253307911722844255:=()
def tw12310493180738079325:=()
def tw13254904105012963671:=()
def tw101820458234158497:=()
def tw15936306720388320889:=()
def tw5061542266949807221:=()
def tw5750661409532268552:=()
def tw16462198965931934796:=()
def tw3938832165974456625:=()
def tw6834283998379172153:=()
def tw6984796256568447409:=()
def tw15432263759853843096:=()
def tw1195615872601587599:=()
def tw16648461747280057368:=()
def tw11186276194005631241:=()
def tw2016496907873488751:=()
def tw11463443975986739653:=()
def tw9068118809003009612:=()
def tw5155833319729206167:=()
def tw983464406498116751:=()
def tw8086471062370320643:=()
def tw6853302992180442762:=()
def tw8204335471152617370:=()
def tw16837135937105563637:=()
def tw14581508023170340641:=()
def tw960037151646550920:=()
def tw9052623979846297091:=()
def tw7948852119265673683:=()
def tw1214386859025631953:=()
def tw7167982320983483157:=()
def tw8997981986985771351:=()
def tw2156911632964755665:=()
def tw15674649549489357740:=()
def tw9746511755377726013:=()
def tw651681115510826461:=()
def tw5463388035034092265:=()
def tw18382117080502211974:=()
def tw16903643170618535523:=()
def tw1121993328018313106:=()
def tw1521993096759901534:=()
def tw4678843412676235513:=()
def tw12669764861958604434:=()
def tw10791693291153975359:=()
def tw11606745326190997864:=()
def tw13869336163523873851:=()
def tw3443297820446275215:=()
def tw9948064974506586565:=()
def tw14563889639433245431:=()
def tw11731731443884280488:=()
def tw3046054425684196698:=()
def tw13515240690339843073:=()
def tw15431192508876525154:=()
def tw8206128908915065425:=()
def tw13790598545405191620:=()
def tw2447626151578963892:=()
def tw5896961514495959212:=()
def tw9749382002225259052:=()
def tw2679098352950090435:=()
def tw770950791064934633:=()
def tw12229674471331747371:=()
def tw7871187540159248008:=()
def tw10031590745674212323:=()
def tw10774344163461874882:=()
def tw833448338905855213:=()
def tw12788623177068922179:=()
def tw3042856374896985421:=()
def tw12646208098068044740:=()
def tw8903840068296090645:=()
def tw11860570533851986117:=()
def tw12712881037772816612:=()
def tw14883794840511811470:=()
def tw14372349086275655301:=()
def tw13957010145670213110:=()
def tw35041628161280841:=()
def tw5965525421667644064:=()
def tw12049073735143306758:=()
def tw2341963652565066892:=()
def tw10793573192823447358:=()
def tw5706990312705921229:=()
def tw3880291523724930002:=()
def tw11673843859247598446:=()
def tw5054618893118694989:=()
def tw2029269443152861735:=()
def tw18374921059943779043:=()
def tw8305482269868100235:=()
def tw4580339749084770434:=()
def tw18287750769035528821:=()
def tw13144674785587907450:=()
def tw8840874396572599449:=()
def tw15895831169151781246:=()
def tw9023218887246226877:=()
def tw9633957447918030275:=()
def tw17564345453701049043:=()
def tw3699686484156372276:=()
def tw7184945047974723793:=()
def tw16292455353617002573:=()
def tw3847343122461552779:=()
def tw15473764264305862229:=()
def tw13656650362678516148:=()
def tw13782923555452720974:=()
def tw145185606432970233:=()
def tw1678279772761925792:=()
def tw16159100482407589699:=()
def tw17234630999081420324:=()
def tw16669536622207824230:=()
def tw14309564110888453202:=()
def tw3854745727680304510:=()
def tw3752502348422930946:=()
def tw13329934389763323250:=()
def tw10787228824754415229:=()
def tw16002691229940074896:=()
def tw14183889997051109696:=()
def tw3314582617066024432:=()
def tw17882633832208772423:=()
def tw11016364370874590422:=()
def tw2359907276130653487:=()
def tw10152557921005436753:=()
def tw1850223696146644620:=()
def tw7897932261984499228:=()
def tw2418652095401612033:=()
def tw3600182598864085713:=()
def tw15197029923811004017:=()
def tw1190299146426332347:=()
def tw3430229725775532987:=()
def tw13052589693795374497:=()
def tw165982156892764820:=()
def tw2489534323358478233:=()
def tw17415277004108722178:=()
theorem te5312972650018221257:True:=trivial
end PySem.W.Fast
open PySem PySem.W PyProof.Rows
set_option maxRecDepth 100000 in
set_option maxHeartbeats 0 in
theorem PySem.Challenge.cw_helmsum_k52_told_or_alike_holds : PySem.Challenge.rw_helmsum_k52_told_or_alike.Holds := by
 w_on;o_law;k_head;(case hw=>w_witness2)
 k_fill
 refine Lw.walk (l:=PySem.Challenge.rw_helmsum_k52_told_or_alike) rfl rfl (fun w h Y=>PySem.W.kIn_of Y) ?F
 case F =>
  intro w mg fa h KX G hmg;refine' Lw.all_mk KX G hmg ?aC ?a0 ?l0 ?c0 ?k0 ?a1 ?l1 ?c1 ?k1 ?a2 ?l2 ?c2 ?k2 ?a3 ?l3 ?c3 ?k3 ?a4 ?l4 ?c4 ?k4 ?a5 ?l5 ?c5 ?k5 ?a6 ?l6 ?c6 ?k6 ?a7 ?l7 ?c7 ?k7 ?a8 ?l8 ?c8 ?k8 ?a9 ?l9 ?c9 ?k9 ?a10 ?l10 ?c10 ?k10 ?a11 ?l11 ?c11 ?k11 ?a12 ?l12 ?c12 ?k12 ?a13 ?l13 ?c13 ?k13 ?a14 ?l14 ?c14 ?k14 ?a15 ?l15 ?c15 ?k15 ?a16 ?l16 ?c16 ?k16 ?a17 ?l17 ?c17 ?k17 ?a18 ?l18 ?c18 ?k18 ?a19 ?l19 ?c19 ?k19 ?a20 ?l20 ?c20 ?k20 ?a21 ?i21 ?l21 ?c21 ?k21 ?a22 ?l22 ?c22 ?k22 ?a23 ?l23 ?c23 ?k23 ?a24 ?l24 ?c24 ?k24 ?a25 ?l25 ?c25 ?k25 ?a26 ?l26 ?c26 ?k26 ?a27 ?l27 ?c27 ?k27 ?a28 ?l28 ?c28 ?k28 ?a29 ?l29 ?c29 ?k29 ?a30 ?l30 ?c30 ?k30 ?a31 ?l31 ?c31 ?k31 ?a32 ?l32 ?c32 ?k32 ?a33 ?l33 ?c33 ?k33 ?a34 ?l34 ?c34 ?k34 ?a35 ?l35 ?c35 ?k35 ?a36 ?l36 ?c36 ?k36 ?a37 ?l37 ?c37 ?k37 ?a38 ?l38 ?c38 ?k38 ?a39 ?l39 ?c39 ?k39 ?a40 ?l40 ?c40 ?k40 ?a41 ?l41 ?c41 ?k41 ?a42 ?l42 ?c42 ?k42 ?a43 ?l43 ?c43 ?k43 ?a44 ?l44 ?c44 ?k44 ?a45 ?l45 ?c45 ?k45 ?a46 ?l46 ?c46 ?k46 ?a47 ?l47 ?c47 ?k47 ?a48 ?l48 ?c48 ?k48 ?a49 ?l49 ?c49 ?k49 ?a50 ?l50 ?c50 ?k50 ?a51 ?i51 ?l51 ?c51 ?k51 ?a52 ?l52 ?c52 ?k52 ?a53 ?l53 ?c53 ?k53 ?a54 ?l54 ?c54 ?k54 ?a55 ?l55 ?c55 ?k55 ?a56 ?l56 ?c56 ?k56 ?a57 ?i57 ?l57 ?c57 ?k57 ?a58 ?l58 ?c58 ?k58 ?a59 ?l59 ?c59 ?k59 ?a60 ?l60 ?c60 ?k60 ?a61 ?l61 ?c61 ?k61 ?a62 ?l62 ?c62 ?k62 ?a63 ?l63 ?c63 ?k63 ?a64 ?l64 ?c64 ?k64 ?ca0 ?cl0 ?ca1 ?cl1 ?ci0 ?ci1 ?ci2 ?pg ?hd ?po ?sa ?mk ?kc ?n_move ?n_states ?n_put ?n_ins ?n_look ?n_outs ?z_abs ?z_len ?z_range ?z_int ?z_min ?z_isinstance ?z_list ?z_bool ?z_tuple ?z_all ?z_enumerate ?z_zip ?z_sum ?z_reversed
  all_goals try k_is