import PyProof.Rows.All
import Wide.All
import OpenK.AllK
import Wide.FinOn
import Lean
import PyProof.EqAt
import PyProof.EqKinds
import PyProof.TupleCall
import PyProof.NeKinds
import PySem.Challenge.RW_helmsum_k85_whole_wished_courses
set_option Elab.async false
set_option linter.all false
set_option maxRecDepth 100000
abbrev ND9:=@List.Nodup PySem.Str
abbrev aa:=@List.getD_eq_getElem?_getD
abbrev af:=@List.getElem?_eq_getElem
abbrev ag:=@Nat.le_trans
abbrev ah:=@List.length_map
abbrev aj:=@Nat.le_refl
abbrev ak:=@List.mem_of_getElem?
abbrev au:=@List.length_append
abbrev av:=@Nat.pow_le_pow_right
abbrev aw:=@Nat.mul_le_mul_right
abbrev ax:=@List.mem_map
abbrev ay:=@List.mem_cons
abbrev az:=@List.getElem?_map
abbrev aB:=@List.getElem_mem
abbrev aD:=@List.mem_append
abbrev aE:=@List.take_of_length_le
abbrev aG:=@List.not_mem_nil
abbrev aJ:=@List.getElem?_eq_none
abbrev aL:=@List.getElem?_eq_some_iff
abbrev aO:=@Bool.false_ne_true
abbrev aP:=@List.length_zipWith
abbrev aQ:=@Nat.le_of_lt
abbrev aT:=@Nat.lt_or_ge
abbrev aV:=@List.length_singleton
abbrev aW:=@Nat.zero_le
abbrev aX:=@Nat.mul_le_mul
abbrev aZ:=@List.size_toArray
abbrev a8:=@Rat.intCast_mul
abbrev bc:=@Nat.lt_of_le_of_lt
abbrev bg:=@PySem.boot_len
abbrev bh:=@Nat.pow_add
abbrev bo:=@List.getElem?_range
abbrev bA:=@Nat.lt_of_lt_of_le
abbrev bB:=@List.mem_singleton
abbrev bF:=@List.getElem?_zipWith
abbrev bH:=@Nat.mul_comm
abbrev bI:=@List.length_range
abbrev bN:=@Nat.ne_of_lt
abbrev bO:=@List.getElem_of_mem
abbrev bP:=@List.mem_cons_of_mem
abbrev bQ:=@List.getElem?_append_right
abbrev bR:=@List.length_cons
abbrev bU:=@Option.some.inj
abbrev bV:=@Rat.intCast_natCast
abbrev bW:=@List.mem_of_mem_take
abbrev bY:=@List.getElem?_append_left
abbrev bZ:=@List.length_take
abbrev b6:=@List.mem_append_right
abbrev b8:=@Nat.one_le_two_pow
abbrev cp:=@List.length_replicate
abbrev cv:=@Nat.mul_pos
abbrev cz:=@List.append_assoc
abbrev cC:=@Nat.mul_assoc
abbrev cE:=@Int.fdiv_eq_ediv_of_nonneg
abbrev cG:=@List.mem_or_eq_of_mem_set
abbrev cH:=@Nat.le_mul_of_pos_left
abbrev cJ:=@List.mem_cons_self
abbrev cN:=@Nat.mul_le_mul_left
abbrev cQ:=@Nat.not_lt_zero
abbrev cR:=@List.nodup_cons
abbrev cS:=@Nat.dvd_mul_left
abbrev cT:=@Rat.mul_comm
abbrev cV:=@List.nil_append
abbrev cY:=@Nat.pow_succ
abbrev df:=@Nat.pow_lt_pow_right
abbrev dg:=@Nat.eq_zero_or_pos
abbrev dh:=@List.getElem_zipWith
abbrev dj:=@Int.natAbs_natCast
abbrev dm:=@PySem.W.kia_one
abbrev du:=@Bool.and_eq_true
abbrev dw:=@List.drop_eq_getElem_cons
abbrev dA:=@Int.mul_assoc
abbrev dC:=@Rat.zero_mul
abbrev dD:=@Rat.intCast_inj
abbrev dE:=@List.map_append
abbrev dJ:=@Nat.succ_le_succ
abbrev dM:=@Nat.le_mul_of_pos_right
abbrev dN:=@List.getElem_map
abbrev dO:=@List.ext_getElem
abbrev dZ:=@Nat.succ_mul
abbrev eF:=@List.cons_append
abbrev eG:=@Int.gcd_dvd_left
abbrev eO:=@PySem.F.type_list_append
abbrev eP:=@PySem.F.slot_list_append
abbrev eQ:=@Nat.lt_irrefl
abbrev fg:=@PySem.F.plainAttrs_list
abbrev fh:=@List.nodup_append
abbrev fj:=@Int.gcd_dvd_right
abbrev fk:=@Rat.intCast_neg
abbrev fo:=@List.length_set
abbrev fE:=@Nat.add_comm
abbrev fH:=@Int.mul_comm
abbrev fL:=@Nat.lt_succ_self
abbrev fQ:=@Int.natAbs_mul
abbrev fY:=@Int.natAbs_dvd_natAbs
abbrev gD:=@List.mem_filter
abbrev gG:=@List.eq_of_mem_replicate
abbrev ib:=@Option.getD_some
abbrev ic:=@List.length_drop
abbrev iw:=@Int.mul_pos
abbrev iB:=@Rat.mul_zero
abbrev iC:=@Nat.sub_self
abbrev iD:=@Int.emod_lt_of_pos
abbrev iE:=@Bool.false_eq_true
abbrev iW:=@List.append_nil
abbrev iX:=@List.map_cons
abbrev jC:=@Nat.pow_pos
abbrev jD:=@List.nodup_nil
abbrev jE:=@List.mem_range
abbrev jF:=@List.mem_of_mem_drop
abbrev jG:=@List.mem_append_left
abbrev j6:=@PySem.IsL.update
abbrev j7:=@List.lookup_cons
abbrev j8:=@Int.gcd_comm
abbrev kh:=@PySem.F.plain_extend_loop
abbrev ki:=@PySem.mem_of_lookup
abbrev kj:=@List.replicate_succ
abbrev kB:=@Nat.le_of_dvd
abbrev kC:=@Nat.dvd_trans
abbrev kK:=@Int.emod_nonneg
abbrev kL:=@Bool.eq_iff_iff
abbrev kQ:=@PySem.W.callWith_K
abbrev kR:=@List.getElem_range
abbrev l9:=@List.getElem?_replicate
abbrev md:=@Int.dvd_mul_of_dvd_left
abbrev mO:=@Nat.ne_of_gt
abbrev mP:=@Nat.lt_trichotomy
abbrev mQ:=@Nat.dvd_mul_right
abbrev mR:=@List.forIn_nil
abbrev mS:=@List.flatten_cons
abbrev mT:=@List.ext_getElem?
abbrev mU:=@Int.natAbs_neg
abbrev oo:=@PySem.F.slot_zip_next
abbrev oq:=@Nat.min_le_right
abbrev ot:=@Nat.le_add_right
abbrev ou:=@List.all_eq_true
abbrev pY:=@Nat.mul_add
abbrev qi:=@Rat.natCast_mul
abbrev qj:=@List.length_zip
abbrev qo:=@List.forIn_cons
abbrev rQ:=@Nat.pow_le_pow_left
abbrev rR:=@List.filterMap_cons
abbrev rX:=@Rat.add_zero
abbrev sX:=@Int.eq_of_mul_eq_mul_right
abbrev vz:=@Nat.one_mul
abbrev vC:=@List.getElem?_take_of_lt
abbrev xS:=@Rat.intCast_eq_zero_iff
abbrev xT:=@Int.natCast_dvd_natCast
abbrev xU:=@Int.eq_ofNat_of_zero_le
abbrev yp:=@PySem.W.cellsFrom_some
abbrev yr:=@Nat.min_self
abbrev yt:=@List.length_pos_of_mem
abbrev yu:=@List.drop_of_length_le
abbrev yv:=@Int.zero_add
abbrev Az:=@Rat.intCast_add
abbrev AA:=@Nat.le_antisymm
abbrev AB:=@List.range_succ
abbrev AE:=@Bool.beq_eq_decide_eq
abbrev Co:=@Nat.pow_mul
abbrev Cp:=@Nat.le_succ
abbrev Cq:=@Nat.add_mul
abbrev Cr:=@List.replicate_succ'
abbrev DV:=@PySem.W.plainGet_of
abbrev Fp:=@Rat.sub_eq_add_neg
abbrev Fq:=@Rat.div_mul_cancel
abbrev Fs:=@Nat.sub_add_cancel
abbrev Fu:=@Nat.add_sub_cancel
abbrev Fv:=@List.mem_filterMap
abbrev Fw:=@List.getElem?_drop
abbrev Fx:=@List.filter_append
abbrev Fy:=@List.append_of_mem
abbrev IZ:=@Nat.lt_succ_of_lt
abbrev Ja:=@Nat.le_of_eq
abbrev Jb:=@Int.dvd_refl
abbrev Mx:=@Rat.one_mul
abbrev My:=@Int.dvd_gcd
abbrev MC:=@List.of_mem_zip
abbrev MD:=@Int.gcd_pos_of_ne_zero_right
abbrev Q0:=@PySem.F.entry_extend_loop
abbrev Q1:=@List.getElem?_zip_eq_some
abbrev Q2:=@Int.natAbs_ediv_of_nonneg
abbrev Q5:=@Option.isSome_iff_exists
abbrev SK:=@PySem.F.args_zip_next_1
abbrev SM:=@List.filter_cons_of_pos
abbrev SN:=@List.filter_cons_of_neg
abbrev LR9:=List (List Rat)
abbrev FG9:=PySem.W.Frag
namespace L2
open PySem PySem.Spec PyProof.Rows
abbrev Key:=Sum Int Str
def OO:Key->Value->Bool
 | .inl k,v=>Value.isInt k v
 | .inr x,v=>Value.isStrOf x v
def Td (w:World):Key->Int
 | .inl k=>hashInt k
 | .inr x=>hashStr w x
theorem fe:∀{k:Key} {v:Value},OO k v=true->(∃i t,k=Sum.inl i/\v=Value.int i t)\/(∃x t,k=Sum.inr x/\v=Value.str x t)
 | .inl i,v,h=>by
  obtain ⟨t,e⟩:=Value.isInt_shape (k:=i) (v:=v) h;exact .inl ⟨i,t,rfl,e⟩
 | .inr x,v,h=>by
  obtain ⟨t,e⟩:=Value.isStrOf_shape (x:=x) (v:=v) h;exact .inr ⟨x,t,rfl,e⟩
theorem Qq (a b:Int):decide ((Sum.inl a:Key)=Sum.inl b)=(a == b):=by
 by_cases e:a=b
 ·subst e;simp
 ·have h:¬(Sum.inl a:Key)=Sum.inl b:=λq=>e (Sum.inl.inj q)
  rw[decide_eq_false h];exact (beq_eq_false_iff_ne.mpr e).symm
theorem Qn (a b:Str):decide ((Sum.inr a:Key)=Sum.inr b)=decide (a=b):=by
 by_cases e:a=b
 ·subst e;simp
 ·have h:¬(Sum.inr a:Key)=Sum.inr b:=λq=>e (Sum.inr.inj q)
  rw[decide_eq_false h,decide_eq_false e]
theorem Qp (a:Int) (b:Str):decide ((Sum.inl a:Key)=Sum.inr b)=false:=decide_eq_false (λq=>nomatch q)
theorem Qo (a:Str) (b:Int):decide ((Sum.inr a:Key)=Sum.inl b)=false:=decide_eq_false (λq=>nomatch q)
def HV (prog:Program) (w:World):PySem.KeyKind prog w Key where
 is:=OO
 hash:=Td w
 inj:=λv a b ha hb=>by
  rcases fe ha with ⟨i,t,rfl,rfl⟩ | ⟨x,t,rfl,rfl⟩
  ·rcases fe hb with ⟨j,u,rfl,e⟩ | ⟨y,u,rfl,e⟩
   ·injection e with e1 _;rw[e1]
   ·exact nomatch e
  ·rcases fe hb with ⟨j,u,rfl,e⟩ | ⟨y,u,rfl,e⟩
   ·exact nomatch e
   ·injection e with e1 _;rw[e1]
 byValue:=λk v h=>by
  rcases fe h with ⟨i,t,rfl,rfl⟩ | ⟨x,t,rfl,rfl⟩ <;> rfl
 pyHash:=λhv h=>by
  rcases fe hv with ⟨i,t,rfl,rfl⟩ | ⟨x,t,rfl,rfl⟩
  ·exact wpAny_pyHash_int h
  ·exact wpAny_pyHash_str h
 eqBool:=λhu hv h=>by
  rcases fe hu with ⟨i,t,rfl,rfl⟩ | ⟨x,t,rfl,rfl⟩
  ·rcases fe hv with ⟨j,u,rfl,rfl⟩ | ⟨y,u,rfl,rfl⟩
   ·rw[Qq] at h;exact wpAny_eqBool_int h
   ·rw[Qp] at h;exact SeqAt.EqAt.int_str i t y u _ _ _ _ h
  ·rcases fe hv with ⟨j,u,rfl,rfl⟩ | ⟨y,u,rfl,rfl⟩
   ·rw[Qo] at h;exact SeqAt.EqAt.str_int x t j u _ _ _ _ h
   ·rw[Qn] at h;exact wpAny_eqBool_str h
 «strs»:=λk x t v h=>by
  rcases fe h with ⟨i,u,rfl,e⟩ | ⟨y,u,rfl,e⟩
  ·exact nomatch e
  ·injection e with e1 _
   subst e1;cases v <;> rfl
inductive V where
  | non | bl (b : Bool) | int (i : Int) | str (x : Str) | byt (b : Array UInt8) | flt (b : UInt64) | ref (a : Addr) | ty (n : String)
  deriving DecidableEq

def RelV:V->Value->Prop
 | .non,u=>u=Value.none
 | .bl b,u=>u=Value.bool b
 | .int i,u=>∃t,u=Value.int i t
 | .str x,u=>∃t,u=Value.str x t
 | .byt b,u=>∃t,u=Value.bytes b t
 | .flt b,u=>∃t,u=Value.float b t
 | .ref a,u=>u=Value.ref a
 | .ty n,u=>u=Value.type n
abbrev cM:List V->List Value->Prop:=Paired RelV
theorem cM.length (r:cM xs us):xs.length=us.length:=Paired.length r
theorem cM.get:∀{xs:List V} {us:List Value} {i:Nat} {x:V},cM xs us->xs[i]?=some x->∃u,us[i]?=some u/\RelV x u
 | _,_,_,_,.nil,e=>by simp at e
 | _,_,0,_,.cons r _,e=>by simp at e;subst e;exact ⟨_,rfl,r⟩
 | _,_,i+1,x,.cons _ t,e=>by
  obtain ⟨u,h1,h2⟩:=cM.get (i:=i) (x:=x) t (by simpa using e);exact ⟨u,by simpa using h1,h2⟩
theorem cM.set {x:V} {u:Value} (r:RelV x u):∀{xs:List V} {us:List Value} (i:Nat),cM xs us->cM (xs.set i x) (us.set i u)
 | _,_,_,.nil=>.nil
 | _,_,0,.cons _ t=>.cons r t
 | _,_,i+1,.cons q t=>.cons q (cM.set r i t)
theorem cM.append:∀{xs ys:List V} {us ws:List Value},cM xs us->cM ys ws->cM (xs++ys) (us++ws)
 | _,_,_,_,.nil,s=>s
 | _,_,_,_,.cons r t,s=>.cons r (cM.append t s)
theorem cM.take:∀{xs:List V} {us:List Value} (n:Nat),cM xs us->cM (xs.take n) (us.take n)
 | _,_,0,_=>.nil
 | _,_,_+1,.nil=>.nil
 | _,_,n+1,.cons r t=>.cons r (cM.take n t)
theorem cM.drop:∀{xs:List V} {us:List Value} (n:Nat),cM xs us->cM (xs.drop n) (us.drop n)
 | _,_,0,r=>r
 | _,_,_+1,.nil=>.nil
 | _,_,n+1,.cons _ t=>cM.drop n t
def As:Option V->Option Value->Prop
 | some v,some u=>RelV v u
 | none,none=>True
 | _,_=>False
def KV {κ:Type}:List (κ×V)->List (κ×Value)->Prop:=Paired λ(p:κ×V) (q:κ×Value)=>p.1=q.1/\RelV p.2 q.2
def kV:Key->V
 | .inl i=>.int i
 | .inr x=>.str x
inductive HO where
 | lst (xs:List V)
 | tup (xs:List V)
 | dK (kvs:List (Key×V)) | dT (kvs:List (List Key×V))
 | set (S:Int->Bool) (n:Nat)
 | ins (C dx:Addr) (fs:List (Str×V))
 | own (x:Addr)
 | xd (fs:List (Str×V))
 | met (f x:Addr)
 | rng (lo hi:Int)
 | frz (o:Obj) (u:HO)
 | tbl (ps:Array Value)
 | ext (φ:Heap->Prop)
abbrev Hp:=Addr->Option HO
def upd (H:Hp) (a:Addr) (o:HO):Hp:=λb=>if b=a then some o else H b
theorem aH:upd H a o a=some o:=by unfold upd;rw[if_pos rfl]
theorem aU (h:b≠a):upd H a o b=H b:=by unfold upd;rw[if_neg h]
theorem fq {H:Hp} (h:H a=some o) (h':H b=none):a≠b:=by
 intro e;subst e;rw[h] at h';cases h'
section
variable (P:Program) (w:World)
def fO (H:Hp) (h:Heap) (a:Addr):HO->Prop
 | .lst xs=>xs.length<=sizeLine/\∃(its:List Value) (n:Nat),cM xs its/\h.get? a=some { cls:=.type "list",data:=.seq its.toArray n }
 | .tup xs=>xs.length<=sizeLine/\∃its:List Value,cM xs its/\IsTup h a its.toArray
 | .dK kvs=>kvs.length<=sizeLine/\(a == sysModules)=false/\∃vs,KV kvs vs/\h.DictOf (HV P w) a vs
 | .dT kvs=>kvs.length<=sizeLine/\(a == sysModules)=false/\∃xs:List (List Key×Addr×Value),
   Paired (λ(p:List Key×V) (q:List Key×Addr×Value)=>p.1=q.1/\H q.2.1=some (.tup (p.1.map kV))/\RelV p.2 q.2.2) kvs xs /\
   ∃o es ep,h.get? a=some o/\o.ExactDict/\o.data=.dict es ep/\es.toList=xs.map (entryOfKey (tupleKind (HV P w)))/\(xs.map (·.1)).Nodup
 | .set S n=>h.SetOf (intKind P w) a S n
 | .ins C dx fs=>H dx=some (.own a)/\fs.length<=1000/\dx≠a/\h.get? a=some (PySem.W.instObj C dx) /\
   ∃mA,h.Ns1 dx mA/\(∀f,As (fs.lookup f) (mA f))/\PySem.Within mA (fs.map (·.1))
 | .own _=>∃o,h.get? a=some o
 | .xd fs=>∃mA,h.Ns1 a mA/\∀f,As (fs.lookup f) (mA f)
 | .rng lo hi=>∃t u v,h.get? a=some { cls:=.type "range",data:=.fields #[.int lo t,.int hi u,.int 1 v] }
 | .frz o u=>h.get? a=some o/\fO H h a u
 | .tbl ps=>h.get? a=some { cls:=.none,data:=.fields ps }
 | .met f x=>h.get? a=some (PySem.W.methodObj (.ref f) (.ref x))
 | .ext φ=>φ h/\(∃o,h.get? a=some o)/\∀h1 h2:Heap,φ h1->(∀o,h1.get? a=some o->h2.get? a=some o)->φ h2
def vB (H:Hp) (h:Heap):Prop:=∀a o,H a=some o->fO P w H h a o
end
section
variable {P:Program} {w:World} {H H':Hp} {h h':Heap} {a:Addr} {o:HO}
theorem fO.lt (x:fO P w H h a o):a < h.objs.size:=by
 cases o with
 | lst xs=>obtain ⟨_,_,_,_,e⟩:=x;exact Heap.lt_size e
 | tup xs=>obtain ⟨_,_,_,p⟩:=x;exact p.lt
 | dK kvs=>obtain ⟨_,_,_,_,o,_,_,e,_⟩:=x;exact Heap.lt_size e
 | dT kvs=>obtain ⟨_,_,_,_,o,_,_,e,_⟩:=x;exact Heap.lt_size e
 | set S n=>obtain ⟨o,_,_,_,e,_⟩:=x;exact Heap.lt_size e
 | ins C dx fs=>obtain ⟨_,_,_,e,_⟩:=x;exact Heap.lt_size e
 | own y=>obtain ⟨_,e⟩:=x;exact Heap.lt_size e
 | xd fs=>obtain ⟨_,⟨_,_,_,e,_⟩,_⟩:=x;exact Heap.lt_size e
 | rng lo hi=>obtain ⟨_,_,_,e⟩:=x;exact Heap.lt_size e
 | frz ob u=>obtain ⟨e,_⟩:=x;exact Heap.lt_size e
 | tbl ps=>exact Heap.lt_size (show h.get? a=some _ from x)
 | met f y=>exact Heap.lt_size (show h.get? a=some _ from x)
 | ext φ=>obtain ⟨_,⟨_,e⟩,_⟩:=x;exact Heap.lt_size e
theorem Paired.mapP {α β:Type} {F G:α->β->Prop}:∀{l₁:List α} {l₂:List β},Paired F l₁ l₂->(∀a b,F a b->G a b)->Paired G l₁ l₂
 | _,_,.nil,_=>.nil
 | _,_,.cons r t,f=>.cons (f _ _ r) (Paired.mapP t f)
theorem Paired.imp' {F G:α->β->Prop} (f:∀a b,F a b->G a b) {l₁:List α} {l₂:List β} (r:Paired F l₁ l₂):Paired G l₁ l₂:=Paired.mapP r f
theorem fO.stay (x:fO P w H h a o) (k:∀b u,(b=a\/H b=some (.own a))->h.get? b=some u->h'.get? b=some u)
  (ho:∀b,H b=some (.own a)->H' b=some (.own a)) (ht:∀b xs,H b=some (.tup xs)->H' b=some (.tup xs)):fO P w H' h' a o:=by
 induction o with
 | lst xs=>obtain ⟨z,its,n,r,e⟩:=x;exact ⟨z,its,n,r,k _ _ (.inl rfl) e⟩
 | tup xs=>obtain ⟨z,its,r,ob,e,c⟩:=x;exact ⟨z,its,r,ob,k _ _ (.inl rfl) e,c⟩
 | dK kvs=>obtain ⟨z,y,vs,r,ob,es,ep,e,c⟩:=x;exact ⟨z,y,vs,r,ob,es,ep,k _ _ (.inl rfl) e,c⟩
 | dT kvs =>
  obtain ⟨z,y,xs,r,ob,es,ep,e,c⟩:=x;exact ⟨z,y,xs,Paired.mapP r λp q z=>⟨z.1,ht _ _ z.2.1,z.2.2⟩,ob,es,ep,k _ _ (.inl rfl) e,c⟩
 | set S n=>obtain ⟨ob,es,ep,t,e,c⟩:=x;exact ⟨ob,es,ep,t,k _ _ (.inl rfl) e,c⟩
 | ins C dx fs =>
  obtain ⟨d,z,ne,e,mA,⟨od,es,ep,e2,c⟩,r⟩:=x;exact ⟨ho _ d,z,ne,k _ _ (.inl rfl) e,mA,⟨od,es,ep,k _ _ (.inr d) e2,c⟩,r⟩
 | own y=>obtain ⟨ob,e⟩:=x;exact ⟨ob,k _ _ (.inl rfl) e⟩
 | xd fs=>obtain ⟨mA,⟨od,es,ep,e,c⟩,r⟩:=x;exact ⟨mA,⟨od,es,ep,k _ _ (.inl rfl) e,c⟩,r⟩
 | rng lo hi=>obtain ⟨t,u,v,e⟩:=x;exact ⟨t,u,v,k _ _ (.inl rfl) e⟩
 | frz ob u ih=>obtain ⟨e,q⟩:=x;exact ⟨k _ _ (.inl rfl) e,ih q⟩
 | tbl ps =>
  have e:h.get? a=some { cls:=.none,data:=.fields ps }:=x;show h'.get? a=some { cls:=.none,data:=.fields ps }
  exact k a _ (.inl rfl) e
 | met f y =>
  have e:h.get? a=some (PySem.W.methodObj (.ref f) (.ref y)):=x;show h'.get? a=some (PySem.W.methodObj (.ref f) (.ref y))
  exact k a _ (.inl rfl) e
 | ext φ=>obtain ⟨p,⟨o,e⟩,st⟩:=x;exact ⟨st _ _ p λo q=>k _ _ (.inl rfl) q,⟨o,k _ _ (.inl rfl) e⟩,st⟩
theorem vB.lt (x:vB P w H h) (e:H a=some o):a < h.objs.size:=(x a o e).lt
theorem vB.fresh (x:vB P w H h) (e:h.objs.size<=a):H a=none:=by
 cases q:H a with
 | none=>rfl
 | some u=>exact absurd (bA (x.lt q) e) (eQ _)
theorem vB.kept (x:vB P w H h) (k:∀b u,h.get? b=some u->h'.get? b=some u):vB P w H h':=λa o e =>
 (x a o e).stay (λb u _ q=>k b u q) (λ_ q=>q) λ_ _ q=>q
theorem vB.laid (x:vB P w H h) (k:∀b u,h.get? b=some u->h'.get? b=some u) (hp:h.objs.size<=a) (new:fO P w (upd H a o) h' a o):vB P w (upd H a o) h':=λb u e=>by
 have hn:=x.fresh hp;by_cases hb:b=a
 ·subst hb;rw[aH] at e;cases e;exact new
 ·rw[aU hb] at e;exact (x b u e).stay (λc v _ q=>k c v q) (λc q=>by rw[aU (fq q hn)];exact q) λc xs q=>by rw[aU (fq q hn)];exact q
end
def Rd (H:Hp) (a:Addr) (u:HO):Prop:=H a=some u\/∃o,H a=some (.frz o u)
theorem Rd.ok (r:Rd H a u) (x:vB P w H h):fO P w H h a u:=by
 rcases r with r | ⟨o,r⟩
 ·exact x a u r
 ·obtain ⟨_,q⟩:=x a _ r;exact q
def S0:Option HO->Prop
 | some (.lst _)=>True
 | some (.dK _)=>True
 | some (.dT _)=>True
 | some (.set _ _)=>True
 | some (.ins _ _ _)=>True
 | some (.ext _)=>True
 | _=>False
section
variable {P:Program} {w:World} {H:Hp} {h h':Heap} {x e:Addr} {o':HO}
theorem vB.write (ok:vB P w H h) (mu:S0 (H x)) (he:e=x\/H e=some (.own x)) (k:∀b u,b≠e->h.get? b=some u->h'.get? b=some u) (heo:∃u,h'.get? e=some u)
  (new:fO P w (upd H x o') h' x o'):vB P w (upd H x o') h':=λb u q=>by
 have nown:∀c y,H c=some (.own y)->c≠x:=λc y r z=>by subst z;rw[r] at mu;exact mu
 have ntup:∀c xs,H c=some (.tup xs)->c≠x:=λc xs r z=>by subst z;rw[r] at mu;exact mu
 by_cases hb:b=x
 ·subst hb;rw[aH] at q;cases q;exact new
 ·rw[aU hb] at q;by_cases hbe:b=e
  ·have q':H b=some (.own x):=by
    rcases he with z | z
    ·exact absurd (hbe.trans z) hb
    ·rw[hbe];exact z
   rw[q] at q';cases q';obtain ⟨v,hv⟩:=heo;exact ⟨v,by rw[hbe];exact hv⟩
  ·refine (ok b u q).stay (λc v hc r=>k c v ?_ r) (λc r=>by rw[aU (nown c b r)];exact r) λc xs r=>by rw[aU (ntup c xs r)];exact r
   rcases hc with rfl | hc
   ·exact hbe
   ·rintro rfl;rcases he with z | z
    ·exact nown c b hc z
    ·rw[hc] at z;cases z;exact hb rfl
end
structure Un (fs ex:List Addr) (H H':Hp) (h h':Heap):Prop where
 keep:∀b o,h.get? b=some o->H b=none->b∉fs->b∉ex->h'.get? b=some o
 slot:∀b o,h.get? b=some o->H b=none->b∈fs->b∉ex->∃sl,h'.get? b=some { o with slots:=sl }
 free:∀b o,h.get? b=some o->H b=none->b∉ex->H' b=none
 there:∀b o,h.get? b=some o->b∉ex->∃o',h'.get? b=some o'
 tups:∀b xs,H b=some (.tup xs)->H' b=some (.tup xs)
 frzs:∀b o u,H b=some (.frz o u)->H' b=some (.frz o u)
 tbls:∀b ps,H b=some (.tbl ps)->∃more,H' b=some (.tbl (ps++more))
section
variable {fs fs' ex ex':List Addr} {H H1 H2:Hp} {h h1 h2 h':Heap} {a x e:Addr} {o:HO}
theorem Un.any (u:Un fs ex H H1 h h1) (q:h.get? b=some ob) (n:H b=none) (hx:b∉ex):∃sl,h1.get? b=some { ob with slots:=sl }:=by
 by_cases hb:b∈fs
 ·exact u.slot b ob q n hb hx
 ·exact ⟨ob.slots,u.keep b ob q n hb hx⟩
theorem Un.kept (k:∀b u,h.get? b=some u->h'.get? b=some u):Un fs ex H H h h' :=
 ⟨λb ob q _ _ _=>k b ob q,λb ob q _ _ _=>⟨ob.slots,k b ob q⟩,λ_ _ _ n _=>n,λb ob q _=>⟨ob,k b ob q⟩,λ_ _ q=>q,λ_ _ _ q=>q,λ_ ps q=>⟨#[],by rw[q];simp⟩⟩
theorem Un.refl:Un fs ex H H h h:=Un.kept λ_ _ q=>q
theorem Un.laid (k:∀b u,h.get? b=some u->h'.get? b=some u) (hp:h.objs.size<=a) (hn:H a=none):Un fs ex H (upd H a o) h h' where
 keep:=λb u q _ _ _=>k b u q
 slot:=λb u q _ _ _=>⟨u.slots,k b u q⟩
 free:=λb u q n _=>by rw[aU (bN (bA (Heap.lt_size q) hp))];exact n
 there:=λb u q _=>⟨u,k b u q⟩
 tups:=λb xs q=>by rw[aU (fq q hn)];exact q
 frzs:=λb u xs q=>by rw[aU (fq q hn)];exact q
 tbls:=λb ps q=>⟨#[],by rw[aU (fq q hn),q];simp⟩
theorem Un.write (mu:S0 (H x)) (he:e=x\/H e=some (.own x)) (k:∀b u,b≠e->h.get? b=some u->h'.get? b=some u) (heo:∃u,h'.get? e=some u):Un fs ex H (upd H x o) h h':=by
 have hx:∀b,H b=none->b≠x:=λb n z=>by subst z;rw[n] at mu;exact mu
 have hb:∀b,H b=none->b≠e:=λb n z=>by
  subst z;rcases he with r | r
  ·exact hx b n r
  ·rw[n] at r;cases r
 have hm:∀b u,H b=some u->¬S0 (some u)->b≠x:=λb u q nm z=>by subst z;rw[q] at mu;exact nm mu
 refine ⟨λb u q n _ _=>k b u (hb b n) q,λb u q n _ _=>⟨u.slots,k b u (hb b n) q⟩,λb u q n _=>by rw[aU (hx b n)];exact n,λb u q _=>?_,
  λb xs q=>by rw[aU (hm b _ q λz=>z)];exact q,λb u xs q=>by rw[aU (hm b _ q λz=>z)];exact q,λb ps q=>⟨#[],by rw[aU (hm b _ q λz=>z),q];simp⟩⟩
 by_cases hbe:b=e
 ·subst hbe;exact heo
 ·exact ⟨u,k b u hbe q⟩
end
def SU (h:Heap) (H:Hp):List Addr:=(List.range h.objs.size).filter λa=>(H a).isSome
def Dl (h:Heap) (H:Hp):Heap:=PySem.W.hideAll h (SU h H)
theorem JM (h:Heap) (H:Hp):(Dl h H).objs.size=h.objs.size:=PySem.W.hideAll_size _ _
theorem LG (e:h.get? b=some o) (n:H b=none):(Dl h H).get? b=some o :=
 PySem.W.hideAll_get _ e λhm=>by
  have q:(H b).isSome=true:=(gD.mp hm).2;rw[n] at q;simp at q
theorem NI (e:(Dl h H).get? b=some o):h.get? b=some o/\H b=none:=by
 have e':h.get? b=some o:=PySem.W.of_hideAll (SU h H) e;refine ⟨e',?_⟩;cases q:H b with
 | none=>rfl
 | some x =>
  have hm:b∈SU h H:=gD.mpr ⟨jE.mpr (Heap.lt_size e'),by simp [q]⟩;have z:(Dl h H).get? b=none:=PySem.W.hideAll_none (SU h H) hm;rw[z] at e;cases e
structure Mod (K:FG9) (mg:Str->Option Value) (base:Heap):Prop where
 kin:K.In base
 glob:base.Ns mainGlobals mg
 blt:∃mb,base.Ns builtinsNs mb/\∀x:Str,x≠"__name__"->mb x=bootBuiltins x
 nolimit:base.NoLimit
 seer:base.NoSeer
structure Cx where
 prog:Program
 w:World
 K:FG9
 mg:Str->Option Value
 base:Heap
 A:Around
 N:List Str
 s₀:Shared
 H₀:Hp
 env:Env
 outer:List Env
 stack:List Env
 ex:List Addr
 fn:Str->Bool
 calm:Bool
 pn:List (Addr×Obj)
 xe:Value->Shared->Prop
def uF (l:List Env):List Addr:=l.filterMap (·.frame)
abbrev Cx.fs (X:Cx):List Addr:=uF X.outer
def Ti (sc:Scope) (x:Str):Prop:=sc.names.lookup x=some .local\/sc.names.lookup x=some .cell\/sc.names.lookup x=some .free
def Loc (sc:Scope) (x:Str):Prop:=sc.names.lookup x=some .local\/sc.names.lookup x=some .cell
def Look (env:Env) (h:Heap) (m:Str->Option Value) (x:Str) (u:Value):Prop :=
 (env.kindOf x=some .local/\m x=some u)\/((env.kindOf x=some .cell\/env.kindOf x=some .free)/\∃c,env.cells.lookup x=some c/\h.IsCell c (some u))
structure Cx.Ok (X:Cx):Prop where
 mod:Mod X.K X.mg X.base
 kind:X.env.scope.kind=.function
 glob:X.env.globals=mainGlobals
 blt:X.env.builtins=builtinsNs
 above:X.s₀.heap.objs.size<=X.env.locals
 inj:∀x y c,X.env.cells.lookup x=some c->X.env.cells.lookup y=some c->x=y
 has:∀x,(X.env.kindOf x=some .cell\/X.env.kindOf x=some .free)->∃c,X.env.cells.lookup x=some c
 cab:∀x c,X.fn x=true->X.env.cells.lookup x=some c->X.s₀.heap.objs.size<=c
 hd:X.calm=true->X.A.handled=none
 frames:X.A.frames=some X.stack
 stk:X.stack=X.outer\/(X.stack=X.env :: X.outer/\X.env.frame=some X.env.locals)
 exf:∀b∈X.ex,b≠X.env.locals/\∀x c,X.env.cells.lookup x=some c->c≠b
 bs:∀b o,X.base.get? b=some o->X.s₀.heap.get? b=some o/\X.H₀ b=none
 bsz:X.base.objs.size<=X.s₀.heap.objs.size
 noex:∀b o,X.base.get? b=some o->b∉X.ex
 exfs:∀b∈X.ex,b∉X.fs
 funs:X.s₀.heap.FunFrames X.base X.outer
 frf:∀b∈X.fs,X.H₀ b=none
structure Inv (X:Cx) (pins:List (Addr×Obj)) (σ:List (Option V)) (H:Hp) (s:Shared):Prop where
 ok:X.Ok
 os:s.os=X.s₀.os
 bare:AllBare s.gens
 base:Un X.fs X.ex X.H₀ H X.s₀.heap s.heap
 loc:∃m,s.heap.Ns X.env.locals m/\∀(i:Nat) (x:Str) (v:V),X.N[i]?=some x->σ[i]?=some (some v)->Ti X.env.scope x->∃u,RelV v u/\Look X.env s.heap m x u
 cell:∀x c,X.env.cells.lookup x=some c->∃v,s.heap.IsCell c v
 free:H X.env.locals=none
 freeC:∀x c,X.env.cells.lookup x=some c->H c=none
 pin:∀p∈X.pn++pins,s.heap.get? p.1=some p.2/\H p.1=none/\p.1≠X.env.locals/\p.1∉X.fs/\∀v,p.2.data≠.cell v
 hok:vB X.prog X.w H s.heap
 len:σ.length=X.N.length
section
variable {X:Cx} {pins:List (Addr×Obj)} {σ:List (Option V)} {H H':Hp} {s:Shared} {h':Heap}
theorem Cx.Ok.nofr (ok:X.Ok) (e:X.base.get? b=some o):b∉X.fs:=λhb=>by
 have:=(ok.funs.mem hb).1;rw[e] at this;cases this
theorem Inv.bs (I:Inv X pins σ H s):∀b o,X.base.get? b=some o->s.heap.get? b=some o/\H b=none:=λb o e =>
 ⟨I.base.keep b o (I.ok.bs b o e).1 (I.ok.bs b o e).2 (I.ok.nofr e) (I.ok.noex b o e),I.base.free b o (I.ok.bs b o e).1 (I.ok.bs b o e).2 (I.ok.noex b o e)⟩
theorem Inv.bk (I:Inv X pins σ H s):∀b o,X.base.get? b=some o->s.heap.get? b=some o:=λb o e=>(I.bs b o e).1
theorem Inv.mod (I:Inv X pins σ H s):Mod X.K X.mg X.base:=I.ok.mod
theorem Inv.kIn (I:Inv X pins σ H s):X.K.In s.heap:=I.ok.mod.kin.keeps I.bk
theorem Inv.nolimit (I:Inv X pins σ H s):s.heap.NoLimit:=I.ok.mod.nolimit.keeps I.bk
theorem Inv.lt (I:Inv X pins σ H s):X.env.locals < s.heap.objs.size:=let ⟨_,hn,_⟩:=I.loc;hn.lt
theorem Inv.sz (I:Inv X pins σ H s):X.s₀.heap.objs.size<=s.heap.objs.size:=ag I.ok.above (aQ I.lt)
theorem Inv.nofs (I:Inv X pins σ H s) {a:Addr} (h:s.heap.objs.size<=a):a∉X.fs:=λhb=>by
 obtain ⟨_,o,ho,_⟩:=I.ok.funs.mem hb;exact absurd (bA (Heap.lt_size ho) (ag I.sz h)) (eQ _)
theorem Inv.cne (I:Inv X pins σ H s):∀x c,X.env.cells.lookup x=some c->c≠X.env.locals:=λx c e z=>by
 obtain ⟨v,o,ho,hd⟩:=I.cell x c e;obtain ⟨m,⟨o',es,ep,ho',hd',_⟩,_⟩:=I.loc;rw[z,ho'] at ho;cases ho;rw[hd'] at hd;cases hd
theorem Inv.funs (I:Inv X pins σ H s):s.heap.FunFrames X.base X.outer:=by
 have all:∀(l:List Env),(∀b∈uF l,b∈X.fs)->X.s₀.heap.FunFrames X.base l->s.heap.FunFrames X.base l:=by
  intro l
  induction l with
  | nil=>intro _ _;trivial
  | cons env r ih =>
   intro hs hl;obtain ⟨hk,⟨L,o,hf,hn,ho,hd⟩,hr⟩:=hl;have hL:L∈X.fs:=hs L (by unfold uF;rw[rR,hf];exact cJ);obtain ⟨sl,e⟩:=I.base.slot L o ho (I.ok.frf L hL) hL λz=>I.ok.exfs L z hL
   exact ⟨hk,⟨L,_,hf,hn,e,hd⟩,ih (λb hb=>hs b (by unfold uF;rw[rR,hf];exact bP _ hb)) hr⟩
 exact all X.outer (λ_ hb=>hb) I.ok.funs
theorem Inv.stack (I:Inv X pins σ H s):s.heap.FunFrames X.base X.stack:=by
 rcases I.ok.stk with e | ⟨e,hf⟩
 ·rw[e];exact I.funs
 ·rw[e];obtain ⟨m,hn,_⟩:=I.loc;refine .cons (by rw[I.ok.kind];decide) hf hn ?_ I.funs;exact Heap.get?_none_of_le (ag I.ok.bsz I.ok.above)
theorem Inv.stkSub (I:Inv X pins σ H s):∀b∈uF X.stack,b∈X.env.locals :: X.fs:=λb hb=>by
 rcases I.ok.stk with e | ⟨e,hf⟩
 ·rw[e] at hb;exact bP _ hb
 ·rw[e] at hb;unfold uF at hb;rw[rR,hf] at hb;exact hb
theorem Inv.stkFree (I:Inv X pins σ H s):∀b∈uF X.stack,H b=none:=λb hb=>by
 rcases ay.mp (I.stkSub b hb) with e | hb
 ·rw[e];exact I.free
 ·obtain ⟨_,o,ho,_⟩:=I.ok.funs.mem hb;exact I.base.free b o ho (I.ok.frf b hb) λz=>I.ok.exfs b z hb
theorem Inv.step {ch:List Addr} (I:Inv X pins σ H s)
  (hch:∀b∈ch,(b∈X.ex\/X.s₀.heap.objs.size<=b)/\b≠X.env.locals/\(∀x c,X.env.cells.lookup x=some c->c≠b)/\∀p∈X.pn++pins,p.1≠b)
  (keep:∀b o,b≠X.env.locals->b∉X.fs->b∉ch->s.heap.get? b=some o->H b=none->h'.get? b=some o)
  (slot:∀b o,b≠X.env.locals->b∈X.fs->b∉ch->s.heap.get? b=some o->H b=none->∃sl,h'.get? b=some { o with slots:=sl }) (free:∀b o,b∉ch->s.heap.get? b=some o->H b=none->H' b=none)
  (there:∀b o,b∉ch->s.heap.get? b=some o->∃o',h'.get? b=some o')
  (tups:∀b xs,H b=some (.tup xs)->H' b=some (.tup xs)) (frzs:∀b o u,H b=some (.frz o u)->H' b=some (.frz o u)) (tbls:∀b ps,H b=some (.tbl ps)->∃more,H' b=some (.tbl (ps++more)))
  (ns:∀m,s.heap.Ns X.env.locals m->h'.Ns X.env.locals m) (hok:vB X.prog X.w H' h') (hg:AllBare g') :
  Inv X pins σ H' { s with heap:=h',gens:=g',drawn:=d',toks:=t' }:=by
 have neL:∀b o,X.s₀.heap.get? b=some o->b≠X.env.locals:=λb o e=>bN (bA (Heap.lt_size e) I.ok.above)
 have neC:∀b o,X.s₀.heap.get? b=some o->b∉X.ex->b∉ch:=λb o e hx hb=>by
  rcases (hch b hb).1 with z | z
  ·exact hx z
  ·exact absurd (bA (Heap.lt_size e) z) (eQ _)
 have cellK:∀x c,X.env.cells.lookup x=some c->∀v,s.heap.IsCell c v->h'.IsCell c v:=λx c e v ⟨o,ho,hd⟩=>by
  have nch:c∉ch:=λz=>(hch c z).2.2.1 x c e rfl
  by_cases hc:c∈X.fs
  ·obtain ⟨sl,q⟩:=slot c o (I.cne x c e) hc nch ho (I.freeC x c e);exact ⟨_,q,hd⟩
  ·exact ⟨o,keep c o (I.cne x c e) hc nch ho (I.freeC x c e),hd⟩
 refine ⟨I.ok,I.os,hg,⟨λb o e n hb hx=>?_,λb o e n hb hx=>?_,λb o e n hx=>?_,λb o e hx=>?_,λb xs e=>tups b xs (I.base.tups b xs e),λb o xs e=>frzs b o xs (I.base.frzs b o xs e),λb ps e=>?_⟩,?_,λx c e=>?_,?_,λx c e=>?_,λp hp=>?_,hok,I.len⟩
 ·exact keep b o (neL b o e) hb (neC b o e hx) (I.base.keep b o e n hb hx) (I.base.free b o e n hx)
 ·obtain ⟨sl,e1⟩:=I.base.slot b o e n hb hx;obtain ⟨sl',e2⟩:=slot b _ (neL b o e) hb (neC b o e hx) e1 (I.base.free b o e n hx);exact ⟨sl',e2⟩
 ·obtain ⟨o',e1⟩:=I.base.there b o e hx;exact free b o' (neC b o e hx) e1 (I.base.free b o e n hx)
 ·obtain ⟨o',e1⟩:=I.base.there b o e hx;exact there b o' (neC b o e hx) e1
 ·obtain ⟨m1,e1⟩:=I.base.tbls b ps e;obtain ⟨m2,e2⟩:=tbls b _ e1;exact ⟨m1++m2,by rw[e2,Array.append_assoc]⟩
 ·obtain ⟨m,hn,hl⟩:=I.loc;refine ⟨m,ns m hn,λi x v e1 e2 e3=>?_⟩;obtain ⟨u,r,l⟩:=hl i x v e1 e2 e3;refine ⟨u,r,?_⟩;rcases l with l | ⟨k,c,e,z⟩
  ·exact .inl l
  ·exact .inr ⟨k,c,e,cellK x c e _ z⟩
 ·obtain ⟨v,z⟩:=I.cell x c e;exact ⟨v,cellK x c e v z⟩
 ·obtain ⟨m,⟨o,_,_,ho,_⟩,_⟩:=I.loc;exact free _ o (λz=>(hch _ z).2.1 rfl) ho I.free
 ·obtain ⟨v,o,ho,hd⟩:=I.cell x c e;exact free c o (λz=>(hch c z).2.2.1 x c e rfl) ho (I.freeC x c e)
 ·obtain ⟨e,n,ne,nf,d⟩:=I.pin p hp;have nch:p.1∉ch:=λz=>(hch p.1 z).2.2.2 p hp rfl
  exact ⟨keep p.1 p.2 ne nf nch e n,free p.1 p.2 nch e n,ne,nf,d⟩
theorem Inv.un (I:Inv X pins σ H s) (u:Un X.fs [] H H' s.heap h') (hok:vB X.prog X.w H' h'):Inv X pins σ H' { s with heap:=h',toks:=t' }:=by
 obtain ⟨m,⟨o,es,ep,ho,r⟩,_⟩:=id I.loc;obtain ⟨sl,hL⟩:=u.any ho I.free (by simp)
 exact I.step (g':=s.gens) (d':=s.drawn) (ch:=[]) (λ_ z=>nomatch z) (λb o _ hb _ e n=>u.keep b o e n hb (by simp)) (λb o _ hb _ e n=>u.slot b o e n hb (by simp)) (λb o _ e n=>u.free b o e n (by simp)) (λb o _ e=>u.there b o e (by simp)) u.tups u.frzs u.tbls (λm' hm=>by
  obtain ⟨o',es',ep',ho',r'⟩:=hm;rw[ho] at ho';cases ho';exact ⟨_,es',ep',hL,r'⟩) hok I.bare
theorem Inv.call (I:Inv X pins σ H s) (u:Un (uF X.stack) ch H H' s.heap h') (hok:vB X.prog X.w H' h') (hg:AllBare g')
  (hch:∀b∈ch,(b∈X.ex\/X.s₀.heap.objs.size<=b)/\b≠X.env.locals/\(∀x c,X.env.cells.lookup x=some c->c≠b)/\∀p∈X.pn++pins,p.1≠b) :
  Inv X pins σ H' { s with heap:=h',gens:=g',drawn:=d',toks:=t' }:=by
 obtain ⟨m,⟨o,es,ep,ho,r⟩,_⟩:=id I.loc;obtain ⟨sl,hL⟩:=u.any ho I.free λz=>(hch _ z).2.1 rfl
 exact I.step (ch:=ch) hch (λb o hL hb hc e n=>u.keep b o e n (λz=>(ay.mp (I.stkSub b z)).elim hL hb) hc) (λb o _ _ hc e n=>u.any e n hc) (λb o hc e n=>u.free b o e n hc) (λb o hc e=>u.there b o e hc) u.tups u.frzs u.tbls (λm' hm=>by
  obtain ⟨o',es',ep',ho',r'⟩:=hm;rw[ho] at ho';cases ho';exact ⟨_,es',ep',hL,r'⟩) hok hg
theorem Inv.turned (I:Inv X pins σ H s) (k:∀b o,b≠it->s.heap.get? b=some o->h'.get? b=some o) (hn:H it=none) (hL:it≠X.env.locals)
  (h1:it∈X.ex\/X.s₀.heap.objs.size<=it) (h2:∀x c,X.env.cells.lookup x=some c->c≠it) (h3:∀p∈X.pn++pins,p.1≠it):Inv X pins σ H { s with heap:=h',toks:=t' }:=by
 have nit:∀b u,H b=some u->b≠it:=λb u e z=>by rw[z,hn] at e;cases e
 refine I.step (g':=s.gens) (d':=s.drawn) (ch:=[it]) (λb hb=>?_) (λb o _ _ hc e _=>k b o (λz=>hc (by simp [z])) e) (λb o _ _ hc e _=>⟨o.slots,k b o (λz=>hc (by simp [z])) e⟩) (λ_ _ _ _ n=>n)
  (λb o hc e=>⟨o,k b o (λz=>hc (by simp [z])) e⟩) (λ_ _ e=>e) (λ_ _ _ e=>e) (λb ps e=>⟨#[],by rw[e];simp⟩) (λm hm=>?_) (λb u e=>?_) I.bare
 ·have e:b=it:=by simpa using hb
  subst e;exact ⟨h1,hL,h2,h3⟩
 ·obtain ⟨o,es,ep,ho,r⟩:=hm;exact ⟨o,es,ep,k _ o (Ne.symm hL) ho,r⟩
 ·refine (I.hok b u e).stay (λc v hc q=>k c v ?_ q) (λ_ q=>q) λ_ _ q=>q
  rcases hc with z | z
  ·rw[z];exact nit b u e
  ·exact nit c _ z
theorem Inv.tok (I:Inv X pins σ H s) (t:Nat):Inv X pins σ H { s with toks:=t }:=I.un (h':=s.heap) (t':=t) Un.refl I.hok
theorem Inv.kept (I:Inv X pins σ H s) (k:∀b u,s.heap.get? b=some u->h'.get? b=some u):Inv X pins σ H { s with heap:=h',toks:=t' }:=I.un (Un.kept k) (I.hok.kept k)
theorem Inv.laid {a:Addr} (I:Inv X pins σ H s) (k:∀b u,s.heap.get? b=some u->h'.get? b=some u) (hp:s.heap.objs.size<=a) (new:fO X.prog X.w (upd H a o) h' a o) :
  Inv X pins σ (upd H a o) { s with heap:=h',toks:=t' }:=I.un (Un.laid k hp (I.hok.fresh hp)) (I.hok.laid k hp new)
theorem Inv.write (I:Inv X pins σ H s) (mu:S0 (H x)) (he:e=x\/H e=some (.own x)) (k:∀b u,b≠e->s.heap.get? b=some u->h'.get? b=some u) (heo:∃u,h'.get? e=some u)
  (new:fO X.prog X.w (upd H x o) h' x o):Inv X pins σ (upd H x o) { s with heap:=h',toks:=t' }:=I.un (Un.write mu he k heo) (I.hok.write mu he k heo new)
theorem Inv.pins_of (I:Inv X pins σ H s) (h:∀p∈pins',s.heap.get? p.1=some p.2/\H p.1=none/\p.1≠X.env.locals/\p.1∉X.fs/\∀v,p.2.data≠.cell v):Inv X pins' σ H s :=
 ⟨I.ok,I.os,I.bare,I.base,I.loc,I.cell,I.free,I.freeC,λp hp=>(aD.mp hp).elim (λz=>I.pin p (jG _ z)) (h p),I.hok,I.len⟩
theorem EG {N:List Str} (hN:N.Nodup) {i j:Nat} (a:N[i]?=some x) (b:N[j]?=some x):i=j:=by
 obtain ⟨h1,e1⟩:=aL.mp a;obtain ⟨h2,e2⟩:=aL.mp b;exact (List.getElem_inj hN).mp (e1.trans e2.symm)
theorem Bj {M:Model} {A:Around} {E:Value->Shared->Prop} {i:Nat} {x:Str} {v:V} {u:Value} {Q:Unit->Shared->Prop} (I:Inv X pins σ H s) (hN:X.N.Nodup) (hi:X.N[i]?=some x) (hx:Loc X.env.scope x) (r:RelV v u)
  (h:∀s',Inv X pins (σ.set i (some v)) H s'->(∃a,Heap.SameBut a s.heap s'.heap/\(a=X.env.locals\/X.env.cells.lookup x=some a))->Q () s') (hf:X.fn x=true\/X.env.scope.names.lookup x=some .local:=by first | exact .inl rfl | exact .inr rfl | assumption):wpAny M A (storeName X.env x u) Q E s:=by
 obtain ⟨m,hn,hl⟩:=id I.loc;have hcls:(X.env.scope.kind == .class || (X.env.scope.kind == .module && X.env.locals != X.env.globals))=false:=by rw[I.ok.kind];rfl
 have hiσ:i < σ.length:=by rw[I.len];exact (aL.mp hi).1
 have cne:=I.cne
 have tracked:∀{a:Addr} {h':Heap},(∃o,s.heap.get? a=some o/\H a=none)->Heap.SameBut a s.heap h'->vB X.prog X.w H h':=λ{a h'} ha hs b ob e=>by
  obtain ⟨_,_,hfree⟩:=ha;refine (I.hok b ob e).stay (λc w' hc q=>(hs.2 c ?_).trans q) (λ_ q=>q) λ_ _ q=>q
  rintro rfl;rcases hc with rfl | hc
  ·rw[hfree] at e;cases e
  ·rw[hfree] at hc;cases hc
 rcases hx with hk | hk
 ·refine wpAny_storeName_local hk hn (λh' hn' hs=>?_) hcls;obtain ⟨oL,_,_,hoL,_⟩:=id hn;refine h _ ⟨I.ok,I.os,I.bare,⟨λb o e n hb hx=>?_,λb o e n hb hx=>?_,I.base.free,λb o e hx=>?_,I.base.tups,I.base.frzs,I.base.tbls⟩,⟨_,hn',λj y v' e1 e2 e3=>?_⟩,λy c e=>?_,I.free,I.freeC,λp hp=>?_,tracked ⟨oL,hoL,I.free⟩ hs,by simpa using I.len⟩ ⟨_,hs,.inl rfl⟩
  ·exact (hs.2 b (bN (bA (Heap.lt_size e) I.ok.above))).trans (I.base.keep b o e n hb hx)
  ·obtain ⟨sl,e1⟩:=I.base.slot b o e n hb hx;exact ⟨sl,(hs.2 b (bN (bA (Heap.lt_size e) I.ok.above))).trans e1⟩
  ·obtain ⟨o',e1⟩:=I.base.there b o e hx;exact ⟨o',(hs.2 b (bN (bA (Heap.lt_size e) I.ok.above))).trans e1⟩
  ·by_cases hj:j=i
   ·subst hj;rw[hi] at e1;cases e1;rw[List.getElem?_set_self hiσ] at e2;cases e2;exact ⟨u,r,.inl ⟨hk,by simp⟩⟩
   ·rw[List.getElem?_set_ne (Ne.symm hj)] at e2;obtain ⟨u',r',q⟩:=hl j y v' e1 e2 e3;refine ⟨u',r',?_⟩;rcases q with ⟨k,e⟩ | ⟨k,c,e,z⟩
    ·refine .inl ⟨k,?_⟩;have:y≠x:=λe=>hj (EG hN e1 (e ▸ hi))
     simp [this,e]
    ·exact .inr ⟨k,c,e,z.sameBut hs (cne y c e)⟩
  ·obtain ⟨w',z⟩:=I.cell y c e;exact ⟨w',z.sameBut hs (cne y c e)⟩
  ·obtain ⟨e,n,ne,nf,d⟩:=I.pin p hp;exact ⟨(hs.2 p.1 ne).trans e,n,ne,nf,d⟩
 ·have hfn:X.fn x=true:=by
   rcases hf with z | z
   ·exact z
   ·rw[z] at hk;cases hk
  obtain ⟨c,hc⟩:=I.ok.has x (.inl hk);obtain ⟨w',z⟩:=I.cell x c hc;refine wpAny_storeName_cell I.ok.kind hk hc z (λh' hc' hs=>?_);obtain ⟨oc,hoc,hocd⟩:=id z;refine h { s with heap:=h' } ⟨I.ok,I.os,I.bare,⟨λb o e n hb hx=>?_,λb o e n hb hx=>?_,I.base.free,λb o e hx=>?_,I.base.tups,I.base.frzs,I.base.tbls⟩,⟨m,hn.sameBut hs (Ne.symm (cne x c hc)),λj y v' e1 e2 e3=>?_⟩,λy c' e=>?_,I.free,I.freeC,λp hp=>?_,tracked ⟨oc,hoc,I.freeC x c hc⟩ hs,by simpa using I.len⟩ ⟨c,hs,.inr hc⟩
  ·exact (hs.2 b (bN (bA (Heap.lt_size e) (I.ok.cab x c hfn hc)))).trans (I.base.keep b o e n hb hx)
  ·obtain ⟨sl,e1⟩:=I.base.slot b o e n hb hx;exact ⟨sl,(hs.2 b (bN (bA (Heap.lt_size e) (I.ok.cab x c hfn hc)))).trans e1⟩
  ·obtain ⟨o',e1⟩:=I.base.there b o e hx;exact ⟨o',(hs.2 b (bN (bA (Heap.lt_size e) (I.ok.cab x c hfn hc)))).trans e1⟩
  ·by_cases hj:j=i
   ·subst hj;rw[hi] at e1;cases e1;rw[List.getElem?_set_self hiσ] at e2;cases e2;exact ⟨u,r,.inr ⟨.inl hk,c,hc,hc'⟩⟩
   ·rw[List.getElem?_set_ne (Ne.symm hj)] at e2;obtain ⟨u',r',q⟩:=hl j y v' e1 e2 e3;refine ⟨u',r',?_⟩;rcases q with q | ⟨k,c',e,z'⟩
    ·exact .inl q
    ·refine .inr ⟨k,c',e,z'.sameBut hs ?_⟩;rintro rfl;exact hj (EG hN e1 (I.ok.inj _ _ _ e hc ▸ hi))
  ·by_cases hcc:c'=c
   ·subst hcc;exact ⟨_,hc'⟩
   ·obtain ⟨w2,z2⟩:=I.cell y c' e;exact ⟨w2,z2.sameBut hs hcc⟩
  ·obtain ⟨e,n,ne,nf,d⟩:=I.pin p hp;refine ⟨(hs.2 p.1 ?_).trans e,n,ne,nf,d⟩;intro q;rw[q,hoc] at e;have q':oc=p.2:=bU e;exact d w' (by rw[<- q'];exact hocd)
theorem uh {M:Model} {A:Around} {E:Value->Shared->Prop} {i:Nat} {x:Str} {v:V} {u:Value} {Q:Unit->Shared->Prop} (I:Inv X pins σ H s) (hN:X.N.Nodup) (hi:X.N[i]?=some x) (hx:Loc X.env.scope x) (r:RelV v u)
  (h:∀s',Inv X pins (σ.set i (some v)) H s'->Q () s') (hf:X.fn x=true\/X.env.scope.names.lookup x=some .local:=by first | exact .inl rfl | exact .inr rfl | assumption):wpAny M A (storeName X.env x u) Q E s :=
 Bj I hN hi hx r (λs' I' _=>h s' I') hf
theorem Inv.call' (I:Inv X pins σ H s) (ho:s'.os=s.os) (u:Un (uF X.stack) ch H H' s.heap s'.heap) (hok:vB X.prog X.w H' s'.heap) (hg:AllBare s'.gens)
  (hch:∀b∈ch,(b∈X.ex\/X.s₀.heap.objs.size<=b)/\b≠X.env.locals/\(∀x c,X.env.cells.lookup x=some c->c≠b)/\∀p∈X.pn++pins,p.1≠b):Inv X pins σ H' s':=by
 obtain ⟨h',g',d',t',o'⟩:=s';have e:o'=s.os:=ho;subst e;exact I.call (g':=g') (t':=t') (d':=d') u hok hg hch
end
abbrev XK:=Value->Option Addr->Hp->Prop
abbrev St:=List (Option V)
abbrev VK:=V->Hp->Prop
abbrev TE:=St->Hp->VK->Prop
abbrev TT:=St->Hp->(Bool->Hp->Prop)->Prop
abbrev TA:=St->Hp->(List V->Hp->Prop)->Prop
structure Ends where
 nx:St->Hp->Prop
 rt:VK
 bk:St->Hp->Prop:=λ_ _=>False
 ct:St->Hp->Prop:=λ_ _=>False
abbrev TS:=Ends->St->Hp->Prop
def EP (X:Cx) (pins:List (Addr×Obj)) (σ:St) (Q:VK) (u:Value) (s':Shared):Prop:=∃v H',Inv X pins σ H' s'/\RelV v u/\Q v H'
def TP (X:Cx) (pins:List (Addr×Obj)) (σ:St) (Q:Bool->Hp->Prop) (b:Bool) (s':Shared):Prop:=∃H',Inv X pins σ H' s'/\Q b H'
def AP (X:Cx) (pins:List (Addr×Obj)) (σ:St) (Q:List V->Hp->Prop) (us:List Value) (s':Shared):Prop:=∃vs H',Inv X pins σ H' s'/\cM vs us/\Q vs H'
def SP (X:Cx) (pins:List (Addr×Obj)) (D:Ends) (f:Flow) (s':Shared):Prop :=
 match f with
 | .next=>∃σ' H',Inv X pins σ' H' s'/\D.nx σ' H'
 | .brk=>∃σ' H',Inv X pins σ' H' s'/\D.bk σ' H'
 | .cont=>∃σ' H',Inv X pins σ' H' s'/\D.ct σ' H'
 | .ret u=>∃v σ' H',Inv X pins σ' H' s'/\RelV v u/\D.rt v H'
def PE (X:Cx) (e:Expr) (t:TE):Prop :=
 ∀(pins:List (Addr×Obj)) (s:Shared) (σ:St) (H:Hp) (Q:VK),Inv X pins σ H s->t σ H Q->wpAny (model X.prog X.w) X.A (eval e X.env) (EP X pins σ Q) X.xe s
def PT (X:Cx) (e:Expr) (t:TT):Prop :=
 ∀(pins:List (Addr×Obj)) (s:Shared) (σ:St) (H:Hp) (Q:Bool->Hp->Prop),Inv X pins σ H s->t σ H Q->wpAny (model X.prog X.w) X.A (isTrue e X.env (eval e X.env)) (TP X pins σ Q) X.xe s
def PW (X:Cx) (e:Expr) (t:TT):Prop :=
 ∀(whole:Sem Value) (pins:List (Addr×Obj)) (s:Shared) (σ:St) (H:Hp) (Q:Bool->Hp->Prop),Inv X pins σ H s->t σ H Q->wpAny (model X.prog X.w) X.A (isTrue e X.env whole) (TP X pins σ Q) X.xe s
theorem PW.pt (h:PW X e t):PT X e t:=h _
def PA (X:Cx) (es:List Expr) (t:TA):Prop :=
 ∀(pos:Pos) (pins:List (Addr×Obj)) (s:Shared) (σ:St) (H:Hp) (Q:List V->Hp->Prop),Inv X pins σ H s->t σ H Q->wpAny (model X.prog X.w) X.A (spliced (backTo pos (starEach es X.env))) (AP X pins σ Q) X.xe s
def PS (X:Cx) (st:Stmt) (t:TS):Prop :=
 ∀(pins:List (Addr×Obj)) (s:Shared) (σ:St) (H:Hp) (D:Ends),Inv X pins σ H s->t D σ H->wpAny (model X.prog X.w) X.A (exec st X.env) (SP X pins D) X.xe s
def DU (X:Cx) (st:List Stmt) (t:TS):Prop :=
 ∀(pins:List (Addr×Obj)) (s:Shared) (σ:St) (H:Hp) (D:Ends),Inv X pins σ H s->t D σ H->wpAny (model X.prog X.w) X.A (execs st X.env) (SP X pins D) X.xe s
theorem fz {t:Sem α} {Q Q':α->Shared->Prop} (h:wpAny M A t Q E s) (hQ:∀a s,Q a s->Q' a s):wpAny M A t Q' E s:=wpAny_mono h hQ λ_ _ x=>x
section
variable {X:Cx}
def Pj (i:Nat):TE:=λσ H Q=>∃v,σ[i]?=some (some v)/\Q v H
def tC (v:V):TE:=λ_ H Q=>Q v H
theorem Qd {i:Nat} {x:Str} {pos:Pos} (hN:X.N[i]?=some x) (hv:Ti X.env.scope x) (hd:(x == ("__debug__":Str))=false:=by decide) (hcd:(x == ("__classdict__":Str))=false:=by decide):PE X (.Name x pos) (Pj i):=by
 intro pins s σ H Q I h;obtain ⟨v,e,h⟩:=h;obtain ⟨m,hn,hl⟩:=I.loc;obtain ⟨u,r,l⟩:=hl i x v hN e hv;have fin:EP X pins σ Q u s:=⟨v,H,I,r,h⟩;rcases l with ⟨hk,hm⟩ | ⟨hk,c,hc,hcell⟩
 ·exact wpAny_Name (wpAny_loadName_local I.ok.kind hk hn hm fin) hd
 ·rcases hk with hk | hk
  ·exact wpAny_Name (wpAny_loadName_cell I.ok.kind hk hc hcell fin) hd
  ·exact wpAny_Name (wpAny_loadName_free I.ok.kind hk hc hcell fin hcd) hd
theorem ao:PE X (.Constant (.int i) j pos) (tC (.int i)):=λ_ _ _ H _ I h=>wpAny_Constant_int ⟨.int i,H,I.tok _,⟨_,rfl⟩,h⟩
theorem mE:PE X (.Constant (.bool b) j pos) (tC (.bl b)):=λ_ _ _ H _ I h=>Constant_bool ⟨.bl b,H,I,rfl,h⟩
theorem FT:PE X (.Constant .none j pos) (tC .non):=λ_ _ _ H _ I h=>Constant_none ⟨.non,H,I,rfl,h⟩
theorem v5:PE X (.Constant (.str x) j pos) (tC (.str x)):=λ_ _ _ H _ I h=>Calls.Constant_str ⟨.str x,H,I.tok _,⟨_,rfl⟩,h⟩
def Gl (X:Cx) (x:Str):Prop:=X.env.kindOf x=some .globalImplicit
theorem rV {E:Value->Shared->Prop} {pins:List (Addr×Obj)} {s:Shared} {σ:St} {H:Hp} {x:Str} {u:Value} {pos:Pos} {Q:Value->Shared->Prop} (I:Inv X pins σ H s) (hg:Gl X x) (hm:X.mg x=some u) (h:Q u s)
  (hd:(x == ("__debug__":Str))=false:=by decide):wpAny (model X.prog X.w) X.A (eval (.Name x pos) X.env) Q E s :=
 Calls.Name_function_global I.ok.kind hg (Calls.loadGlobal_global (by rw[I.ok.glob];exact I.mod.glob.keeps I.bk) hm h) hd
theorem jR {E:Value->Shared->Prop} {pins:List (Addr×Obj)} {s:Shared} {σ:St} {H:Hp} {x:Str} {u:Value} {pos:Pos} {Q:Value->Shared->Prop} (I:Inv X pins σ H s) (hg:Gl X x) (hm:X.mg x=none) (hv:bootBuiltins x=some u) (h:Q u s)
  (hn:x≠"__name__":=by decide) (hd:(x == ("__debug__":Str))=false:=by decide):wpAny (model X.prog X.w) X.A (eval (.Name x pos) X.env) Q E s:=by
 obtain ⟨mb,h1,h2⟩:=I.mod.blt;exact Calls.Name_function_global I.ok.kind hg (Calls.loadGlobal_builtin (by rw[I.ok.glob];exact I.mod.glob.keeps I.bk) hm (by rw[I.ok.blt];exact h1.keeps I.bk) ((h2 x hn).trans hv) h) hd
theorem jW {x:Str} {v:V} {u:Value} {pos:Pos} (hg:Gl X x) (hm:X.mg x=some u) (r:RelV v u) (hd:(x == ("__debug__":Str))=false:=by decide):PE X (.Name x pos) (tC v) :=
 λ_ _ _ H _ I h=>rV I hg hm ⟨v,H,I,r,h⟩ hd
theorem HP {x:Str} {v:V} {u:Value} {pos:Pos} (hg:Gl X x) (hm:X.mg x=none) (hv:bootBuiltins x=some u) (r:RelV v u) (hn:x≠"__name__":=by decide) (hd:(x == ("__debug__":Str))=false:=by decide):PE X (.Name x pos) (tC v) :=
 λ_ _ _ H _ I h=>jR I hg hm hv ⟨v,H,I,r,h⟩ hn hd
variable {a b:Expr} {ta tb:TE} {pos:Pos}
def tB (t:TE):TT:=λσ H Q=>t σ H λx H1=>∃c,x=.bl c/\Q c H1
theorem jc {e:Expr} {t:TE} (h:PE X e t) (he:∀whole,isTrue e X.env whole=(do let v <- whole;standAt e.pos;holding [v] (truthy v)):=by intro _;rfl):PT X e (tB t):=by
 intro pins s σ H Q I hw;refine isTrue_plain (fz (h pins s σ H _ I hw) λv s1 ⟨x,H1,I1,r1,q1⟩=>?_) (he _);obtain ⟨d,rfl,q⟩:=q1;cases r1;exact wpAny_truthy_bool ⟨H1,I1,q⟩
variable {tA tB':TT} {rest:List Expr}
def Ry (t u:TT):TT:=λσ H Q=>t σ H λc H1=>if c=true then u σ H1 Q else Q false H1
def tOr (t u:TT):TT:=λσ H Q=>t σ H λc H1=>if c=true then Q true H1 else u σ H1 Q
def Rm (t:TT):TT:=λσ H Q=>t σ H λc H1=>Q (!c) H1
theorem jU (ha:PT X a tA):PW X (.BoolOp .And [a] pos) tA:=by
 intro wh pins s σ H Q I h;refine isTrue_and (fz (ha pins s σ H Q I h) λc s1 e=>?_);cases c with
 | true=>exact isTrue_and_nil e
 | false=>exact e
theorem kr (ha:PT X a tA):PW X (.BoolOp .Or [a] pos) tA:=by
 intro wh pins s σ H Q I h;refine isTrue_or (fz (ha pins s σ H Q I h) λc s1 e=>?_);cases c with
 | false=>exact isTrue_or_nil e
 | true=>exact e
theorem jb (ha:PT X a tA) (hb:PW X (.BoolOp .And (b :: rest) pos) tB'):PW X (.BoolOp .And (a :: b :: rest) pos) (Ry tA tB'):=by
 intro wh pins s σ H Q I h;refine isTrue_and (fz (ha pins s σ H _ I h) λc s1 ⟨H1,I1,q1⟩=>?_);cases c with
 | true=>exact hb wh pins s1 σ H1 Q I1 q1
 | false=>exact ⟨H1,I1,q1⟩
theorem pP (ha:PT X a tA) (hb:PW X (.BoolOp .Or (b :: rest) pos) tB'):PW X (.BoolOp .Or (a :: b :: rest) pos) (tOr tA tB'):=by
 intro wh pins s σ H Q I h;refine isTrue_or (fz (ha pins s σ H _ I h) λc s1 ⟨H1,I1,q1⟩=>?_);cases c with
 | true=>exact ⟨H1,I1,q1⟩
 | false=>exact hb wh pins s1 σ H1 Q I1 q1
theorem jK (ha:PT X a tA):PT X (.UnaryOp .Not a pos) (Rm tA):=by
 intro pins s σ H Q I h;exact isTrue_not (ha pins s σ H (λc H1=>Q (!c) H1) I h)
def OF (ta tb:TE):TE:=λσ H Q=>ta σ H λx H1=>∃c,x=.bl c/\if c=true then tb σ H1 Q else Q (.bl false) H1
def Rj (ta tb:TE):TE:=λσ H Q=>ta σ H λx H1=>∃c,x=.bl c/\if c=true then Q (.bl true) H1 else tb σ H1 Q
def Oz (ta:TE):TE:=λσ H Q=>ta σ H λx H1=>∃c,x=.bl c/\Q (.bl (!c)) H1
theorem yY (h:PE X a t):PE X (.BoolOp op [a] pos) t:=λpins s σ H Q I hw=>BoolOp_one (h pins s σ H Q I hw)
theorem C0 (ha:PE X a ta) (hb:PE X (.BoolOp .And (b :: rest) pos) tb):PE X (.BoolOp .And (a :: b :: rest) pos) (OF ta tb):=by
 intro pins s σ H Q I h;refine BoolOp_and (fz (ha pins s σ H _ I h) λv s1 ⟨x,H1,I1,r1,q1⟩=>?_);obtain ⟨c,rfl,q1⟩:=q1;cases r1;refine wpAny_truthy_bool ?_;cases c with
 | true=>exact hb pins s1 σ H1 Q I1 q1
 | false=>exact ⟨.bl false,H1,I1,rfl,q1⟩
theorem RS (ha:PE X a ta) (hb:PE X (.BoolOp .Or (b :: rest) pos) tb):PE X (.BoolOp .Or (a :: b :: rest) pos) (Rj ta tb):=by
 intro pins s σ H Q I h;refine BoolOp_or (fz (ha pins s σ H _ I h) λv s1 ⟨x,H1,I1,r1,q1⟩=>?_);obtain ⟨c,rfl,q1⟩:=q1;cases r1;refine wpAny_truthy_bool ?_;cases c with
 | false=>exact hb pins s1 σ H1 Q I1 q1
 | true=>exact ⟨.bl true,H1,I1,rfl,q1⟩
theorem Qf (ha:PE X a ta):PE X (.UnaryOp .Not a pos) (Oz ta):=by
 intro pins s σ H Q I h;refine UnaryOp_ (fz (ha pins s σ H _ I h) λv s1 ⟨x,H1,I1,r1,q1⟩=>?_);obtain ⟨c,rfl,q1⟩:=q1;cases r1;exact not_of (wpAny_truthy_bool ⟨.bl (!c),H1,I1,rfl,q1⟩)
def tIf (t:TT) (ta tb:TE):TE:=λσ H Q=>t σ H λc H1=>if c=true then ta σ H1 Q else tb σ H1 Q
theorem Ez (hc:PT X c tA) (ha:PE X a ta) (hb:PE X b tb):PE X (.IfExp c a b pos) (tIf tA ta tb):=by
 intro pins s σ H Q I h;refine wpAny_IfExp (fz (hc pins s σ H _ I h) λd s1 ⟨H1,I1,q1⟩=>?_);cases d with
 | true=>exact ha pins s1 σ H1 Q I1 q1
 | false=>exact hb pins s1 σ H1 Q I1 q1
end
def bE (K:FG9) (H:Hp) (a:Addr) (xs:List V):Prop :=
 Rd H a (.lst xs) \/
  ∃(o:Obj) (its:Array Value) (n:Nat),K.lookup a=some o/\o.cls=.type "list"/\o.dict=none/\o.data=.seq its n/\its.size<=sizeLine/\cM xs its.toList
def pZ (K:FG9) (H:Hp) (a:Addr) (xs:List V):Prop :=
 Rd H a (.tup xs) \/
  ∃(o:Obj) (its:Array Value) (n:Nat),K.lookup a=some o/\o.cls=.type "tuple"/\o.data=.seq its n/\its.size<=sizeLine/\cM xs its.toList
def Th:Value->Option V
 | .none=>some .non
 | .bool b=>some (.bl b)
 | .int i _=>some (.int i)
 | .str x _=>some (.str x)
 | .bytes b _=>some (.byt b)
 | .float b _=>some (.flt b)
 | .ref a=>some (.ref a)
 | .type n=>some (.ty n)
 | _=>none
theorem RelV.abs (r:RelV x u):Th u=some x:=by
 cases x with
 | non=>cases r;rfl
 | bl _=>cases r;rfl
 | int _=>obtain ⟨t,rfl⟩:=r;rfl
 | str _=>obtain ⟨t,rfl⟩:=r;rfl
 | byt _=>obtain ⟨t,rfl⟩:=r;rfl
 | flt _=>obtain ⟨t,rfl⟩:=r;rfl
 | ref _=>cases r;rfl
 | ty _=>cases r;rfl
theorem RelV.inj (r:RelV x u) (q:RelV y u):x=y:=bU (r.abs.symm.trans q.abs)
theorem cM.inj:∀{xs ys:List V} {us:List Value},cM xs us->cM ys us->xs=ys
 | _,_,_,.nil,.nil=>rfl
 | _,_,_,.cons r t,.cons r' t'=>by rw[r.inj r',cM.inj t t']
section
variable {X:Cx} {pins:List (Addr×Obj)} {σ:St} {H:Hp} {s:Shared} {a:Addr} {xs ys:List V}
theorem bE.of {K:FG9} (h:H a=some (.lst xs)):bE K H a xs:=.inl (.inl h)
theorem pZ.of {K:FG9} (h:H a=some (.tup xs)):pZ K H a xs:=.inl (.inl h)
theorem Inv.list (I:Inv X pins σ H s) (h:bE X.K H a xs):∃its:List Value,cM xs its/\PlainL s.heap a its.toArray/\xs.length<=sizeLine:=by
 rcases h with h | ⟨o,its,n,hk,hc,hd,hs,hz,r⟩
 ·obtain ⟨z,its,n,r,e⟩:=h.ok I.hok;exact ⟨its,r,⟨_,n,e,rfl,rfl,rfl⟩,z⟩
 ·refine ⟨its.toList,r,⟨o,n,I.kIn a o hk,hc,hd,by simpa using hs⟩,?_⟩;have e:=r.length;simp only[Array.length_toList] at e
  lia
theorem Inv.tuple (I:Inv X pins σ H s) (h:pZ X.K H a xs):∃its:List Value,cM xs its/\IsTup s.heap a its.toArray/\xs.length<=sizeLine:=by
 rcases h with h | ⟨o,its,n,hk,hc,hs,hz,r⟩
 ·obtain ⟨z,its,r,p⟩:=h.ok I.hok;exact ⟨its,r,p,z⟩
 ·refine ⟨its.toList,r,⟨o,I.kIn a o hk,hc,n,by simpa using hs⟩,?_⟩;have e:=r.length;simp only[Array.length_toList] at e
  lia
theorem Inv.list_inj (I:Inv X pins σ H s) (h:bE X.K H a xs) (h':bE X.K H a ys):xs=ys:=by
 obtain ⟨its,r,⟨o,n,e,_,_,d⟩,_⟩:=I.list h;obtain ⟨its',r',⟨o',n',e',_,_,d'⟩,_⟩:=I.list h';rw[e] at e';cases e';rw[d] at d';injection d' with d1 _
 have:its=its':=by simpa using congrArg Array.toList d1
 subst this;exact r.inj r'
theorem Inv.tuple_inj (I:Inv X pins σ H s) (h:pZ X.K H a xs) (h':pZ X.K H a ys):xs=ys:=by
 obtain ⟨its,r,⟨o,e,_,n,d⟩,_⟩:=I.tuple h;obtain ⟨its',r',⟨o',e',_,n',d'⟩,_⟩:=I.tuple h';rw[e] at e';cases e';rw[d] at d';injection d' with d1 _
 have:its=its':=by simpa using congrArg Array.toList d1
 subst this;exact r.inj r'
end
abbrev Cx.wish (X:Cx) (E:Value->Shared->Prop):Cx:={ X with xe:=E }
abbrev Cx.nox (X:Cx):Cx:=X.wish λ_ _=>False
theorem Cx.Ok.wish {X:Cx} (ok:X.Ok) (E:Value->Shared->Prop):(X.wish E).Ok :=
 ⟨ok.mod,ok.kind,ok.glob,ok.blt,ok.above,ok.inj,ok.has,ok.cab,ok.hd,ok.frames,ok.stk,ok.exf,ok.bs,ok.bsz,ok.noex,ok.exfs,ok.funs,ok.frf⟩
theorem Cx.Ok.unwish {X:Cx} (ok:(X.wish E).Ok):X.Ok :=
 ⟨ok.mod,ok.kind,ok.glob,ok.blt,ok.above,ok.inj,ok.has,ok.cab,ok.hd,ok.frames,ok.stk,ok.exf,ok.bs,ok.bsz,ok.noex,ok.exfs,ok.funs,ok.frf⟩
section
variable {X:Cx} {pins:List (Addr×Obj)} {σ:St} {H:Hp} {s:Shared} {E:Value->Shared->Prop}
theorem Inv.wish (I:Inv X pins σ H s) (E:Value->Shared->Prop):Inv (X.wish E) pins σ H s:=⟨I.ok.wish E,I.os,I.bare,I.base,I.loc,I.cell,I.free,I.freeC,I.pin,I.hok,I.len⟩
theorem Inv.unwish (I:Inv (X.wish E) pins σ H s):Inv X pins σ H s:=⟨I.ok.unwish,I.os,I.bare,I.base,I.loc,I.cell,I.free,I.freeC,I.pin,I.hok,I.len⟩
theorem SP.unwish (h:SP (X.wish E) pins D f s'):SP X pins D f s':=by
 cases f with
 | next=>obtain ⟨σ',H',I,q⟩:=h;exact ⟨σ',H',I.unwish,q⟩
 | brk=>obtain ⟨σ',H',I,q⟩:=h;exact ⟨σ',H',I.unwish,q⟩
 | cont=>obtain ⟨σ',H',I,q⟩:=h;exact ⟨σ',H',I.unwish,q⟩
 | ret u=>obtain ⟨v,σ',H',I,r,q⟩:=h;exact ⟨v,σ',H',I.unwish,r,q⟩
theorem DU.nox {st:List Stmt} (h:DU X.nox st t):DU X st t:=λpins s σ H D I hw =>
 wpAny_mono (h pins s σ H D (I.wish _) hw) (λ_ _ q=>q.unwish) λ_ _ z=>False.elim z
end
section
variable {X:Cx} {st:Stmt} {rest:List Stmt} {t u:TS} {e:Expr} {te:TE} {pos:Pos}
def OA:TS:=λD σ H=>D.nx σ H
def Rf (t u:TS):TS:=λD σ H=>t { D with nx:=u D } σ H
theorem cu:DU X [] OA:=λ_ _ σ H _ I h=>wpAny_execs_nil ⟨σ,H,I,h⟩
theorem ar (h1:PS X st t) (h2:DU X rest u):DU X (st :: rest) (Rf t u):=by
 intro pins s σ H D I h;refine wpAny_execs_cons (fz (h1 pins s σ H { D with nx:=u D } I h) λf s1 q=>?_);cases f with
 | next =>
  obtain ⟨σ',H',I',q⟩:=q;exact h2 pins s1 σ' H' D I' q
 | ret v=>exact q
 | brk=>exact q
 | cont=>exact q
theorem aA (h1:PS X st t):DU X [st] t:=by
 intro pins s σ H D I h;refine wpAny_execs_cons (fz (h1 pins s σ H D I h) λf s1 q=>?_);cases f with
 | next=>exact wpAny_execs_nil q
 | ret v=>exact q
 | brk=>exact q
 | cont=>exact q
theorem Inv.quiet {σ:St} (I:Inv X pins σ H s):interactive X.env=false:=by simp [interactive,I.ok.kind]
def OD (te:TE):TS:=λD σ H=>te σ H λ_ H1=>D.nx σ H1
theorem jV (he:PE X e te) (hs:swapsWith e none pos.line X.env=pure false:=by rfl):PS X (.Expr e pos) (OD te):=by
 intro pins s σ H D I h;exact wpAny_Expr_any (fz (he pins s σ H _ I h) λv s1 ⟨x,H1,I1,r1,q1⟩=>⟨σ,H1,I1,q1⟩) I.quiet hs
def Rg (te:TE):TS:=λD σ H=>te σ H D.rt
theorem aY (he:PE X e te):PS X (.Return (some e) pos) (Rg te):=by
 intro pins s σ H D I h;exact wpAny_Return_some (fz (he pins s σ H _ I h) λv s1 ⟨x,H1,I1,r1,q1⟩=>⟨x,σ,H1,I1,r1,q1⟩)
def Rv (c:TT) (t u:TS):TS:=λD σ H=>c σ H λb H1=>if b=true then t D σ H1 else u D σ H1
theorem dn (hc:PT X c tc) (ha:DU X a t) (hb:DU X b u):PS X (.If c a b pos) (Rv tc t u):=by
 intro pins s σ H D I h;refine wpAny_If (fz (hc pins s σ H _ I h) λd s1 ⟨H1,I1,q1⟩=>?_);cases d with
 | true=>exact ha pins s1 σ H1 D I1 q1
 | false=>exact hb pins s1 σ H1 D I1 q1
end
abbrev TG:=V->St->Hp->(St->Hp->Prop)->Prop
abbrev Mz:=List V->St->Hp->(St->Hp->Prop)->Prop
def PG (X:Cx) (target:Expr) (t:TG):Prop :=
 ∀(pins:List (Addr×Obj)) (s:Shared) (σ:St) (H:Hp) (v:V) (u:Value) (Q:St->Hp->Prop),Inv X pins σ H s->RelV v u->t v σ H Q →
  wpAny (model X.prog X.w) X.A (assign target X.env u) (λ_ s'=>∃σ' H',Inv X pins σ' H' s'/\Q σ' H') X.xe s
def Sw (X:Cx) (ts:List Expr) (t:Mz):Prop :=
 ∀(pins:List (Addr×Obj)) (s:Shared) (σ:St) (H:Hp) (vs:List V) (us:List Value) (Q:St->Hp->Prop),Inv X pins σ H s->cM vs us->t vs σ H Q →
  wpAny (model X.prog X.w) X.A (assignInOrder ((assignEach ts X.env).map (·.2)) us) (λ_ s'=>∃σ' H',Inv X pins σ' H' s'/\Q σ' H') X.xe s
abbrev GH:=V->V->V->Hp->(Hp->Prop)->Prop
def QN (X:Cx) (t:GH):Prop :=
 ∀(pins:List (Addr×Obj)) (s:Shared) (σ:St) (H:Hp) (o i v:V) (ov iv u:Value) (Q:Hp->Prop),Inv X pins σ H s->RelV o ov->RelV i iv->RelV v u->t o i v H Q →
  wpAny (model X.prog X.w) X.A (setItem ov iv u) (λ_ s'=>∃H',Inv X pins σ H' s'/\Q H') X.xe s
abbrev Sv:=V->V->Hp->VK->Prop
def PIp (X:Cx) (op:Operator) (t:Sv):Prop :=
 ∀(pins:List (Addr×Obj)) (s:Shared) (σ:St) (H:Hp) (x y:V) (v u:Value) (Q:VK),Inv X pins σ H s->RelV x v->RelV y u->t x y H Q →
  wpAny (model X.prog X.w) X.A (inplaceOp op v u) (EP X pins σ Q) X.xe s
section
variable {X:Cx} {pos:Pos}
def Ih (i:Nat):TG:=λv σ H Q=>Q (σ.set i (some v)) H
theorem aM {i:Nat} {x:Str} (hN:X.N.Nodup) (hi:X.N[i]?=some x:=by exact rfl) (hx:Loc X.env.scope x:=by exact Or.inl rfl) (hf:X.fn x=true\/X.env.scope.names.lookup x=some .local:=by first | exact .inl rfl | exact .inr rfl | assumption):PG X (.Name x pos) (Ih i):=by
 intro pins s σ H v u Q I r h;exact wpAny_assign_Name (uh I hN hi hx r (λs' I'=>⟨_,H,I',h⟩) hf)
def Sm:Mz:=λvs σ H Q=>vs=[]/\Q σ H
def OV (t:TG) (u:Mz):Mz:=λvs σ H Q=>∃v r,vs=v :: r/\t v σ H λσ' H'=>u r σ' H' Q
theorem fB:Sw X [] Sm:=by
 intro pins s σ H vs us Q I r h;obtain ⟨e,h⟩:=h;subst e;cases r;exact assignInOrder_nil ⟨σ,H,I,h⟩
theorem ck {e:Expr} {es:List Expr} {t:TG} {u:Mz} (h1:PG X e t) (h2:Sw X es u)
  (hs:(assignEach (e :: es) X.env).map (·.2)=assign e X.env :: (assignEach es X.env).map (·.2):=by rfl):Sw X (e :: es) (OV t u):=by
 intro pins s σ H vs us Q I r h;obtain ⟨v,vr,e1,h⟩:=h;subst e1;cases r with
 | cons r rr =>
  rw[hs];refine assignInOrder_cons (fz (h1 pins s σ H _ _ _ I r h) λ_ s1 ⟨σ1,H1,I1,q1⟩=>?_);exact h2 pins s1 σ1 H1 _ _ Q I1 rr q1
def Qy (K:FG9) (n:Nat) (t:Mz):TG:=λv σ H Q=>∃a xs,v=.ref a/\pZ K H a xs/\xs.length=n/\t xs σ H Q
theorem vZ {es:List Expr} {k:Nat} {t:Mz} {n:Nat} (hc:X.calm=true) (h:Sw X es t)
  (hn:(assignEach es X.env).length=n:=by rfl) (hst:(assignEach es X.env).findIdx? (·.1)=none:=by rfl):PG X (.Tuple es k pos) (Qy X.K n t):=by
 intro pins s σ H v u Q I r hw;obtain ⟨a,xs,e1,hq,hl,hw⟩:=hw;subst e1;cases r;obtain ⟨its,rv,ht,hz⟩:=I.tuple hq;refine assign_Tuple_tuple (I.ok.hd hc) ht (by simp [hn,<- hl,rv.length]) hst λh' hx=>?_
 have I1:Inv X pins σ H { s with heap:=h' }:=I.kept (t':=s.toks) λb o e=>hx b o (bN (Heap.lt_size e)) e
 exact h pins _ σ H xs _ Q I1 (by simpa using rv) hw
def Sl (to ti:TE) (t:GH):TG:=λv σ H Q=>to σ H λo H1=>ti σ H1 λi H2=>t o i v H2 λH3=>Q σ H3
theorem ie {o i : Expr} {to ti : TE} {t : GH} (ho : PE X o to) (hi : PE X i ti) (hs : QN X t)
    (ha : ∀ v, assign (.Subscript o i pos) X.env v = (do
      let ov <- holding [v] (eval o X.env)
      let iv <- holding [v, ov] (eval i X.env)
      standAt pos
      holding [v, ov, iv] (setItem ov iv v)
      release [v, ov, iv] []) := by intro _; rfl) : PG X (.Subscript o i pos) (Sl to ti t) := by
  intro pins s σ H v u Q I r h;rw [ha];refine wpAny_bind (wpAny_holding (fz (ho pins s σ H _ I h) λov s1 ⟨x, H1, I1, r1, q1⟩ => ?_));refine wpAny_bind (wpAny_holding (fz (hi pins s1 σ H1 _ I1 q1) λiv s2 ⟨y, H2, I2, r2, q2⟩ => ?_));refine wpAny_bind (wpAny_standAt (wpAny_bind (wpAny_holding (fz (hs pins s2 σ H2 x y v ov iv u _ I2 r1 r2 r q2) λ_ s3 ⟨H3, I3, q3⟩ => ?_))));exact wpAny_release ⟨σ, H3, I3, q3⟩
def MK (te:TE) (g:TG):TS:=λD σ H=>te σ H λx H1=>g x σ H1 D.nx
theorem fV {tg e:Expr} {te:TE} {g:TG} (he:PE X e te) (hg:PG X tg g) (hs:swapsWithSole [tg] e pos.line X.env=pure false:=by rfl) (hw:swappedStores [tg] e X.env=pure none:=by rfl)
  (h1:(assignEach [tg] X.env).map (·.2)=[assign tg X.env]:=by rfl):PS X (.Assign [tg] e pos) (MK te g):=by
 intro pins s σ H D I h;refine wpAny_Assign_stores (fz (he pins s σ H _ I h) λv s1 ⟨x,H1,I1,r1,q1⟩=>?_) hs hw;rw[h1];exact fz (hg pins s1 σ H1 x v _ I1 r1 q1) λ_ s2 q=>q
theorem a9 {i:Nat} {x:Str} {e:Expr} {te:TE} {pos':Pos} (hN:X.N.Nodup) (hi:X.N[i]?=some x) (hx:Loc X.env.scope x) (he:PE X e te) (hs:swapsWith e (some (.Name x pos')) pos.line X.env=pure false:=by rfl) (hf:X.fn x=true\/X.env.scope.names.lookup x=some .local:=by first | exact .inl rfl | exact .inr rfl | assumption) :
  PS X (.Assign [.Name x pos'] e pos) (MK te (Ih i)):=by
 intro pins s σ H D I h;refine wpAny_Assign_Name (fz (he pins s σ H _ I h) λv s1 ⟨y,H1,I1,r1,q1⟩=>?_) hs;exact uh I1 hN hi hx r1 (λs2 I2=>⟨_,H1,I2,q1⟩) hf
def Ri (i j:Nat) (ta:TA):TS:=λD σ H=>ta σ H λvs H1=>∃v w,vs=[v,w]/\D.nx ((σ.set i (some v)).set j (some w)) H1
theorem K7 {i j:Nat} {x y:Str} {a b:Expr} {ta:TA} {px py pt:Pos} {kt k2 pt2} (hc:X.calm=true) (hN:X.N.Nodup) (hi:X.N[i]?=some x) (hj:X.N[j]?=some y) (hij:i≠j)
  (hx:X.env.scope.names.lookup x=some .local) (hy:X.env.scope.names.lookup y=some .local) (ha:PA X [a,b] ta)
  (hw:swappedStores [.Tuple [.Name x px,.Name y py] kt pt] (.Tuple [a,b] k2 pt2) X.env=pure (some [x,y]))
  (hs:swapsWithSole [.Tuple [.Name x px,.Name y py] kt pt] (.Tuple [a,b] k2 pt2) pos.line X.env=pure false:=by rfl) :
  PS X (.Assign [.Tuple [.Name x px,.Name y py] kt pt] (.Tuple [a,b] k2 pt2) pos) (Ri i j ta):=by
 intro pins s σ H D I h;rw[exec_Assign_arm];refine wpAny_bind (wpAny_standAt ?_);rw[hs];refine wpAny_bind (wpAny_pure ?_);rw[if_neg (by decide)];refine wpAny_bind (Tuple_ (fz (ha _ pins s σ H _ I h) λus s1 ⟨vs,H1,I1,r1,q1⟩=>?_));obtain ⟨v,w,e1,q1⟩:=q1;subst e1
 obtain ⟨u1,u2,rfl,rv,rw'⟩:∃u1 u2,us=[u1,u2]/\RelV v u1/\RelV w u2:=by
  cases r1 with
  | cons p q =>
   cases q with
   | cons p' q' =>
    cases q';exact ⟨_,_,rfl,p,p'⟩
 refine wpAny_newObj_type ?_ (by show 2<=sizeLine;decide);have I2:Inv X pins σ H1 { s1 with heap:=s1.heap.push { cls:=.type "tuple",data:=.seq [u1,u2].toArray } }:=I1.kept (t':=s1.toks) λb o e=>Heap.get?_push_of_some _ e
 rw[hw];refine wpAny_bind (wpAny_pure ?_);show wpAny (model X.prog X.w) X.A (do rule "assign.swapped-stores";let items <- unpackItems (.ref s1.heap.objs.size) 2 none;assignInOrder [λv=>bindName X.env y v,λv=>bindName X.env x v] items.reverse;pure Flow.next) _ _ _
 refine wpAny_bind (wpAny_rule (wpAny_bind (unpackItems_tuple (items:=#[u1,u2]) (I.ok.hd hc) (IsTup.new s1.heap _) λh' hx'=>?_)));have I3:=I2.kept (h':=h') (t':=s1.toks) λb o e=>hx' b o (bN (Heap.lt_size e)) e
 show wpAny _ _ (assignInOrder [λv=>bindName X.env y v,λv=>bindName X.env x v] [u2,u1] >>= λ_=>pure Flow.next) _ _ _
 refine wpAny_bind (assignInOrder_cons (wpAny_bindName (uh I3 hN hj (.inl hy) rw' (λs2 I4=>?_) (.inr hy))));refine assignInOrder_cons (wpAny_bindName (uh I4 hN hi (.inl hx) rv (λs3 I5=>assignInOrder_nil (wpAny_pure ?_)) (.inr hx)));rw[List.set_comm _ _ (Ne.symm hij)] at I5;exact ⟨_,H1,I5,q1⟩
def OE (to ti te:TE) (tget:V->V->Hp->VK->Prop) (tip:Sv) (tset:GH):TS:=λD σ H=>to σ H λo H1=>ti σ H1 λi H2=>tget o i H2 λx H3=>te σ H3 λy H4=>tip x y H4 λz H5=>tset o i z H5 λH6=>D.nx σ H6
def Sy (X:Cx) (t:V->V->Hp->VK->Prop):Prop :=
 ∀(pins:List (Addr×Obj)) (s:Shared) (σ:St) (H:Hp) (o i:V) (ov iv:Value) (Q:VK),Inv X pins σ H s->RelV o ov->RelV i iv->t o i H Q →
  wpAny (model X.prog X.w) X.A (getItem ov iv) (EP X pins σ Q) X.xe s
theorem Nv {o i e:Expr} {to ti te:TE} {tget:V->V->Hp->VK->Prop} {tip:Sv} {tset:GH} {op:Operator} {tpos:Pos} (ho:PE X o to) (hi:PE X i ti) (hg:Sy X tget) (he:PE X e te) (hp:PIp X op tip) (hs:QN X tset)
  (ha:∀ov iv new,augStore i ov iv new=(do holding [new,ov,iv] (setItem ov iv new);release [new,ov,iv] [];pure .next):=by intros;rfl):PS X (.AugAssign (.Subscript o i tpos) op e pos) (OE to ti te tget tip tset):=by
 intro pins s σ H D I h;refine wpAny_AugAssign_SubscriptAny (fz (ho pins s σ H _ I h) λov s1 ⟨x1,H1,I1,r1,q1⟩=>?_) ha;refine fz (hi pins s1 σ H1 _ I1 q1) λiv s2 ⟨x2,H2,I2,r2,q2⟩=>?_
 refine fz (hg pins s2 σ H2 x1 x2 ov iv _ I2 r1 r2 q2) λold s3 ⟨x3,H3,I3,r3,q3⟩=>?_
 refine fz (he pins s3 σ H3 _ I3 q3) λv s4 ⟨x4,H4,I4,r4,q4⟩=>?_
 refine fz (hp pins s4 σ H4 x3 x4 old v _ I4 r3 r4 q4) λnew s5 ⟨x5,H5,I5,r5,q5⟩=>?_
 exact fz (hs pins s5 σ H5 x1 x2 x5 ov iv new _ I5 r1 r2 r5 q5) λ_ s6 ⟨H6,I6,q6⟩=>⟨σ,H6,I6,q6⟩
def ipI (f:Int->Int->Int):Sv:=λx y H Q=>∃i j,x=.int i/\y=.int j/\Q (.int (f i j)) H
theorem Qr:PIp X .Add (ipI λi j=>i+j):=by
 intro pins s σ H x y v u Q I r1 r2 h;obtain ⟨i,j,e1,e2,q⟩:=h;subst e1;subst e2;obtain ⟨t,rfl⟩:=r1;obtain ⟨t',rfl⟩:=r2;exact iadd_int ⟨.int _,H,I.tok _,⟨_,rfl⟩,q⟩
end
section
variable {X:Cx} {pos:Pos}
def Kp (c:TT) (tb:TS):TS:=λD σ H=>∃W:Nat->St->Hp->Prop,(∃m,W m σ H)/\∀m σ H,W m σ H →
 c σ H λb H1=>if b=true then ∃N:St->Hp->Prop,(∀σ' H',N σ' H'->∃m',m' < m/\W m' σ' H')/\tb { D with nx:=N,ct:=N,bk:=D.nx } σ H1 else D.nx σ H1
theorem yV (hp:PassesOwn (model X.prog X.w) X.A X.env X.xe) (hc:PT X c tc) (hb:DU X body tb):PS X (.While c body [] pos) (Kp tc tb):=by
 intro pins s σ H D I h;obtain ⟨W,⟨m0,w0⟩,turn⟩:=h;refine wpAny_While (codeAny_whileLoop (λn s'=>∃σ' H',Inv X pins σ' H' s'/\W n σ' H') ?_ m0 ⟨σ,H,I,w0⟩);rintro n s1 ⟨σ1,H1,I1,w1⟩;refine wpAny_passesOwn hp (fz (hc pins s1 σ1 H1 _ I1 (turn n σ1 H1 w1)) λb s2 ⟨H2,I2,q2⟩=>?_);cases b with
 | true =>
  obtain ⟨N,hN,q2⟩:=q2;rw[if_pos rfl];refine wpAny_passesOwn hp (fz (hb pins s2 σ1 H2 _ I2 q2) λf s3 q3=>?_);cases f with
  | next =>
   obtain ⟨σ3,H3,I3,n3⟩:=q3;obtain ⟨m',hm,w3⟩:=hN σ3 H3 n3;exact ⟨m',hm,σ3,H3,I3,w3⟩
  | cont =>
   obtain ⟨σ3,H3,I3,n3⟩:=q3;obtain ⟨m',hm,w3⟩:=hN σ3 H3 n3;exact ⟨m',hm,σ3,H3,I3,w3⟩
  | brk=>exact q3
  | ret v=>exact q3
 | false =>
  rw[if_neg aO];exact wpAny_execs_nil ⟨σ1,H2,I2,q2⟩
end
structure It where
 go:Nat->Hp->Prop
 yld:Nat->Hp->V->Hp->Prop
 stop:Nat->Hp->Prop
def jv (X:Cx) (pins:List (Addr×Obj)) (H:Hp) (b:Addr):Prop :=
 H b=none/\b≠X.env.locals/\b∉X.fs/\(b∈X.ex\/X.s₀.heap.objs.size<=b)/\(∀x c,X.env.cells.lookup x=some c->c≠b)/\∀p∈X.pn++pins,p.1≠b
theorem Inv.fpOk {σ:St} {b:Addr} (I:Inv X pins σ H s) (hb:s.heap.objs.size<=b) (hn:H' b=none):jv X pins H' b:=by
 refine ⟨hn,mO (bA I.lt hb),I.nofs hb,.inr (ag I.sz hb),λx c e z=>?_,λp hp z=>?_⟩
 ·obtain ⟨v,q⟩:=I.cell x c e;exact absurd (bA q.lt (by rw[z];exact hb)) (eQ _)
 ·exact absurd (bA (Heap.lt_size (I.pin p hp).1) (by rw[z];exact hb)) (eQ _)
structure Turn (P:Program) (w:World) (K:FG9) (tg:Expr) (J:It) (fp:List Addr) (it:Addr) (tn:Nat->Heap->Prop):Prop where
 mem:it∈fp
 obj:∀i h,tn i h->∀b∈fp,∃o,h.get? b=some o/\∀v,o.data≠.cell v
 keep:∀i h h',tn i h->(∀b∈fp,∀o,h.get? b=some o->h'.get? b=some o)->tn i h'
 item:∀(X:Cx),X.prog=P->X.w=w->X.K=K->X.calm=true->∀(i:Nat) (pins:List (Addr×Obj)) (s:Shared) (σ:St) (H:Hp) (E:Value->Shared->Prop),Inv X pins σ H s->(∀b∈fp,jv X pins H b)->tn i s.heap->J.go i H →
  wpAny (model P w) X.A (pyNext (.ref it)) (λr s1=>∃u,r=some u /\
   wpAny (model P w) X.A (letOwnedTupleGo tg (.ref it) u) (λ_ s2=>∃x H',Inv X pins σ H' s2/\RelV x u/\J.yld i H x H'/\tn (i+1) s2.heap/\∀b∈fp,H' b=none) E s1) E s
 done:∀(X:Cx),X.prog=P->X.w=w->X.K=K->X.calm=true->∀(i:Nat) (pins:List (Addr×Obj)) (s:Shared) (σ:St) (H:Hp) (E:Value->Shared->Prop),Inv X pins σ H s->(∀b∈fp,jv X pins H b)->tn i s.heap->J.stop i H →
  wpAny (model P w) X.A (pyNext (.ref it)) (λr s1=>r=none/\Inv X pins σ H s1) E s
 self:∀(A:Around) (i:Nat) (s:Shared) (Q:Value->Shared->Prop) (E:Value->Shared->Prop),tn i s.heap->Q (.ref it) s->wpAny (model P w) A (pyIter (.ref it)) Q E s
abbrev TI:=St->Hp->(It->Hp->Prop)->Prop
def PIE (X:Cx) (pins:List (Addr×Obj)) (σ:St) (tg:Expr) (R:It->Hp->Prop) (itv:Value) (s2:Shared):Prop :=
 ∃(it:Addr) (fp:List Addr) (tn:Nat->Heap->Prop) (J:It) (H':Hp),itv=.ref it/\Inv X pins σ H' s2/\Turn X.prog X.w X.K tg J fp it tn/\tn 0 s2.heap/\(∀b∈fp,jv X pins H' b)/\R J H'
def PI (X:Cx) (tg iter:Expr) (wi:TI):Prop :=
 ∀(pins:List (Addr×Obj)) (s:Shared) (σ:St) (H:Hp) (R:It->Hp->Prop),Inv X pins σ H s->wi σ H R →
  wpAny (model X.prog X.w) X.A (eval iter X.env) (λv s1=>wpAny (model X.prog X.w) X.A (pyIter v) (PIE X pins σ tg R) X.xe s1) X.xe s
theorem Ie (ho:s.heap.get? it=some o) (hc:o.cls=.type n) (hd:o.data=.fields vs)
  (hn:["enumerate","zip","dict_itemiterator","dict_reverseitemiterator","odict_iterator","itertools.zip_longest","itertools.pairwise"].contains n=false) (hQ:Q () s):wpAny M A (letOwnedTupleGo tg (.ref it) u) Q E s:=by
 unfold letOwnedTupleGo
 cases tg <;> first
  | exact wpAny_pure hQ
  | (cases u <;> first | exact wpAny_pure hQ | (refine wpAny_bind (wpAny_load ho ?_);rw[hc,hd];show wpAny M A (if (["enumerate","zip","dict_itemiterator","dict_reverseitemiterator","odict_iterator","itertools.zip_longest","itertools.pairwise"].contains n && vs[0]? == some (rawInt _))=true then _ else _) Q E s;rw[if_neg (by intro h;rw[hn,Bool.false_and] at h;cases h)];exact wpAny_pure hQ))
def O3 (K:FG9) (a:Addr):It :=
 ⟨λi H=>∃xs x,bE K H a xs/\xs[i]?=some x,λi H x H'=>H'=H/\∀xs,bE K H a xs->xs[i]?=some x,λi H=>∃xs,bE K H a xs/\xs.length<=i⟩
def Q3 (K:FG9) (a:Addr):It :=
 ⟨λi H=>∃xs x,pZ K H a xs/\xs[i]?=some x,λi H x H'=>H'=H/\∀xs,pZ K H a xs->xs[i]?=some x,λi H=>∃xs,pZ K H a xs/\xs.length<=i⟩
def Fn (lo:Int) (n:Nat):It:=⟨λi _=>i < n,λi H x H'=>H'=H/\x=.int (lo+i),λi _=>n<=i⟩
theorem Je {P:Program} {w:World} {K:FG9} {tg:Expr} (a it:Addr):Turn P w K tg (O3 K a) [it] it (λi h=>h.IsListIter it a i) where
 mem:=by simp
 obj:=λi h st b hb=>by
  have e:b=it:=by simpa using hb
  subst e;obtain ⟨o,e,c,d⟩:=st;exact ⟨o,e,λv z=>by rw[d] at z;cases z⟩
 keep:=λi h h' st k=>st.at λo e=>k it (by simp) o e
 item:=by
  intro X hP hw hK hc i pins s σ H E I hf st hg;subst hP hw hK;obtain ⟨xs,x,hq,hx⟩:=hg;obtain ⟨its,rv,p,hz⟩:=I.list hq;obtain ⟨u,hu,ru⟩:=rv.get hx;obtain ⟨f0,f1,f2,f3,f4,f5⟩:=hf it (by simp);refine wpAny_pyNext_list_item st p.isList (x:=u) (by simpa using hu) λh' st' sb=>?_
  have I1:Inv X pins σ H { s with heap:=h' }:=I.turned (t':=s.toks) (λb o hb e=>(sb.2 b hb).trans e) f0 f1 f3 f4 f5;obtain ⟨o,e,c,d⟩:=id st';exact ⟨u,rfl,Ie (s:={ s with heap:=h' }) e c d (by decide) ⟨x,H,I1,ru,⟨rfl,λys hy=>by rw[I.list_inj hy hq];exact hx⟩,st',λb hb=>(hf b hb).1⟩⟩
 done:=by
  intro X hP hw hK hc i pins s σ H E I hf st hg;subst hP hw hK;obtain ⟨xs,hq,hx⟩:=hg;obtain ⟨its,rv,p,hz⟩:=I.list hq;obtain ⟨f0,f1,f2,f3,f4,f5⟩:=hf it (by simp);have hl:=rv.length;exact wpAny_pyNext_list_end (I.ok.hd hc) st p.isList (by simp;lia) λh' eb=>⟨rfl,I.turned (t':=s.toks) (λb o hb e=>eb b o hb e) f0 f1 f3 f4 f5⟩
 self:=λ_ _ _ _ _ st h=>wpAny_pyIter_listiter st h
theorem FC {P:Program} {w:World} {K:FG9} {tg:Expr} (a it:Addr):Turn P w K tg (Q3 K a) [it] it (λi h=>h.IsTupleIter it a i) where
 mem:=by simp
 obj:=λi h st b hb=>by
  have e:b=it:=by simpa using hb
  subst e;obtain ⟨o,e,c,d⟩:=st;exact ⟨o,e,λv z=>by rw[d] at z;cases z⟩
 keep:=λi h h' st k=>st.at λo e=>k it (by simp) o e
 item:=by
  intro X hP hw hK hc i pins s σ H E I hf st hg;subst hP hw hK;obtain ⟨xs,x,hq,hx⟩:=hg;obtain ⟨its,rv,p,hz⟩:=I.tuple hq;obtain ⟨u,hu,ru⟩:=rv.get hx;obtain ⟨f0,f1,f2,f3,f4,f5⟩:=hf it (by simp);refine wpAny_pyNext_tuple_item st (show s.heap.IsTuple a its.toArray from p) (x:=u) (by simpa using hu) λh' st' sb=>?_
  have I1:Inv X pins σ H { s with heap:=h' }:=I.turned (t':=s.toks) (λb o hb e=>(sb.2 b hb).trans e) f0 f1 f3 f4 f5;obtain ⟨o,e,c,d⟩:=id st';exact ⟨u,rfl,Ie (s:={ s with heap:=h' }) e c d (by decide) ⟨x,H,I1,ru,⟨rfl,λys hy=>by rw[I.tuple_inj hy hq];exact hx⟩,st',λb hb=>(hf b hb).1⟩⟩
 done:=by
  intro X hP hw hK hc i pins s σ H E I hf st hg;subst hP hw hK;obtain ⟨xs,hq,hx⟩:=hg;obtain ⟨its,rv,p,hz⟩:=I.tuple hq;obtain ⟨f0,f1,f2,f3,f4,f5⟩:=hf it (by simp);have hl:=rv.length;exact wpAny_pyNext_tuple_end (I.ok.hd hc) st (show s.heap.IsTuple a its.toArray from p) (by simp;lia) λh' eb=>⟨rfl,I.turned (t':=s.toks) (λb o hb e=>eb b o hb e) f0 f1 f3 f4 f5⟩
 self:=λ_ _ _ _ _ st h=>wpAny_pyIter_tupleiter st h
theorem FD {P:Program} {w:World} {K:FG9} {tg:Expr} (it:Addr) (lo:Int) (n:Nat):Turn P w K tg (Fn lo n) [it] it (λi h=>IsRangeIter h it (lo+(i:Nat)*1) ((n:Int) - (i:Nat)) 1) where
 mem:=by simp
 obj:=λi h st b hb=>by
  have e:b=it:=by simpa using hb
  subst e
  exact ⟨_,st,λv z=>by
   have z':Data.fields _=Data.cell v:=z;cases z'⟩
 keep:=λi h h' st k=>k it (by simp) _ st
 item:=by
  intro X hP hw hK hc i pins s σ H E I hf st hg;subst hP hw hK;obtain ⟨f0,f1,f2,f3,f4,f5⟩:=hf it (by simp);have W:=Walks.range (prog:=X.prog) (w:=X.w) (I.ok.hd hc) it lo 1 n;refine W.item i s _ _ hg st λv h' tk hv st' kk=>?_
  obtain ⟨t,rfl⟩:=hv;have I1:Inv X pins σ H { s with heap:=h',toks:=tk }:=I.turned (λb o hb e=>kk b o (by simpa using hb) e) f0 f1 f3 f4 f5;refine ⟨_,rfl,Ie (s:={ s with heap:=h',toks:=tk }) (n:="range_iterator") st' rfl rfl (by decide) ⟨.int (lo+i),H,I1,⟨t,?_⟩,⟨rfl,rfl⟩,st',λb hb=>(hf b hb).1⟩⟩;rw[Int.mul_one]
 done:=by
  intro X hP hw hK hc i pins s σ H E I hf st hg;subst hP hw hK;obtain ⟨f0,f1,f2,f3,f4,f5⟩:=hf it (by simp);exact wpAny_pyNext_range_end (I.ok.hd hc) st (by have:n<=i:=hg;lia) λh' eb=>⟨rfl,I.turned (t':=s.toks) (λb o hb e=>eb b o hb e) f0 f1 f3 f4 f5⟩
 self:=λ_ _ _ _ _ st h=>wpAny_pyIter_rangeiter st h
section
variable {X:Cx} {tg:Expr}
def LD (K:FG9) (tl:TE):TI:=λσ H R=>tl σ H λx H1=>∃a,x=.ref a/\(∃xs,bE K H1 a xs)/\R (O3 K a) H1
def Sg (K:FG9) (tl:TE):TI:=λσ H R=>tl σ H λx H1=>∃a,x=.ref a/\(∃xs,pZ K H1 a xs)/\R (Q3 K a) H1
theorem cL (hl:PE X l tl):PI X tg l (LD X.K tl):=by
 intro pins s σ H R I h;refine fz (hl pins s σ H _ I h) λv s1 ⟨x,H1,I1,r1,q1⟩=>?_
 obtain ⟨a,e,⟨xs,hq⟩,q⟩:=q1;subst e;cases r1;obtain ⟨its,rv,p,hz⟩:=I1.list hq;refine wpAny_pyIter_list p.isList ?_;refine ⟨s1.heap.objs.size,[s1.heap.objs.size],_,_,H1,rfl,I1.kept (t':=s1.toks) λb o e=>Heap.get?_push_of_some _ e,Je a _,⟨_,Heap.get?_push_size _ rfl,rfl,rfl⟩,λb hb=>?_,q⟩;have e:b=s1.heap.objs.size:=by simpa using hb
 subst e;exact I1.fpOk (aj _) (I1.hok.fresh (aj _))
theorem Qb (hl:PE X l tl):PI X tg l (Sg X.K tl):=by
 intro pins s σ H R I h;refine fz (hl pins s σ H _ I h) λv s1 ⟨x,H1,I1,r1,q1⟩=>?_
 obtain ⟨a,e,⟨xs,hq⟩,q⟩:=q1;subst e;cases r1;obtain ⟨its,rv,p,hz⟩:=I1.tuple hq;refine wpAny_pyIter_tuple (show s1.heap.IsTuple a its.toArray from p) ?_;refine ⟨s1.heap.objs.size,[s1.heap.objs.size],_,_,H1,rfl,I1.kept (t':=s1.toks) λb o e=>Heap.get?_push_of_some _ e,FC a _,⟨_,Heap.get?_push_size _ rfl,rfl,rfl⟩,λb hb=>?_,q⟩;have e:b=s1.heap.objs.size:=by simpa using hb
 subst e;exact I1.fpOk (aj _) (I1.hok.fresh (aj _))
theorem Ew {σ:St} {lo hi:Int} (I:Inv X pins σ H s) (h1:-(2^62)<=lo) (h2:lo < 2^62) (h3:-(2^62)<=hi) (h4:hi < 2^62)
  (q:R (Fn lo (hi - lo).toNat) H):wpAny (model X.prog X.w) X.A (pyIter (.ref s.heap.objs.size)) (PIE X pins σ tg R) E { s with heap:=s.heap.push { cls:=.type "range",data:=.fields #[.int lo t,.int hi u,.int 1 v] },toks:=tk }:=by
 refine wpAny_pyIter_range (IsRange.new ..) (small_one h1 h2 h3 h4) ?_;have I1:Inv X pins σ H { s with heap:=s.heap.push { cls:=.type "range",data:=.fields #[.int lo t,.int hi u,.int 1 v] },toks:=tk }:=I.kept λb o e=>Heap.get?_push_of_some _ e
 refine ⟨(s.heap.push { cls:=.type "range",data:=.fields #[.int lo t,.int hi u,.int 1 v] }).objs.size,[(s.heap.push { cls:=.type "range",data:=.fields #[.int lo t,.int hi u,.int 1 v] }).objs.size],_,_,H,rfl,
  I1.kept (t':=tk) λb o e=>Heap.get?_push_of_some _ e,FD _ lo (hi - lo).toNat,?_,λb hb=>?_,q⟩
 ·have e1:lo+((0:Nat):Int)*1=lo:=by simp
  have e2:(((hi - lo).toNat:Nat):Int) - ((0:Nat):Int)=Builtin.Range.rangeSize lo hi 1:=by rw[rangeSize_one];split <;> lia
  show IsRangeIter _ _ (lo+((0:Nat):Int)*1) ((((hi - lo).toNat:Nat):Int) - ((0:Nat):Int)) 1
  rw[e1,e2];exact Heap.get?_push_size _ rfl
 ·have e:b=(s.heap.push { cls:=.type "range",data:=.fields #[.int lo t,.int hi u,.int 1 v] }).objs.size:=by simpa using hb
  subst e;exact I1.fpOk (aj _) (I1.hok.fresh (aj _))
def OS (ta:TA):TI:=λσ H R=>ta σ H λvs H1=>∃j:Int,vs=[.int j]/\-(2^62)<=j/\j < 2^62/\R (Fn 0 j.toNat) H1
def OR (ta:TA):TI:=λσ H R=>ta σ H λvs H1=>∃i j:Int,vs=[.int i,.int j]/\(-(2^62)<=i/\i < 2^62/\-(2^62)<=j/\j < 2^62)/\R (Fn i (j - i).toNat) H1
theorem cI {a:Expr} {ta:TA} {p pos:Pos} (hg:Gl X "range") (hm:X.mg "range"=none) (ha:PA X [a] ta) (hs:starEach [a] X.env=[(false,eval a X.env)]:=by rfl):PI X tg (.Call (.Name "range" p) [a] [] pos) (OS ta):=by
 intro pins s σ H R I h;refine Call_ (jR I hg hm boot_range (PyProof.Rows.callWith_type1 (fz (ha pos pins s σ H _ I h) λus s1 ⟨vs,H1,I1,r1,q1⟩=>?_) hs rfl));obtain ⟨j,e,q1,q2,q⟩:=q1;subst e;cases r1 with
 | cons r rr =>
  cases rr;obtain ⟨t,rfl⟩:=r;exact call_range_1 (Ew I1 (by lia) (by lia) q1 q2 (by simpa using q))
theorem Jv {a b:Expr} {ta:TA} {p pos:Pos} (hg:Gl X "range") (hm:X.mg "range"=none) (ha:PA X [a,b] ta) (hs:starEach [a,b] X.env=[(false,eval a X.env),(false,eval b X.env)]:=by rfl) (hs2:starEach [b] X.env=[(false,eval b X.env)]:=by rfl) :
  PI X tg (.Call (.Name "range" p) [a,b] [] pos) (OR ta):=by
 intro pins s σ H R I h;refine Call_ (jR I hg hm boot_range (PyProof.Rows.callWith_type1 (fz (ha pos pins s σ H _ I h) λus s1 ⟨vs,H1,I1,r1,q1⟩=>?_) (by rw[hs,hs2]) (by rw[hs2];rfl)));obtain ⟨i,j,e,⟨q1,q2,q3,q4⟩,q⟩:=q1;subst e;cases r1 with
 | cons r rr =>
  cases rr with
  | cons r' rr =>
   cases rr;obtain ⟨t,rfl⟩:=r;obtain ⟨t',rfl⟩:=r';exact call_range_2 (Ew I1 q1 q2 q3 q4 q)
def Rx (wi:TI) (g:TG) (tb:TS):TS:=λD σ H=>wi σ H λJ H1=>∃W:Nat->Nat->St->Hp->Prop,(∃m,W 0 m σ H1)/\∀i m σ H,W i m σ H →
 (J.stop i H/\D.nx σ H)\/(J.go i H/\∃N:St->Hp->Prop,(∀σ' H',N σ' H'->∃m',m' < m/\W (i+1) m' σ' H')/\∀x H',J.yld i H x H'->g x σ H' λσ2 H2=>tb { D with nx:=N,ct:=N,bk:=D.nx } σ2 H2)
def yX (fp:List Addr) (h:Heap):List (Addr×Obj):=fp.filterMap λb=>(h.get? b).map λo=>(b,o)
theorem pC (hb:b∈fp) (e:h.get? b=some o):(b,o)∈yX fp h:=Fv.mpr ⟨b,hb,by rw[e];rfl⟩
theorem Jz (hp:p∈yX fp h):p.1∈fp/\h.get? p.1=some p.2:=by
 obtain ⟨b,hb,e⟩:=Fv.mp hp;cases q:h.get? b with
 | none=>rw[q] at e;cases e
 | some o =>
  rw[q] at e;have e':(b,o)=p:=bU e;subst e';exact ⟨hb,q⟩
theorem Inv.pinned {σ:St} (I:Inv X pins σ H s) (hf:∀b∈fp,jv X pins H b) (ho:∀b∈fp,∃o,s.heap.get? b=some o/\∀v,o.data≠.cell v):Inv X (pins++yX fp s.heap) σ H s :=
 I.pins_of λp hp=>(aD.mp hp).elim (λz=>I.pin p (b6 _ z)) λz=>by
  obtain ⟨hb,e⟩:=Jz z;obtain ⟨f0,f1,f2,_⟩:=hf p.1 hb;obtain ⟨o,e',d⟩:=ho p.1 hb;rw[e] at e';cases e';exact ⟨e,f0,f1,f2,d⟩
theorem Inv.unpinned {σ:St} (I:Inv X (pins++pl) σ H s):Inv X pins σ H s:=I.pins_of λp hp=>I.pin p (b6 _ (jG _ hp))
theorem eV {iter:Expr} {body:List Stmt} {wi:TI} {g:TG} {tb:TS} {pos:Pos} (hp:PassesOwn (model X.prog X.w) X.A X.env X.xe) (hc:X.calm=true) (hi:PI X tg iter wi) (hg:PG X tg g) (hb:DU X body tb)
  (hs:∀x,foldedSetIterable iter X.env x=pure x:=by intro _;rfl):PS X (.For tg iter body [] pos) (Rx wi g tb):=by
 intro pins s σ H D I h;refine wpAny_For (fz (hi pins s σ H _ I h) λv s1 h1=>fz h1 λitv s2 h2=>?_) hs;obtain ⟨it,fp,tn,J,H2,e,I2,T,st2,f2,W,⟨m0,w0⟩,turn⟩:=h2;subst e;have stat:∀{H':Hp},(∀b∈fp,H' b=none)->∀b∈fp,jv X pins H' b:=λhn b hb=>⟨hn b hb,(f2 b hb).2⟩
 refine codeAny_forLoop_any (λn s'=>∃i σ' H',Inv X pins σ' H' s'/\tn i s'.heap/\(∀b∈fp,H' b=none)/\W i n σ' H') ?_ m0 ⟨0,σ,H2,I2,st2,λb hb=>(f2 b hb).1,w0⟩;rintro n s3 ⟨i,σ3,H3,I3,st3,fr3,w3⟩;rcases turn i n σ3 H3 w3 with ⟨stop,qn⟩ | ⟨go,N,hN,step⟩
 ·refine wpAny_passesOwn hp (fz (T.done X rfl rfl rfl hc i pins s3 σ3 H3 X.xe I3 (stat fr3) st3 stop) λr s4 ⟨hr,I4⟩=>?_);subst hr;exact wpAny_execs_nil ⟨σ3,H3,I4,qn⟩
 ·refine wpAny_passesOwn hp (fz (T.item X rfl rfl rfl hc i pins s3 σ3 H3 X.xe I3 (stat fr3) st3 go) λr s4 ⟨u,hr,h4⟩=>?_);subst hr;refine wpAny_passesOwn hp (fz h4 λ_ s5 ⟨x,H5,I5,r5,y5,st5,fr5⟩=>?_);have I5':=I5.pinned (stat fr5) (T.obj _ _ st5);refine wpAny_passesOwn hp (fz (hg _ s5 σ3 H5 x u _ I5' r5 (step x H5 y5)) λ_ s6 ⟨σ6,H6,I6,q6⟩=>?_);refine wpAny_passesOwn hp (fz (hb _ s6 σ6 H6 _ I6 q6) λf s7 q7=>?_)
  have again:∀{σ7:St} {H7:Hp},Inv X (pins++yX fp s5.heap) σ7 H7 s7->N σ7 H7->∃m,m < n/\∃i σ' H',Inv X pins σ' H' s7/\tn i s7.heap/\(∀b∈fp,H' b=none)/\W i m σ' H':=λ{σ7 H7} I7 n7=>by
   obtain ⟨m',hm,w7⟩:=hN σ7 H7 n7;refine ⟨m',hm,i+1,σ7,H7,I7.unpinned,T.keep _ _ _ st5 λb hb o e=>(I7.pin (b,o) (b6 _ (b6 _ (pC hb e)))).1,λb hb=>?_,w7⟩;obtain ⟨o,e,d⟩:=T.obj _ _ st5 b hb;exact (I7.pin (b,o) (b6 _ (b6 _ (pC hb e)))).2.1
  cases f with
  | next=>obtain ⟨σ7,H7,I7,n7⟩:=q7;exact again I7 n7
  | cont=>obtain ⟨σ7,H7,I7,n7⟩:=q7;exact again I7 n7
  | brk=>obtain ⟨σ7,H7,I7,q7⟩:=q7;exact ⟨σ7,H7,I7.unpinned,q7⟩
  | ret v=>obtain ⟨x7,σ7,H7,I7,r7,q7⟩:=q7;exact ⟨x7,σ7,H7,I7.unpinned,r7,q7⟩
end
theorem nR {K:FG9} {g:TG} {tb:TS} {D:Ends} (Pv:Nat->St->Hp->Prop) (h0:Pv 0 σ H) (hl:∀i σ H,i<=xs.length->Pv i σ H->bE K H a xs)
  (hs:∀i x σ H,xs[i]?=some x->Pv i σ H->g x σ H λσ2 H2=>tb { D with nx:=Pv (i+1),ct:=Pv (i+1),bk:=D.nx } σ2 H2) (hd:∀σ H,Pv xs.length σ H->D.nx σ H) :
  ∃W:Nat->Nat->St->Hp->Prop,(∃m,W 0 m σ H)/\∀i m σ H,W i m σ H →
   ((O3 K a).stop i H/\D.nx σ H)\/((O3 K a).go i H/\∃N:St->Hp->Prop,(∀σ' H',N σ' H'->∃m',m' < m/\W (i+1) m' σ' H')/\∀x H',(O3 K a).yld i H x H'->g x σ H' λσ2 H2=>tb { D with nx:=N,ct:=N,bk:=D.nx } σ2 H2):=by
 refine ⟨λi m σ H=>m=xs.length - i/\i<=xs.length/\Pv i σ H,⟨xs.length,by simp,aW _,h0⟩,?_⟩;rintro i m σ H ⟨rfl,hi,p⟩;have q:=hl i σ H hi p;by_cases hlt:i < xs.length
 ·refine .inr ⟨⟨xs,xs[i],q,by simp [hlt]⟩,Pv (i+1),λσ' H' p'=>⟨xs.length - (i+1),by lia,rfl,hlt,p'⟩,λx H' y=>?_⟩;obtain ⟨e,y⟩:=y;subst e;exact hs i x σ _ (y xs q) p
 ·have e:i=xs.length:=by lia
  subst e;exact .inl ⟨⟨xs,q,aj _⟩,hd σ H p⟩
theorem NV {K:FG9} {g:TG} {tb:TS} {D:Ends} (Pv:Nat->St->Hp->Prop) (h0:Pv 0 σ H) (hl:∀i σ H,i<=xs.length->Pv i σ H->pZ K H a xs)
  (hs:∀i x σ H,xs[i]?=some x->Pv i σ H->g x σ H λσ2 H2=>tb { D with nx:=Pv (i+1),ct:=Pv (i+1),bk:=D.nx } σ2 H2) (hd:∀σ H,Pv xs.length σ H->D.nx σ H) :
  ∃W:Nat->Nat->St->Hp->Prop,(∃m,W 0 m σ H)/\∀i m σ H,W i m σ H →
   ((Q3 K a).stop i H/\D.nx σ H)\/((Q3 K a).go i H/\∃N:St->Hp->Prop,(∀σ' H',N σ' H'->∃m',m' < m/\W (i+1) m' σ' H')/\∀x H',(Q3 K a).yld i H x H'->g x σ H' λσ2 H2=>tb { D with nx:=N,ct:=N,bk:=D.nx } σ2 H2):=by
 refine ⟨λi m σ H=>m=xs.length - i/\i<=xs.length/\Pv i σ H,⟨xs.length,by simp,aW _,h0⟩,?_⟩;rintro i m σ H ⟨rfl,hi,p⟩;have q:=hl i σ H hi p;by_cases hlt:i < xs.length
 ·refine .inr ⟨⟨xs,xs[i],q,by simp [hlt]⟩,Pv (i+1),λσ' H' p'=>⟨xs.length - (i+1),by lia,rfl,hlt,p'⟩,λx H' y=>?_⟩;obtain ⟨e,y⟩:=y;subst e;exact hs i x σ _ (y xs q) p
 ·have e:i=xs.length:=by lia
  subst e;exact .inl ⟨⟨xs,q,aj _⟩,hd σ H p⟩
theorem BI {lo:Int} {g:TG} {tb:TS} {D:Ends} (Pv:Nat->St->Hp->Prop) (h0:Pv 0 σ H)
  (hs:∀i σ H,i < n->Pv i σ H->g (.int (lo+i)) σ H λσ2 H2=>tb { D with nx:=Pv (i+1),ct:=Pv (i+1),bk:=D.nx } σ2 H2) (hd:∀σ H,Pv n σ H->D.nx σ H) :
  ∃W:Nat->Nat->St->Hp->Prop,(∃m,W 0 m σ H)/\∀i m σ H,W i m σ H →
   ((Fn lo n).stop i H/\D.nx σ H)\/((Fn lo n).go i H/\∃N:St->Hp->Prop,(∀σ' H',N σ' H'->∃m',m' < m/\W (i+1) m' σ' H')/\∀x H',(Fn lo n).yld i H x H'->g x σ H' λσ2 H2=>tb { D with nx:=N,ct:=N,bk:=D.nx } σ2 H2):=by
 refine ⟨λi m σ H=>m=n - i/\i<=n/\Pv i σ H,⟨n,by simp,aW _,h0⟩,?_⟩;rintro i m σ H ⟨rfl,hi,p⟩;by_cases hlt:i < n
 ·refine .inr ⟨hlt,Pv (i+1),λσ' H' p'=>⟨n - (i+1),by lia,rfl,hlt,p'⟩,λx H' y=>?_⟩;obtain ⟨e,y⟩:=y;subst e y;exact hs i σ _ hlt p
 ·have e:i=n:=by lia
  subst e;exact .inl ⟨aj _,hd σ H p⟩
abbrev R2:=V->V->Hp->VK->Prop
def xP (X:Cx) (f:Value->Value->Sem Value) (r:R2):Prop :=
 ∀(pins:List (Addr×Obj)) (s:Shared) (σ:St) (H:Hp) (x y:V) (v u:Value) (Q:VK),Inv X pins σ H s->RelV x v->RelV y u->r x y H Q →
  wpAny (model X.prog X.w) X.A (f v u) (EP X pins σ Q) X.xe s
def Tj (X:Cx) (f:Value->Sem Value) (r:V->Hp->VK->Prop):Prop :=
 ∀(pins:List (Addr×Obj)) (s:Shared) (σ:St) (H:Hp) (x:V) (v:Value) (Q:VK),Inv X pins σ H s->RelV x v->r x H Q →
  wpAny (model X.prog X.w) X.A (f v) (EP X pins σ Q) X.xe s
def oj (X:Cx) (f:Value) (r:List V->Hp->VK->Prop):Prop :=
 ∀(pins:List (Addr×Obj)) (s:Shared) (σ:St) (H:Hp) (xs:List V) (us:List Value) (Q:VK),Inv X pins σ H s->cM xs us->r xs H Q →
  wpAny (model X.prog X.w) X.A (call f us) (EP X pins σ Q) X.xe s
def Rl (r:R2) (ta tb:TE):TE:=λσ H Q=>ta σ H λx H1=>tb σ H1 λy H2=>r x y H2 Q
def SV (r:V->Hp->VK->Prop) (ta:TE):TE:=λσ H Q=>ta σ H λx H1=>r x H1 Q
def rI (C:Int->Int->Prop) (g:Int->Int->V):R2:=λx y H Q=>∃i j,x=.int i/\y=.int j/\C i j/\Q (g i j) H
def Nl (g:Int->Int->V):R2:=λx y H Q=>∃i j,x=.int i/\y=.int j/\Q (g i j) H
def rU (g:Int->V):V->Hp->VK->Prop:=λx H Q=>∃i,x=.int i/\Q (g i) H
section
variable {X:Cx} {a b c:Expr} {ta tb tc:TE} {pos:Pos}
theorem QL (ha:PE X a ta) (hb:PE X b tb) {σ:St} {R:V->V->Hp->Prop} (I:Inv X pins σ H s)
  (h:ta σ H λx H1=>tb σ H1 λy H2=>R x y H2) {f:Value->Value->Sem Value}
  (hf:∀v u s2 x y H2,Inv X pins σ H2 s2->RelV x v->RelV y u->R x y H2->wpAny (model X.prog X.w) X.A (f v u) Q X.xe s2) :
  wpAny (model X.prog X.w) X.A (eval a X.env) (λv s₁=>wpAny (model X.prog X.w) X.A (eval b X.env) (λu s₂=>wpAny (model X.prog X.w) X.A (f v u) Q X.xe s₂) X.xe s₁) X.xe s:=by
 refine fz (ha pins s σ H _ I h) λv s1 ⟨x,H1,I1,r1,q1⟩=>?_
 refine fz (hb pins s1 σ H1 _ I1 q1) λu s2 ⟨y,H2,I2,r2,q2⟩=>?_
 exact hf v u s2 x y H2 I2 r1 r2 q2
theorem bJ (ho:xP X (binaryOp op) r) (ha:PE X a ta) (hb:PE X b tb):PE X (.BinOp a op b pos) (Rl r ta tb):=by
 intro pins s σ H Q I h;exact wpAny_BinOp (QL ha hb I h λv u s2 x y H2 I2 rx ry q=>ho pins s2 σ H2 x y v u Q I2 rx ry q)
theorem mD (ho:Tj X (unaryOp op) r) (ha:PE X a ta):PE X (.UnaryOp op a pos) (SV r ta):=by
 intro pins s σ H Q I h;exact UnaryOp_ (fz (ha pins s σ H _ I h) λv s1 ⟨x,H1,I1,r1,q1⟩=>ho pins s1 σ H1 x v Q I1 r1 q1)
theorem Tc {g:Int->Int->Int}
  (rule:∀(i j:Int) (t u:Tok) (s:Shared) (Q:Value->Shared->Prop) (E:Value->Shared->Prop),C i j->Q (.int (g i j) s.toks) { s with toks:=s.toks+1 }->wpAny (model X.prog X.w) X.A (f (.int i t) (.int j u)) Q E s) :
  xP X f (rI C λi j=>.int (g i j)):=by
 intro pins s σ H x y v u Q I rx ry h;obtain ⟨i,j,rfl,rfl,hc,q⟩:=h;obtain ⟨t,rfl⟩:=rx;obtain ⟨t',rfl⟩:=ry;exact rule i j t t' s _ _ hc ⟨.int (g i j),H,I.tok _,⟨_,rfl⟩,q⟩
theorem RU {g:Int->Int->Int}
  (rule:∀(i j:Int) (t u:Tok) (s:Shared) (Q:Value->Shared->Prop) (E:Value->Shared->Prop),Q (.int (g i j) s.toks) { s with toks:=s.toks+1 }->wpAny (model X.prog X.w) X.A (f (.int i t) (.int j u)) Q E s) :
  xP X f (Nl λi j=>.int (g i j)):=by
 intro pins s σ H x y v u Q I rx ry h;obtain ⟨i,j,rfl,rfl,q⟩:=h;obtain ⟨t,rfl⟩:=rx;obtain ⟨t',rfl⟩:=ry;exact rule i j t t' s _ _ ⟨.int (g i j),H,I.tok _,⟨_,rfl⟩,q⟩
theorem NG {g:Int->Int->Bool}
  (rule:∀(i j:Int) (t u:Tok) (s:Shared) (Q:Value->Shared->Prop) (E:Value->Shared->Prop),Q (.bool (g i j)) s->wpAny (model X.prog X.w) X.A (f (.int i t) (.int j u)) Q E s) :
  xP X f (Nl λi j=>.bl (g i j)):=by
 intro pins s σ H x y v u Q I rx ry h;obtain ⟨i,j,rfl,rfl,q⟩:=h;obtain ⟨t,rfl⟩:=rx;obtain ⟨t',rfl⟩:=ry;exact rule i j t t' s _ _ ⟨.bl (g i j),H,I,rfl,q⟩
def QZ (i j:Int):Prop:=(-(2^64) < i/\i < 2^64)\/(-(2^64) < j/\j < 2^64)
theorem QZ.ok (h:QZ i j):IntMulOk i j:=by
 rcases h with ⟨h1,h2⟩ | ⟨h1,h2⟩
 ·exact .of_left (intBits_le_64 h1 h2)
 ·exact .of_right (intBits_le_64 h1 h2)
theorem eJ:xP X (binaryOp .Add) (Nl λi j=>.int (i+j)):=RU λ_ _ _ _ _ _ _ q=>add_int q
theorem oU:xP X (binaryOp .Sub) (Nl λi j=>.int (i - j)):=RU λ_ _ _ _ _ _ _ q=>sub_int q
theorem ni:xP X (binaryOp .Mod) (rI (λ_ j=>0 < j) λi j=>.int (i % j)):=Tc λi j _ _ _ _ _ hc q=>by
 have h1:(0:Int) < j:=hc;exact mod_int' (by lia) (by rw[Int.fmod_eq_emod_of_nonneg i (by lia)];exact q)
theorem NF:xP X (binaryOp .Mod) (rI (λ_ j=>j≠0) λi j=>.int (i.fmod j)):=Tc λ_ _ _ _ _ _ _ hc q=>mod_int' hc q
theorem unI {g:Int->Int}
  (rule:∀(i:Int) (t:Tok) (s:Shared) (Q:Value->Shared->Prop) (E:Value->Shared->Prop),Q (.int (g i) s.toks) { s with toks:=s.toks+1 }->wpAny (model X.prog X.w) X.A (f (.int i t)) Q E s) :
  Tj X f (rU λi=>.int (g i)):=by
 intro pins s σ H x v Q I rx h;obtain ⟨i,rfl,q⟩:=h;obtain ⟨t,rfl⟩:=rx;exact rule i t s _ _ ⟨.int (g i),H,I.tok _,⟨_,rfl⟩,q⟩
theorem iY:Tj X (unaryOp .USub) (rU λi=>.int (-i)):=unI λ_ _ _ _ _ q=>neg_int q
end
def RD:V->V->Bool
 | .non,.non=>true | .non,.int _=>true | .int _,.non=>true | .non,.bl _=>true | .bl _,.non=>true | .non,.str _=>true | .str _,.non=>true
 | .int _,.int _=>true | .bl _,.bl _=>true | .str _,.str _=>true | .byt _,.byt _=>true
 | .int _,.str _=>true | .str _,.int _=>true | .bl _,.str _=>true | .str _,.bl _=>true
 | _,_=>false
def Tb:R2:=λx y H Q=>RD x y=true/\Q (.bl (decide (x=y))) H
def rNe:R2:=λx y H Q=>RD x y=true/\Q (.bl (!decide (x=y))) H
theorem Iu:decide (V.int i=V.int j)=(i == j):=by
 rw[kL];simp
theorem L6:decide (V.bl i=V.bl j)=(i == j):=by
 rw[kL];simp
theorem Ir:decide (V.str i=V.str j)=(i == j):=by
 rw[kL];simp
theorem Iv:decide (V.byt i=V.byt j)=(i.toList == j.toList):=by
 rw[kL];cases i;cases j;simp
section
variable {X:Cx} {a b c:Expr} {ta tb tc:TE} {pos:Pos}
theorem dk {σ:St} (I:Inv X pins σ H s) (q:Q (.bl k) H) (e:k=k'):EP X pins σ Q (.bool k') s:=by
 subst e;exact ⟨.bl k,H,I,rfl,q⟩
theorem eU:xP X (compareOp .Eq) Tb:=by
 intro pins s σ H x y v u Q I rx ry h;obtain ⟨hs,q⟩:=h;cases x with
 | non =>
  cases rx;cases y with
  | non=>cases ry;exact PySem.EqNone.eq_none_none (dk I q (by simp))
  | bl j=>cases ry;exact PySem.EqNone.eq_none_bool (dk I q (by simp))
  | int j=>obtain ⟨t',rfl⟩:=ry;exact PySem.EqNone.eq_none_int (dk I q (by simp))
  | str j=>obtain ⟨t',rfl⟩:=ry;exact PySem.EqNone.eq_none_str (dk I q (by simp))
  | _=>exact absurd (show false=true from hs) aO
 | bl i =>
  cases rx;cases y with
  | non=>cases ry;exact PySem.EqNone.eq_bool_none (dk I q (by simp))
  | bl j=>cases ry;exact eq_bool (dk I q L6)
  | str j=>obtain ⟨t',rfl⟩:=ry;exact PySem.EqMixed.eq_bool_str (dk I q (by simp))
  | _=>exact absurd (show false=true from hs) aO
 | int i =>
  obtain ⟨t,rfl⟩:=rx;cases y with
  | non=>cases ry;exact PySem.EqNone.eq_int_none (dk I q (by simp))
  | int j=>obtain ⟨t',rfl⟩:=ry;exact eq_int (dk I q Iu)
  | str j=>obtain ⟨t',rfl⟩:=ry;exact PySem.EqMixed.eq_int_str (dk I q (by simp))
  | _=>exact absurd (show false=true from hs) aO
 | str i =>
  obtain ⟨t,rfl⟩:=rx;cases y with
  | non=>cases ry;exact PySem.EqNone.eq_str_none (dk I q (by simp))
  | bl j=>cases ry;exact PySem.EqMixed.eq_str_bool (dk I q (by simp))
  | int j=>obtain ⟨t',rfl⟩:=ry;exact PySem.EqMixed.eq_str_int (dk I q (by simp))
  | str j=>obtain ⟨t',rfl⟩:=ry;exact eq_str (dk I q Ir)
  | _=>exact absurd (show false=true from hs) aO
 | byt i =>
  obtain ⟨t,rfl⟩:=rx;cases y with
  | byt j=>obtain ⟨t',rfl⟩:=ry;exact PySem.W.eq_bytes (dk I q Iv)
  | _=>exact absurd (show false=true from hs) aO
 | _=>cases y <;> exact absurd (show false=true from hs) aO
theorem wZ:xP X (compareOp .NotEq) rNe:=by
 intro pins s σ H x y v u Q I rx ry h;obtain ⟨hs,q⟩:=h;cases x with
 | non =>
  cases rx;cases y with
  | non=>cases ry;exact PySem.EqNone.ne_none_none (dk I q (by simp))
  | bl j=>cases ry;exact PySem.EqNone.ne_none_bool (dk I q (by simp))
  | int j=>obtain ⟨t',rfl⟩:=ry;exact PySem.EqNone.ne_none_int (dk I q (by simp))
  | str j=>obtain ⟨t',rfl⟩:=ry;exact PySem.EqNone.ne_none_str (dk I q (by simp))
  | _=>exact absurd (show false=true from hs) aO
 | bl i =>
  cases rx;cases y with
  | non=>cases ry;exact PySem.EqNone.ne_bool_none (dk I q (by simp))
  | bl j=>cases ry;exact ne_bool (dk I q (congrArg not L6))
  | str j=>obtain ⟨t',rfl⟩:=ry;exact PySem.EqMixed.ne_bool_str (dk I q (by simp))
  | _=>exact absurd (show false=true from hs) aO
 | int i =>
  obtain ⟨t,rfl⟩:=rx;cases y with
  | non=>cases ry;exact PySem.EqNone.ne_int_none (dk I q (by simp))
  | int j=>obtain ⟨t',rfl⟩:=ry;exact ne_int (dk I q (congrArg not Iu))
  | str j=>obtain ⟨t',rfl⟩:=ry;exact PySem.EqMixed.ne_int_str (dk I q (by simp))
  | _=>exact absurd (show false=true from hs) aO
 | str i =>
  obtain ⟨t,rfl⟩:=rx;cases y with
  | non=>cases ry;exact PySem.EqNone.ne_str_none (dk I q (by simp))
  | bl j=>cases ry;exact PySem.EqMixed.ne_str_bool (dk I q (by simp))
  | int j=>obtain ⟨t',rfl⟩:=ry;exact PySem.EqMixed.ne_str_int (dk I q (by simp))
  | str j=>obtain ⟨t',rfl⟩:=ry;exact ne_str (dk I q (congrArg not Ir))
  | _=>exact absurd (show false=true from hs) aO
 | byt i =>
  obtain ⟨t,rfl⟩:=rx;cases y with
  | byt j=>obtain ⟨t',rfl⟩:=ry;exact PySem.W.ne_bytes (dk I q (congrArg not Iv))
  | _=>exact absurd (show false=true from hs) aO
 | _=>cases y <;> exact absurd (show false=true from hs) aO
theorem pQ:xP X (compareOp .Lt) (Nl λi j=>.bl (decide (i < j))):=NG λ_ _ _ _ _ _ _ q=>lt_int q
theorem RT:xP X (compareOp .LtE) (Nl λi j=>.bl (decide (i<=j))):=NG λ_ _ _ _ _ _ _ q=>le_int q
theorem ze:xP X (compareOp .Gt) (Nl λi j=>.bl (decide (j < i))):=NG λ_ _ _ _ _ _ _ q=>gt_int q
theorem zg:xP X (compareOp .GtE) (Nl λi j=>.bl (decide (j<=i))):=NG λ_ _ _ _ _ _ _ q=>ge_int q
theorem NC:xP X (compareOp .IsNot) (λx y H Q=>y=.non/\Q (.bl (!decide (x=.non))) H):=by
 intro pins s σ H x y v u Q I rx ry h;obtain ⟨rfl,q⟩:=h;cases ry;refine isnot_none_gen (dk I q ?_)
 cases x <;> first
  | (cases rx;rfl)
  | (obtain ⟨t,rfl⟩:=rx;rfl)
theorem bD (b:Expr) {op:CmpOp} (h:op≠.In:=by decide) (h2:op≠.NotIn:=by decide):behindInMarks op b=false:=by
 have e1:(op == CmpOp.In)=false:=by cases op <;> first | rfl | exact absurd rfl h
 have e2:(op == CmpOp.NotIn)=false:=by cases op <;> first | rfl | exact absurd rfl h2
 cases b <;> simp [behindInMarks,e1,e2]
theorem gW (ho:xP X (compareOp op) r) (ha:PE X a ta) (hb:PE X b tb) (hm:behindInMarks op b=false):PE X (.Compare a [op] [b] pos) (Rl r ta tb):=by
 intro pins s σ H Q I h;exact wpAny_Compare1 (QL ha hb I h λv u s2 x y H2 I2 rx ry q=>ho pins s2 σ H2 x y v u Q I2 rx ry q) hm
def Ox (t:TE):TT:=λσ H Q=>t σ H λx H'=>∃k,x=.bl k/\Q k H'
theorem bu (ho:xP X (compareOp op) r) (ha:PE X a ta) (hb:PE X b tb) (hm:behindInMarks op b=false):PT X (.Compare a [op] [b] pos) (Ox (Rl r ta tb)):=by
 intro pins s σ H Q I h
 refine wpAny_isTrue_Compare1 (fz (ha pins s σ H _ I h) λv s1 ⟨x,H1,I1,r1,q1⟩=>fz (hb pins s1 σ H1 _ I1 q1) λu s2 ⟨y,H2,I2,r2,q2⟩ =>
  fz (ho pins s2 σ H2 x y v u _ I2 r1 r2 q2) λc s3 ⟨z,H3,I3,r3,k,e,q3⟩=>?_) hm
 subst e;cases r3;exact wpAny_truthy_bool ⟨H3,I3,q3⟩
theorem zM:(sizeLine:Nat) < 2^63:=by rw[sizeLine_eq];decide
theorem vals1 (r:cM [x] us):∃u,us=[u]/\RelV x u:=by
 cases r with
 | cons r1 r2=>cases r2;exact ⟨_,rfl,r1⟩
theorem vals2 (r:cM [x,y] us):∃u w',us=[u,w']/\RelV x u/\RelV y w':=by
 cases r with
 | cons r1 r2 =>
  cases r2 with
  | cons r3 r4=>cases r4;exact ⟨_,_,rfl,r1,r3⟩
theorem Ae:oj X (.builtin "abs") (λxs H Q=>∃i,xs=[.int i]/\Q (.int (if i < 0 then -i else i)) H):=by
 intro pins s σ H xs us Q I r h;obtain ⟨i,rfl,q⟩:=h;obtain ⟨u,rfl,t,rfl⟩:=vals1 r;exact call_abs_int λu tk=>⟨.int (if i < 0 then -i else i),H,I.tok _,⟨_,rfl⟩,q⟩
theorem JX (hc:X.calm=true):oj X (.builtin "max") (λxs H Q=>∃i j,xs=[.int i,.int j]/\Q (.int (if j > i then j else i)) H):=by
 intro pins s σ H xs us Q I r h;obtain ⟨i,j,rfl,q⟩:=h;obtain ⟨u,w',rfl,⟨t,rfl⟩,⟨t',rfl⟩⟩:=vals2 r;refine max_two_ints (I.ok.hd hc) λh' tk k=>⟨_,H,I.kept k,?_,q⟩
 by_cases hj:j > i
 ·rw[if_pos hj,if_pos hj];exact ⟨_,rfl⟩
 ·rw[if_neg hj,if_neg hj];exact ⟨_,rfl⟩
theorem rW (hc:X.calm=true):oj X (.builtin "min") (λxs H Q=>∃i j,xs=[.int i,.int j]/\Q (.int (if j < i then j else i)) H):=by
 intro pins s σ H xs us Q I r h;obtain ⟨i,j,rfl,q⟩:=h;obtain ⟨u,w',rfl,⟨t,rfl⟩,⟨t',rfl⟩⟩:=vals2 r;refine min_two_ints (I.ok.hd hc) λh' tk k=>⟨_,H,I.kept k,?_,q⟩
 by_cases hj:j < i
 ·rw[if_pos hj,if_pos hj];exact ⟨_,rfl⟩
 ·rw[if_neg hj,if_neg hj];exact ⟨_,rfl⟩
end
structure GJ (h:Heap) (x dx C:Addr) (mA:Str->Option Value):Prop where
 obj:h.get? x=some (PySem.W.instObj C dx)
 ns:h.Ns1 dx mA
 ne:dx≠x
theorem JJ {h:Heap} (n:h.Ns1 dx mA):∃od,h.get? dx=some od/\∀name,PySem.W.lookIn name od=some (mA name):=by
 obtain ⟨o,es,ep,ho,hd,hk,_,hm⟩:=n;refine ⟨o,ho,λname=>?_⟩;have e:=hm name;unfold nsFind findBy at e;rw[<- Array.find?_toList] at e;unfold PySem.W.lookIn;rw[hd]
 dsimp only
 split
 ·rename_i y q
  rw[q] at e;exact congrArg some e
 ·rename_i q
  rw[q] at e
  have a:es.toList.any (·.refKey)=false:=by
   rw[List.any_eq_false];intro y hy;obtain ⟨z,t,hkey⟩:=hk y (Array.mem_toList_iff.mp hy);simp [DictEntry.refKey,hkey]
  have a':¬es.toList.any (·.refKey)=true:=by rw[a];exact aO
  rw[if_neg a'];exact congrArg some e
theorem GJ.look (I:GJ h x dx C mA):∃od,PySem.W.InstAt h x (PySem.W.instObj C dx) C (some od)/\∀name,PySem.W.lookIn name od=some (mA name) :=
 let ⟨od,ho,hl⟩:=JJ I.ns
 ⟨od,⟨I.obj,rfl,rfl,ho⟩,hl⟩
section
variable {prog:Program} {w:World} {A:Around} {E:Value->Shared->Prop} {s:Shared} {K:FG9} {x dx C f:Addr} {mA:Str->Option Value} {name:Str} {v:Value}
theorem get_map (X:K.In s.heap) (I:GJ s.heap x dx C mA) (hg:PySem.W.plainGet K C name=true) (hh:PySem.W.hasDictIn K C=true)
  (ha:PySem.W.findIn K (.ref C) name=some none) (hv:mA name=some v) (hv':PySem.W.handedIn v=true) (h:Q v { s with toks:=s.toks+1 }) :
  wpAny (model prog w) A (getAttr (.ref x) name expr) Q E s:=by
 obtain ⟨od,J,hl⟩:=I.look;exact PySem.W.get_value X J (DV hg).1 (PySem.W.findObj_own hh ha rfl (by rw[hl,hv])) hv' h
theorem LJ (X:K.In s.heap) (I:GJ s.heap x dx C mA) (hg:PySem.W.plainGet K C name=true)
  (hf:PySem.W.findIn K (.ref C) name=some (some (.ref f))) (ht:PySem.W.isFn K (.ref f)=true) (hv:mA name=none) (h:Q (.ref f,[.ref x]) s) :
  wpAny (model prog w) A (getMethod (.ref x) name pl) Q E s:=by
 obtain ⟨od,J,hl⟩:=I.look;exact PySem.W.method_fn X J (DV hg).1 (DV hg).2 hf (beq_iff_eq.mp ht) (by show (PySem.W.lookIn name od).map (·.isSome)=some false;rw[hl,hv];rfl) h
theorem MP (X:K.In s.heap) (I:GJ s.heap x dx C mA)
  (hs:PySem.W.findIn K (.ref C) "__setattr__"=some (some (.builtin "object.__setattr__"))) (hp:PySem.W.plainOver K C=true) (ht:PySem.W.takerIn K C name=some none) (hh:PySem.W.hasDictIn K C=true)
  (hw:PySem.Within mA ns) (hsz:ns.length<=sizeLine)
  (h:∀h',GJ h' x dx C (λy=>if y=name then some v else mA y)->Heap.SameBut dx s.heap h'->Q () { s with heap:=h',toks:=s.toks+2 }) :
  wpAny (model prog w) A (setAttr (.ref x) name v) Q E s:=by
 obtain ⟨od,J,hl⟩:=I.look;refine PySem.W.set_plain X J hs (PySem.W.osa_open (s:={ s with toks:=s.toks+1 }) (r:=none) X J hp ht λb=>?_);obtain ⟨cd,hc,hd'⟩:=PySem.W.any_some hh;have hx:s.heap.get? x=some ⟨.ref C,some dx,.plain,#[]⟩:=I.obj;refine wpAny_bind (wpAny_pure (wpAny_bind (wpAny_bind (wpAny_loadPart hx (wpAny_bind (PySem.W.Looks.here (s:={ s with toks:=s.toks+1 }) (PySem.W.looks_clsIn X hc) ?_))))));rw[hd'];refine wpAny_pure (a:=some dx) (wpAny_bind (wpAny_pure (wpAny_bind ?_)));refine wpAny_nsSet1 (s:={ s with toks:=s.toks+1 }) I.ns λh' hn2 hs2=>?_
 obtain ⟨oD,esD,epD,hoD,hdD,hcD⟩:=hn2.count (PySem.Within.cons name v hw);refine wpAny_bind (wpAny_lookBehind hoD (by rw[hdD];exact pastItsLine_dict (ag hcD (by rw[bR];lia))) ?_);exact wpAny_pure (h _ ⟨(hs2.2 _ (Ne.symm I.ne)).trans I.obj,hn2,I.ne⟩ hs2)
theorem Ls (X:K.In s.heap) (hm:PySem.W.makesIn K C=true)
  (hi:PySem.W.findIn K (.ref C) "__init__"=some (some (.ref f))) (hf:PySem.W.typeIn K (.ref f)=some (.type "function"))
  (h:codeAny (model prog w) (A.under (.builtin "type.__call__" ⟨.ref C :: vs,kw⟩)) (.call (.ref f) ⟨.ref (s.heap.objs.size+1) :: vs,kw⟩) (PySem.W.InitBack (s.heap.objs.size+1) R)
   { s with heap:=(s.heap.push PySem.W.emptyDict).push (PySem.W.instObj C s.heap.objs.size) }) :
  codeAny (model prog w) A (.call (.ref C) ⟨vs,kw⟩) R s:=by
 obtain ⟨hh,g,d,t,os⟩:=s;exact PySem.W.make_core (PySem.W.makes_of X hm) (PySem.W.looks_findIn X hi) (λself=>PySem.W.bind_fn X self hf) (.inl rfl) h
end
def cx (f:Str) (v:V):List (Str×V)->List (Str×V)
 | []=>[(f,v)]
 | (g,x) :: r=>if g=f then (g,v) :: r else (g,x) :: cx f v r
theorem br (f g:Str) (v:V):∀fs:List (Str×V),(cx f v fs).lookup g=if g=f then some v else fs.lookup g
 | []=>by
  show List.lookup g [(f,v)]=_
  by_cases h:g=f
  ·have hb:(g == f)=true:=beq_iff_eq.mpr h;simp only[List.lookup,hb,if_pos h]
  ·have hb:(g == f)=false:=beq_eq_false_iff_ne.mpr h;simp only[List.lookup,hb,if_neg h]
 | (k,x) :: r=>by
  have ih:=br f g v r;rw[show cx f v ((k,x) :: r)=(if k=f then (k,v) :: r else (k,x) :: cx f v r) from rfl];by_cases hk:k=f
  ·rw[if_pos hk];by_cases h:g=k
   ·have hb:(g == k)=true:=beq_iff_eq.mpr h;simp only[List.lookup,hb,if_pos (h.trans hk)]
   ·have hb:(g == k)=false:=beq_eq_false_iff_ne.mpr h;simp only[List.lookup,hb,if_neg (λe:g=f=>h (e.trans hk.symm))]
  ·rw[if_neg hk];by_cases h:g=k
   ·have hb:(g == k)=true:=beq_iff_eq.mpr h;simp only[List.lookup,hb,if_neg (λe:g=f=>hk (h.symm.trans e))]
   ·have hb:(g == k)=false:=beq_eq_false_iff_ne.mpr h;simp only[List.lookup,hb];exact ih
theorem wu (f:Str) (v:V):∀fs:List (Str×V),f∈(cx f v fs).map (·.1)/\∀g,g∈fs.map (·.1)->g∈(cx f v fs).map (·.1)
 | []=>⟨by simp [cx],λg h=>by simp at h⟩
 | (k,x) :: r=>by
  obtain ⟨i1,i2⟩:=wu f v r;rw[show cx f v ((k,x) :: r)=(if k=f then (k,v) :: r else (k,x) :: cx f v r) from rfl];by_cases hk:k=f
  ·rw[if_pos hk];subst hk;exact ⟨by simp,λg h=>by simpa using h⟩
  ·rw[if_neg hk];refine ⟨?_,λg h=>?_⟩
   ·rw[iX];exact bP _ i1
   ·rw[iX] at h ⊢;rcases ay.mp h with e | e
    ·exact ay.mpr (.inl e)
    ·exact bP _ (i2 g e)
theorem xf (f:Str) (v:V):∀fs:List (Str×V),(cx f v fs).length<=fs.length+1
 | []=>by simp [cx]
 | (k,x) :: r=>by
  have ih:=xf f v r;rw[show cx f v ((k,x) :: r)=(if k=f then (k,v) :: r else (k,x) :: cx f v r) from rfl];by_cases hk:k=f
  ·rw[if_pos hk,bR,bR];lia
  ·rw[if_neg hk,bR,bR];lia
theorem As.some_of (r:As (some v) o):∃u,o=some u/\RelV v u:=by
 cases o with
 | none=>exact (show False from r).elim
 | some u=>exact ⟨u,rfl,r⟩
theorem As.none_of (r:As none o):o=none:=by
 cases o with
 | none=>rfl
 | some u=>exact (show False from r).elim
theorem JN (r:RelV v u):PySem.W.handedIn u=true:=by
 cases v with
 | non=>cases (show u=Value.none from r);rfl
 | bl b=>cases (show u=Value.bool b from r);rfl
 | int i=>obtain ⟨t,e⟩:=(show ∃t,u=Value.int i t from r);cases e;rfl
 | str x=>obtain ⟨t,e⟩:=(show ∃t,u=Value.str x t from r);cases e;rfl
 | byt b=>obtain ⟨t,e⟩:=(show ∃t,u=Value.bytes b t from r);cases e;rfl
 | flt b=>obtain ⟨t,e⟩:=(show ∃t,u=Value.float b t from r);cases e;rfl
 | ref a=>cases (show u=Value.ref a from r);rfl
 | ty n=>cases (show u=Value.type n from r);rfl
section
variable {P:Program} {w:World} {H H':Hp} {h h':Heap} {a C dx:Addr} {fs fs':List (Str×V)}
theorem ym (hok:vB P w H h) (e:H a=some (.ins C dx fs)):∃mA,GJ h a dx C mA/\(∀f,As (fs.lookup f) (mA f))/\PySem.Within mA (fs.map (·.1))/\fs.length<=1000/\H dx=some (.own a):=by
 obtain ⟨d,z,ne,ob,mA,n,r,q⟩:=(show fO P w H h a (.ins C dx fs) from hok a _ e);exact ⟨mA,⟨ob,n,ne⟩,r,q,z,d⟩
end
structure Kg (K:FG9) (C:Addr):Prop where
 pg:PySem.W.plainGet K C Str.empty=true
 hd:PySem.W.hasDictIn K C=true
 po:PySem.W.plainOver K C=true
 sa:PySem.W.findIn K (.ref C) "__setattr__"=some (some (.builtin "object.__setattr__"))
theorem Kg.get {K:FG9} (c:Kg K C) (f:Str):PySem.W.plainGet K C f=true:=c.pg
def jt (K:FG9) (C:Addr) (f:Str):Prop:=PySem.W.findIn K (.ref C) f=some none
theorem jt.taker {K:FG9} (n:jt K C f):PySem.W.takerIn K C f=some none:=by
 unfold PySem.W.takerIn;rw[show PySem.W.findIn K (.ref C) f=some none from n];rfl
structure QQ (K:FG9) (C:Addr) (m:Str) (f:Addr):Prop where
 at_:PySem.W.findIn K (.ref C) m=some (some (.ref f))
 fn:PySem.W.isFn K (.ref f)=true
 kp:PySem.W.keepIn K (.ref f)=true
section
variable {X:Cx} {pins:List (Addr×Obj)} {σ:St} {H:Hp} {s:Shared} {a C dx:Addr} {fs:List (Str×V)} {f:Str} {v:V} {A:Around} {E:Value->Shared->Prop}
theorem Gj (I:Inv X pins σ H s) (e:H a=some (.ins C dx fs)) (c:Kg X.K C) (n:jt X.K C f) (l:fs.lookup f=some v)
  (h:∀u s',Inv X pins σ H s'->RelV v u->Q u s'):wpAny (model X.prog X.w) A (getAttr (.ref a) f b) Q E s:=by
 obtain ⟨mA,O,r,_,_,_⟩:=ym I.hok e;obtain ⟨u,hu,ru⟩:=As.some_of (v:=v) (o:=mA f) (by rw[<- l];exact r f);exact get_map I.kIn O (c.get f) c.hd n hu (JN ru) (h u _ (I.tok _) ru)
theorem Gi (I:Inv X pins σ H s) (e:H a=some (.ins C dx fs)) (c:Kg X.K C) (k:QQ X.K C m g) (l:fs.lookup m=none)
  (h:Q (.ref g,[.ref a]) s):wpAny (model X.prog X.w) A (getMethod (.ref a) m pl) Q E s:=by
 obtain ⟨mA,O,r,_,_,_⟩:=ym I.hok e;have hn:mA m=none:=As.none_of (by rw[<- l];exact r m);exact LJ I.kIn O (c.get m) k.at_ k.fn hn h
theorem FF (I:Inv X pins σ H s) (e:H a=some (.ins C dx fs)) (c:Kg X.K C) (n:jt X.K C f) (hl:fs.length < 1000) (ry:RelV y u)
  (h:∀s',Inv X pins σ (upd H a (.ins C dx (cx f y fs))) s'->Q () s'):wpAny (model X.prog X.w) A (setAttr (.ref a) f u) Q E s:=by
 obtain ⟨mA,O,r,wi,_,ho⟩:=ym I.hok e;have hz:(fs.map (·.1)).length<=sizeLine:=by rw[ah,sizeLine_eq];lia
 refine MP I.kIn O c.sa c.po n.taker c.hd wi hz λh' O' sb=>h _ ?_
 have hd:∃o,h'.get? dx=some o:=let ⟨o,_,_,e',_⟩:=O'.ns;⟨o,e'⟩
 refine I.write (x:=a) (e:=dx) (by rw[e];exact True.intro) (.inr ho) (λb q hb z=>(sb.2 b hb).trans z) hd ?_;refine ⟨by rw[aU O.ne];exact ho,?_,O.ne,O'.obj,_,O'.ns,λg=>?_,λg hg=>?_⟩
 ·have:=xf f y fs;lia
 ·show As ((cx f y fs).lookup g) (if g=f then some u else mA g)
  rw[br];by_cases q:g=f
  ·rw[if_pos q,if_pos q];exact ry
  ·rw[if_neg q,if_neg q];exact r g
 ·by_cases q:g=f
  ·rw[q];exact (wu f y fs).1
  ·refine (wu f y fs).2 g (wi g λz=>hg ?_);show (if g=f then some u else mA g)=none
   rw[if_neg q];exact z
theorem Inv.made (I:Inv X pins σ H s):Inv X pins σ (upd (upd H s.heap.objs.size (.own (s.heap.objs.size+1))) (s.heap.objs.size+1) (.ins C s.heap.objs.size []))
  { s with heap:=(s.heap.push PySem.W.emptyDict).push (PySem.W.instObj C s.heap.objs.size) }:=by
 have e1:(s.heap.push PySem.W.emptyDict).get? s.heap.objs.size=some PySem.W.emptyDict:=Heap.get?_push_size s.heap rfl
 have e2:((s.heap.push PySem.W.emptyDict).push (PySem.W.instObj C s.heap.objs.size)).get? (s.heap.objs.size+1)=some (PySem.W.instObj C s.heap.objs.size):=by
  have:=Heap.get?_push_size (s.heap.push PySem.W.emptyDict) (o:=PySem.W.instObj C s.heap.objs.size) rfl;rwa [Heap.size_push] at this
 have e3:(s.heap.push PySem.W.emptyDict).Ns s.heap.objs.size (λ_=>none):=⟨PySem.W.emptyDict,#[],_,e1,rfl,(λe he=>absurd he (by simp)),λ_=>rfl⟩;have I1:=I.laid (a:=s.heap.objs.size) (o:=.own (s.heap.objs.size+1)) (h':=s.heap.push PySem.W.emptyDict) (t':=s.toks) (λb u q=>Heap.get?_push_of_some _ q) (aj _) ⟨_,e1⟩;refine I1.laid (a:=s.heap.objs.size+1) (o:=.ins C s.heap.objs.size []) (t':=s.toks) (λb u q=>Heap.get?_push_of_some _ q) (Ja (Heap.size_push _ _)) ?_;have ne:s.heap.objs.size≠s.heap.objs.size+1:=bN (fL _);refine ⟨by rw[aU ne,aH],aW _,ne,e2,λ_=>none,(Heap.Ns1.of_empty e3).at λo q=>Heap.get?_push_of_some _ q,λ_=>True.intro,λy hy=>absurd rfl hy⟩
theorem Od (hb:attributeBase e f env (eval e env)=eval e env)
  (h:wpAny (model prog w) A (eval e env) (λo s₁=>wpAny (model prog w) A (getAttr o f true) Q E s₁) E s):wpAny (model prog w) A (eval (.Attribute e f pos) env) Q E s :=
 Attribute_any_ h (by rw[arm_eval_Attribute,hb])
end
def Pk (K:FG9) (ta:TE) (f:Str):TE:=λσ H Q=>ta σ H λx H1=>∃a C dx fs v,x=.ref a/\H1 a=some (.ins C dx fs)/\Kg K C/\jt K C f/\fs.lookup f=some v/\Q v H1
def RE (K:FG9) (ta tv:TE) (f:Str):TS:=λD σ H=>tv σ H λy H1=>ta σ H1 λx H2=>∃a C dx fs,x=.ref a/\H2 a=some (.ins C dx fs)/\Kg K C/\jt K C f/\fs.length < 1000 /\
 D.nx σ (upd H2 a (.ins C dx (cx f y fs)))
section
variable {X:Cx} {o e value:Expr} {f:Str} {pos pos' tpos:Pos} {ta tv:TE}
theorem c7 (he:PE X e ta) (hb:attributeBase e f X.env (eval e X.env)=eval e X.env):PE X (.Attribute e f pos) (Pk X.K ta f):=by
 intro pins s σ H Q I h;refine Od hb (fz (he pins s σ H _ I h) λu s1 ⟨x,H1,I1,rx,a,C,dx,fs,v,ex,ea,c,n,l,q⟩=>?_);subst ex;obtain rfl:u=Value.ref a:=rx;exact Gj I1 ea c n l λu' s2 I2 ru=>⟨v,H1,I2,ru,q⟩
theorem vW (ha:PE X o ta) (hv:PE X value tv) (hs:swapsWith value (some (.Attribute o f pos')) pos.line X.env=pure false):PS X (.Assign [.Attribute o f pos'] value pos) (RE X.K ta tv f):=by
 intro pins s σ H D I h;refine plainObj_wpAny_Assign_Attribute (fz (hv pins s σ H _ I h) λu s1 ⟨y,H1,I1,ry,q⟩=>fz (ha pins s1 σ H1 _ I1 q) λov s2 ⟨x,H2,I2,rx,a,C,dx,fs,ex,ea,c,n,l,q2⟩=>?_) hs;subst ex;obtain rfl:ov=Value.ref a:=rx;exact FF I2 ea c n l ry λs3 I3=>⟨σ,_,I3,q2⟩
end
section
variable {X:Cx} {pins:List (Addr×Obj)} {σ:St} {H:Hp} {s:Shared} {A:Around} {E:Value->Shared->Prop} {Q:Value->Shared->Prop} {c:Value} {b:Bool}
inductive wK (K:FG9) (H:Hp):V->Value->Prop where
 | non:wK K H .non (.type "NoneType")
 | bl (x:Bool):wK K H (.bl x) (.type "bool")
 | int (i:Int):wK K H (.int i) (.type "int")
 | str (x:Str):wK K H (.str x) (.type "str")
 | flt (x:UInt64):wK K H (.flt x) (.type "float")
 | lst {a:Addr} {xs:List V} (e:H a=some (.lst xs)):wK K H (.ref a) (.type "list")
 | frz {a:Addr} {o:Obj} {xs:List V} (e:H a=some (.frz o (.lst xs))):wK K H (.ref a) (.type "list")
 | tup {a:Addr} {xs:List V} (e:H a=some (.tup xs)):wK K H (.ref a) (.type "tuple")
 | dK {a:Addr} {kvs:List (Key×V)} (e:H a=some (.dK kvs)):wK K H (.ref a) (.type "dict")
 | dT {a:Addr} {kvs:List (List Key×V)} (e:H a=some (.dT kvs)):wK K H (.ref a) (.type "dict")
 | ins {a C dx:Addr} {fs:List (Str×V)} (e:H a=some (.ins C dx fs)) (cl:Kg K C) (ha:PySem.W.findIn K (.ref C) "__class__"=some (some (.builtin "object.__class__")))
   (hn:PySem.W.specialIn K (.builtin "object.__class__") "__get__"=some (some (.builtin "getset_descriptor.__get__"))) (htk:PySem.W.takesIn K (.builtin "object.__class__")=some true)
   (hm:PySem.W.mroIn K C (.type "object")=some true):wK K H (.ref a) (.ref C)
theorem BG (I:Inv X pins σ H s) (rx:RelV x u) (ty:wK X.K H x t) (e:PySem.W.kitOne X.K t c=some b) (h:∀tk,Q (.bool b) { s with toks:=tk }) :
  wpAny (model X.prog X.w) A (call (.builtin "isinstance") [u,c]) Q E s:=by
 cases ty with
 | non=>cases (show u=Value.none from rx);exact dm PySem.W.kitx_none I.kIn True.intro e (λz=>nomatch z) h
 | bl y=>cases (show u=Value.bool y from rx);exact dm PySem.W.kitx_bool I.kIn True.intro e (λz=>nomatch z) h
 | int i=>obtain ⟨t,q⟩:=(show ∃t,u=Value.int i t from rx);cases q;exact dm PySem.W.kitx_int I.kIn True.intro e (λz=>nomatch z) h
 | str y=>obtain ⟨t,q⟩:=(show ∃t,u=Value.str y t from rx);cases q;exact dm PySem.W.kitx_str I.kIn True.intro e (λz=>nomatch z) h
 | flt y=>obtain ⟨t,q⟩:=(show ∃t,u=Value.float y t from rx);cases q;exact dm PySem.W.kitx_float I.kIn True.intro e (λz=>nomatch z) h
 | @lst a xs ea =>
  cases (show u=Value.ref a from rx);obtain ⟨_,_,n,_,h1⟩:=(show fO X.prog X.w H s.heap a (.lst xs) from I.hok a _ ea);exact dm PySem.W.kitx_list I.kIn ⟨_,h1,rfl⟩ e (λz=>nomatch z) h
 | @frz a ob xs ea =>
  cases (show u=Value.ref a from rx);obtain ⟨_,_,_,n,_,h1⟩:=(show fO X.prog X.w H s.heap a (.frz ob (.lst xs)) from I.hok a _ ea);exact dm PySem.W.kitx_list I.kIn ⟨_,h1,rfl⟩ e (λz=>nomatch z) h
 | @tup a xs ea =>
  cases (show u=Value.ref a from rx);obtain ⟨_,_,_,p⟩:=(show fO X.prog X.w H s.heap a (.tup xs) from I.hok a _ ea);obtain ⟨o,h1,h2,_⟩:=p;exact dm PySem.W.kitx_tuple I.kIn ⟨o,h1,h2⟩ e (λz=>nomatch z) h
 | @dK a kvs ea =>
  cases (show u=Value.ref a from rx);obtain ⟨_,_,vs,_,p⟩:=(show fO X.prog X.w H s.heap a (.dK kvs) from I.hok a _ ea);obtain ⟨o,es,ep,h1,h2,_⟩:=p;exact dm PySem.W.kitx_dict I.kIn ⟨o,h1,h2.1⟩ e (λz=>nomatch z) h
 | @dT a kvs ea =>
  cases (show u=Value.ref a from rx);obtain ⟨_,_,xs,_,o,es,ep,h1,h2,_⟩:=(show fO X.prog X.w H s.heap a (.dT kvs) from I.hok a _ ea);exact dm PySem.W.kitx_dict I.kIn ⟨o,h1,h2.1⟩ e (λz=>nomatch z) h
 | @ins a C dx fs ea cl ha hn htk hm =>
  cases (show u=Value.ref a from rx);obtain ⟨mA,O,_⟩:=ym I.hok ea;obtain ⟨od,J,_⟩:=O.look;exact dm (PySem.W.kitx_own (cl.get _) cl.hd ha hn htk hm) I.kIn J e (λz=>nomatch z) h
end
structure js (k:Nat) (A:Around):Prop where
 hd:A.handled=none
 dp:A.depth+3*k+105 < recursionLimit
 un:A.units+16*k+200 < cLine
theorem js.mono (r:js k A) (h:j<=k):js j A:=⟨r.hd,by have:=r.dp;lia,by have:=r.un;lia⟩
theorem js.deeper (r:js (k+1) A) (env:Env):js k (A.deeper env) :=
 ⟨r.hd,by have:=r.dp;show A.depth+1+3*k+105 < _;lia,by have:=r.un;show A.units+3+16*k+200 < _;lia⟩
theorem F8 {A:Around}:(A.under (.builtin "type.__call__" ⟨.ref C :: us,kw⟩)).depth=A.depth+1:=by
 first | rfl | simp [Around.under,Code.weight,Code.isCreation,Code.isGuard,Code.isCaller,Code.frames,Code.isFrame,guardIds]
theorem F7 {A:Around}:(A.under (.builtin "type.__call__" ⟨.ref C :: us,kw⟩)).units=A.units+1:=by
 first | rfl | simp [Around.under,Code.cUnits,Code.frames,Code.isFrame]
theorem js.make (r:js (k+1) A) (C:Addr) (us:List Value) (kw:List (Str×Value)):js k (A.under (.builtin "type.__call__" ⟨.ref C :: us,kw⟩)) :=
 ⟨r.hd,by have:=r.dp;rw[F8];lia,by have:=r.un;rw[F7];lia⟩
theorem js.depth (r:js k A):A.depth < recursionLimit:=by have:=r.dp;lia
theorem js.units (r:js k A):A.units+64 < cLine:=by have:=r.un;lia
def Jg:TA:=λ_ H Q=>Q [] H
def qB (ta:TE) (tr:TA):TA:=λσ H Q=>ta σ H λx H1=>tr σ H1 λxs H2=>Q (x :: xs) H2
section
variable {X:Cx} {e:Expr} {es:List Expr} {te:TE} {t:TA} {pos:Pos}
theorem ai:PA X [] Jg:=λ_ _ _ _ H Q I h=>Calls.spliced_nil ⟨[],H,I,.nil,h⟩
theorem ae (ha:PE X e te) (hr:PA X es t) (hs:starEach (e :: es) X.env=(false,eval e X.env) :: starEach es X.env:=by rfl):PA X (e :: es) (qB te t):=by
 intro pos pins s σ H Q I h;rw[hs];show wpAny _ _ (spliced ((false,eval e X.env) :: backTo pos (starEach es X.env))) _ _ s
 refine Calls.spliced_cons (fz (ha pins s σ H _ I h) λu s1 ⟨x,H1,I1,r1,q1⟩=>?_);exact fz (hr pos pins s1 σ H1 _ I1 q1) λus s2 ⟨xs,H2,I2,r2,q2⟩=>⟨x :: xs,H2,I2,.cons r1 r2,q2⟩
def Q8 (t:TA):TE:=λσ H Q=>t σ H λxs H1=>xs.length<=sizeLine/\∀p,H1 p=none->Q (.ref p) (upd H1 p (.tup xs))
def Ro (t:TA):TE:=λσ H Q=>t σ H λxs H1=>xs.length<=sizeLine/\∀p,H1 p=none->Q (.ref p) (upd H1 p (.lst xs))
theorem dR (h:PA X es t):PE X (.Tuple es x1 pos) (Q8 t):=by
 intro pins s σ H Q I hq;refine wpAny_Tuple_spliced (fz (h pos pins s σ H _ I hq) λus s1 ⟨xs,H1,I1,r,z,q⟩=>⟨by rw[<- r.length];exact z,?_⟩);have hf:H1 s1.heap.objs.size=none:=I1.hok.fresh (aj _);refine ⟨.ref s1.heap.objs.size,upd H1 s1.heap.objs.size (.tup xs),I1.laid (t':=s1.toks) (λb u e=>Heap.get?_push_of_some _ e) (aj _) ?_,rfl,q _ hf⟩;exact ⟨z,us,r,⟨_,Heap.get?_push_size _ rfl,rfl,_,rfl⟩⟩
theorem eX (h:PA X es t):PE X (.List es pos) (Ro t):=by
 intro pins s σ H Q I hq;refine wpAny_List_spliced (fz (h pos pins s σ H _ I hq) λus s1 ⟨xs,H1,I1,r,z,q⟩=>⟨by rw[<- r.length];exact z,?_⟩);have hf:H1 s1.heap.objs.size=none:=I1.hok.fresh (aj _);refine ⟨.ref s1.heap.objs.size,upd H1 s1.heap.objs.size (.lst xs),I1.laid (t':=s1.toks) (λb u e=>Heap.get?_push_of_some _ e) (aj _) ?_,rfl,q _ hf⟩;exact ⟨z,us,0,r,Heap.get?_push_size _ rfl⟩
end
abbrev Sp:=List V->Hp->VK->XK->Prop
abbrev J9:=List Env->Hp->Shared->XK->Value->Shared->Prop
structure GQ (P:Program) (w:World) (K:FG9) (mg:Str->Option Value) (base:Heap) (A:Around) (outer:List Env) (s:Shared) (H:Hp):Prop where
 frames:A.frames=some outer
 mod:Mod K mg base
 bs:∀b o,base.get? b=some o->s.heap.get? b=some o/\H b=none
 bsz:base.objs.size<=s.heap.objs.size
 funs:s.heap.FunFrames base outer
 frf:∀b∈uF outer,H b=none
 hok:vB P w H s.heap
 bare:AllBare s.gens
def CE (outer:List Env) (P:Program) (w:World) (H:Hp) (s:Shared) (Q:VK) (u:Value) (s':Shared):Prop :=
 ∃v H',s'.os=s.os/\AllBare s'.gens/\Un (uF outer) [] H H' s.heap s'.heap/\vB P w H' s'.heap/\RelV v u/\Q v H'
def CR (CX:J9) (outer:List Env) (P:Program) (w:World) (H:Hp) (s:Shared) (Q:VK) (E:XK) (r:Result) (s':Shared):Prop :=
 match r with
 | .ok (.ret u)=>CE outer P w H s Q u s'
 | .ok _=>False
 | .error e=>CX outer H s E e s'
structure cD (P:Program) (w:World) (K:FG9) (mg:Str->Option Value) (base:Heap) (CX:J9) (k:Nat) (f:Addr) (fd:FuncData) (ps:List Str) (sp:Sp):Prop where
 len:∀vs H Q E,sp vs H Q E->vs.length=ps.length
 run:∀(A:Around) (outer:List Env) (s:Shared) (H:Hp) (args:Args) (us:List Value) (vs:List V) (Q:VK) (E:XK),js k A->GQ P w K mg base A outer s H->BindsTo s fd args (ps.zip us)->cM vs us->sp vs H Q E →
  codeAny (model P w) A (.call (.ref f) args) (CR CX outer P w H s Q E) s
theorem GQ.make {K:FG9} (e:GQ P w K mg base A outer s H) (C:Addr) (us:List Value) (kw:List (Str×Value)) :
  GQ P w K mg base (A.under (.builtin "type.__call__" ⟨.ref C :: us,kw⟩)) outer s H:=⟨by first | exact e.frames | (simpa [Around.under,Code.envs,Code.isFrame,pushEnvs] using e.frames),e.mod,e.bs,e.bsz,e.funs,e.frf,e.hok,e.bare⟩
section
variable {X:Cx} {pins:List (Addr×Obj)} {σ:St} {H:Hp} {s s':Shared}
theorem Inv.env0 (I:Inv X pins σ H s):GQ X.prog X.w X.K X.mg X.base X.A X.stack s H :=
 ⟨I.ok.frames,I.ok.mod,I.bs,ag I.ok.bsz I.sz,I.stack,I.stkFree,I.hok,I.bare⟩
theorem Inv.after (I:Inv X pins σ H s) (h:CE X.stack X.prog X.w H s Q u s'):EP X pins σ Q u s':=by
 obtain ⟨v,H',os,bare,un,hok,r,q⟩:=h;obtain ⟨hh,g,d,t,os'⟩:=s';obtain rfl:os'=s.os:=os;exact ⟨v,H',I.call (h':=hh) (g':=g) (d':=d) (t':=t) (ch:=[]) un hok bare (λb z=>absurd z (by simp)),r,q⟩
end
def Ks (sp:Sp) (dvs:List V) (E:XK) (t:TA):TE:=λσ H Q=>t σ H λvs H1=>sp (vs++dvs) H1 Q E
def OB (C:Addr) (m:Str) (sp:Sp) (dvs:List V) (E:XK) (ta:TE) (t:TA):TE:=λσ H Q=>ta σ H λx H1=>∃a dx fs,x=.ref a/\H1 a=some (.ins C dx fs)/\fs.lookup m=none /\
 t σ H1 λvs H2=>sp (x :: (vs++dvs)) H2 Q E
def OC (C:Addr) (sp:Sp) (dvs:List V) (E:XK) (t:TA):TE:=λσ H Q=>t σ H λvs H1=>∀x dx,H1 x=none->H1 dx=none->dx≠x →
 sp (.ref x :: (vs++dvs)) (upd (upd H1 dx (.own x)) x (.ins C dx [])) (λv H2=>v=.non/\Q (.ref x) H2) E
def Binds (K:FG9) (fd:FuncData) (ps:List Str) (ds:List Value):Prop :=
 ∀(s:Shared) (us:List Value),K.In s.heap->(us++ds).length=ps.length->BindsTo s fd ⟨us,[]⟩ (ps.zip (us++ds))
theorem Binds.all {K:FG9} (h:∀us:List Value,us.length=ps.length->bindArgs fd ⟨us,[]⟩=pure (ps.zip us)):Binds K fd ps []:=λs us _ hl=>by
 rw[iW] at hl ⊢;exact .of_eq (h us hl)
def tV (CX:J9) (X:Cx) (E:XK):Prop:=∀(pins:List (Addr×Obj)) (σ:St) (H:Hp) (s:Shared) (e:Value) (s':Shared),Inv X pins σ H s->CX X.stack H s E e s'->X.xe e s'
section
variable {X:Cx} {CX:J9} {k:Nat} {f C:Addr} {fd:FuncData} {ps:List Str} {sp:Sp} {dvs:List V} {ds:List Value} {E:XK} {x m:Str} {p pos apos:Pos} {e o:Expr} {es:List Expr} {ta:TE} {t:TA}
theorem KJ {σ:St} (F:cD X.prog X.w X.K X.mg X.base CX k f fd ps sp) (hr:js k X.A) (hb:Binds X.K fd ps ds) (hd:cM dvs ds) (hx:tV CX X E)
  (I:Inv X pins σ H s) (r:cM vs us) (h:sp (vs++dvs) H Q E):wpAny (model X.prog X.w) X.A (call (.ref f) us) (EP X pins σ Q) X.xe s:=by
 have r2:cM (vs++dvs) (us++ds):=r.append hd;have hl:(us++ds).length=ps.length:=by rw[<- r2.length];exact F.len _ _ _ _ h
 refine wpAny_call (codeAny_mono (F.run X.A X.stack s H ⟨us,[]⟩ (us++ds) (vs++dvs) Q E hr I.env0 (hb s us I.kIn hl) r2 h) λr s' hq=>?_);cases r with
 | error e=>exact hx pins σ H s e s' I hq
 | ok fl =>
  cases fl with
  | ret u=>exact I.after hq
  | next=>exact False.elim hq
  | brk=>exact False.elim hq
  | cont=>exact False.elim hq
theorem HN (F:cD X.prog X.w X.K X.mg X.base CX k f fd ps sp) (hr:js k X.A) (hg:Gl X x) (hm:X.mg x=some (.ref f)) (hk:PySem.W.keepIn X.K (.ref f)=true) (hb:Binds X.K fd ps ds) (hd:cM dvs ds) (hx:tV CX X E)
  (ha:PA X (e :: es) t) (hdb:(x == ("__debug__":Str))=false:=by decide) (he:starEach (e :: es) X.env=(false,eval e X.env) :: starEach es X.env:=by rfl) (hpl:(backTo pos (starEach es X.env)).any (·.1)=false:=by rfl) :
  PE X (.Call (.Name x p) (e :: es) [] pos) (Ks sp dvs E t):=by
 intro pins s σ H Q I h;refine wpAny_Call_Name_kw (rV I hg hm ?_ hdb);refine kQ (h₀:=X.base) I.ok.mod.kin hk (fz (ha pos pins s σ H _ I h) λus s1 ⟨vs,H1,I1,r,q⟩=>⟨I1.kIn,?_⟩) he hpl;exact KJ F hr hb hd hx I1 r q
theorem Nz {pl : Sem Bool} (he : PE X o ta) (c : Kg X.K C) (hm : QQ X.K C m f) (F : cD X.prog X.w X.K X.mg X.base CX k f fd ps sp) (hr : js k X.A) (hb : Binds X.K fd ps ds) (hd : cM dvs ds) (hx : tV CX X E) (ha : PA X (e :: es) t)
    (hst : starEach (e :: es) X.env = (false, eval e X.env) :: starEach es X.env := by rfl) (hpl : (backTo pos (starEach es X.env)).any (·.1) = false := by rfl)
    (ht : eval (.Call (.Attribute o m apos) (e :: es) [] pos) X.env = (do
      let ov <- eval o X.env
      standAt apos.atName
      let (f, first) <- holding [ov] (getMethod ov m pl)
      callWith pos f first (backTo pos (starEach (e :: es) X.env)) (backToKw pos (keywordEach [] X.env))) := by rfl) :
    PE X (.Call (.Attribute o m apos) (e :: es) [] pos) (OB C m sp dvs E ta t) := by
  intro pins s σ H Q I h;refine PySem.W.methodCall_KW (pl := pl) (fz (he pins s σ H _ I h) λu s1 ⟨x, H1, I1, rx, a, dx, fs, ex, ea, l, q⟩ => ?_) ht;subst ex;obtain rfl : u = Value.ref a := rx;refine Gi I1 ea c hm l ?_;refine kQ (first := [.ref a]) (h₀ := X.base) I.ok.mod.kin hm.kp (fz (ha pos pins s1 σ H1 _ I1 q) λus s2 ⟨vs, H2, I2, r, q2⟩ => ⟨I2.kIn, ?_⟩) hst hpl;exact KJ (us := .ref a :: us) (vs := .ref a :: vs) F hr hb hd hx I2 (.cons rfl r) q2
structure Mk (K:FG9) (C f:Addr):Prop where
 makes:PySem.W.makesIn K C=true
 init:PySem.W.findIn K (.ref C) "__init__"=some (some (.ref f))
 fn:PySem.W.isFn K (.ref f)=true
 kp:PySem.W.keepIn K (.ref C)=true
theorem KI {σ:St} (M:Mk X.K C f) (F:cD X.prog X.w X.K X.mg X.base CX k f fd ps sp) (hr:js (k+1) X.A) (hb:Binds X.K fd ps ds) (hd:cM dvs ds)
  (hx:tV CX X E) (I:Inv X pins σ H s) (r:cM vs us)
  (h:∀x dx,H x=none->H dx=none->dx≠x->sp (.ref x :: (vs++dvs)) (upd (upd H dx (.own x)) x (.ins C dx [])) (λv H2=>v=.non/\Q (.ref x) H2) E) :
  wpAny (model X.prog X.w) X.A (call (.ref C) us) (EP X pins σ Q) X.xe s:=by
 have hq:=h (s.heap.objs.size+1) s.heap.objs.size (I.hok.fresh (Cp _)) (I.hok.fresh (aj _)) (bN (fL _));have I2:=Inv.made (C:=C) I;have r2:cM (V.ref (s.heap.objs.size+1) :: (vs++dvs)) (Value.ref (s.heap.objs.size+1) :: (us++ds)):=.cons rfl (r.append hd)
 have hl:(Value.ref (s.heap.objs.size+1) :: us++ds).length=ps.length:=by
  have e:=r2.length;rw[F.len _ _ _ _ hq] at e;exact e.symm
 refine wpAny_call (Ls (f:=f) I.kIn M.makes M.init (beq_iff_eq.mp M.fn) (codeAny_mono (F.run _ X.stack _ _ ⟨Value.ref (s.heap.objs.size+1) :: us,[]⟩ (Value.ref (s.heap.objs.size+1) :: (us++ds)) _ _ E (hr.make C us [])
  (I2.env0.make C us []) (hb _ (Value.ref (s.heap.objs.size+1) :: us) I2.kIn hl) r2 hq) λr s' hq'=>?_))
 cases r with
 | error e=>exact hx pins σ _ _ e s' I2 hq'
 | ok fl =>
  cases fl with
  | ret u =>
   obtain ⟨v,H',I3,rv,ev,q3⟩:=I2.after hq';subst ev;exact ⟨rv,⟨V.ref (s.heap.objs.size+1),H',I3,rfl,q3⟩⟩
  | next=>exact False.elim hq'
  | brk=>exact False.elim hq'
  | cont=>exact False.elim hq'
theorem HM (M:Mk X.K C f) (F:cD X.prog X.w X.K X.mg X.base CX k f fd ps sp) (hr:js (k+1) X.A) (hg:Gl X x) (hm:X.mg x=some (.ref C)) (hb:Binds X.K fd ps ds) (hd:cM dvs ds) (hx:tV CX X E)
  (ha:PA X (e :: es) t) (hdb:(x == ("__debug__":Str))=false:=by decide) (he:starEach (e :: es) X.env=(false,eval e X.env) :: starEach es X.env:=by rfl) (hpl:(backTo pos (starEach es X.env)).any (·.1)=false:=by rfl) :
  PE X (.Call (.Name x p) (e :: es) [] pos) (OC C sp dvs E t):=by
 intro pins s σ H Q I h;refine wpAny_Call_Name_kw (rV I hg hm ?_ hdb);refine kQ (h₀:=X.base) I.ok.mod.kin M.kp (fz (ha pos pins s σ H _ I h) λus s1 ⟨vs,H1,I1,r,q⟩=>⟨I1.kIn,?_⟩) he hpl;exact KI M F hr hb hd hx I1 r q
end
structure aR (N P:List Str) (sc:Scope):Prop where
 kind:sc.kind=.function
 co:sc.isCoroutine=false
 gen:sc.isGenerator=false
 nd:N.Nodup
 pre:N.take P.length=P
 par:∀x∈P,sc.names.lookup x=some .local\/sc.names.lookup x=some .cell
 nofree:∀y∈sc.names,y.2≠.free
theorem B6 {kindOf:Str->Option NameKind} {x:Str}:∀{binds:List (Str×Value)} {m:Str->Option Value},(∀v,(x,v)∉binds)->bindL kindOf binds m x=m x
 | [],_,_=>rfl
 | (n,v) :: r,m,h=>by
  unfold bindL;rw[B6 λw hw=>h w (bP _ hw)]
  split
  ·have:x≠n:=by rintro rfl;exact h v cJ
   simp [this]
  ·rfl
theorem Ca {kindOf:Str->Option NameKind} {x:Str}:∀{binds:List (Str×Value)} {m:Str->Option Value},(∀v,(x,v)∉binds)->bindC kindOf binds m x=m x
 | [],_,_=>rfl
 | (n,v) :: r,m,h=>by
  unfold bindC;rw[Ca λw hw=>h w (bP _ hw)]
  split
  ·rfl
  ·have:x≠n:=by rintro rfl;exact h v cJ
   simp [this]
theorem B9 {kindOf:Str->Option NameKind} {x:Str} {v:Value}:∀{P:List Str} {vs:List Value} {i:Nat} {m:Str->Option Value},P.Nodup->P[i]?=some x->vs[i]?=some v->kindOf x=some .local →
  bindL kindOf (P.zip vs) m x=some v
 | [],_,_,_,_,h,_,_=>by simp at h
 | _ :: _,[],_,_,_,_,h,_=>by simp at h
 | p :: P,w :: vs,0,m,nd,h1,h2,hk=>by
  simp at h1 h2;subst h1;subst h2;show bindL kindOf ((p,w) :: P.zip vs) m p=_
  unfold bindL;rw[B6 λv hv=>(cR.mp nd).1 (MC hv).1,if_pos hk];simp
 | p :: P,w :: vs,i+1,m,nd,h1,h2,hk=>by
  show bindL kindOf ((p,w) :: P.zip vs) m x=_
  unfold bindL;exact B9 (i:=i) (cR.mp nd).2 (by simpa using h1) (by simpa using h2) hk
theorem Cb {kindOf:Str->Option NameKind} {x:Str} {v:Value}:∀{P:List Str} {vs:List Value} {i:Nat} {m:Str->Option Value},P.Nodup->P[i]?=some x->vs[i]?=some v->kindOf x≠some .local →
  bindC kindOf (P.zip vs) m x=some v
 | [],_,_,_,_,h,_,_=>by simp at h
 | _ :: _,[],_,_,_,_,h,_=>by simp at h
 | p :: P,w :: vs,0,m,nd,h1,h2,hk=>by
  simp at h1 h2;subst h1;subst h2;show bindC kindOf ((p,w) :: P.zip vs) m p=_
  unfold bindC;rw[Ca λv hv=>(cR.mp nd).1 (MC hv).1,if_neg hk];simp
 | p :: P,w :: vs,i+1,m,nd,h1,h2,hk=>by
  show bindC kindOf ((p,w) :: P.zip vs) m x=_
  unfold bindC;exact Cb (i:=i) (cR.mp nd).2 (by simpa using h1) (by simpa using h2) hk
def start (N:List Str) (vs:List V):St:=vs.map some++List.replicate (N.length - vs.length) none
def Dz (CX:J9) (P:Program) (w:World) (K:FG9) (mg:Str->Option Value) (base:Heap) (N:List Str) (qual:Str) (scope:Scope) (f:Addr) (cd:Value) (A:Around) (outer:List Env) (s:Shared) (H:Hp) (E:XK):Cx where
 prog:=P
 w:=w
 K:=K
 mg:=mg
 base:=base
 A:=A.deeper (envOfC qual scope s.heap.objs.size f cd)
 N:=N
 s₀:=s
 H₀:=H
 env:=envOfC qual scope s.heap.objs.size f cd
 outer:=outer
 stack:=envOfC qual scope s.heap.objs.size f cd :: outer
 ex:=[]
 calm:=true
 fn:=λ_=>true
 pn:=[]
 xe:=λe s'=>wpAny (model P w) (A.deeper (envOfC qual scope s.heap.objs.size f cd)) (leaving (envOfC qual scope s.heap.objs.size f cd) e) (λ_ s''=>CX outer H s E e s'') (λe' s''=>CX outer H s E e' s'') s'
theorem EZ {sc:Scope} (h:sc.names.lookup x=some .cell):∃c,(cellsFrom n sc.names []).lookup x=some c:=by
 have q:=yp sc.names n [] (.inl h);exact Q5.mp q
theorem JK {K:FG9} 
  (S:aR N ps scope) (hd:A.handled=none) (e0:GQ P w K mg base A outer s H) (hl:vs.length=ps.length) (r:cM vs us)
  (x:InCallC s s.heap.objs.size (bindL (envOfC qual scope s.heap.objs.size f cd).kindOf (ps.zip us) λ_=>none) (cellsFrom (s.heap.objs.size+1) scope.names []) (bindC (envOfC qual scope s.heap.objs.size f cd).kindOf (ps.zip us) λ_=>none) s1) :
  Inv (Dz CX P w K mg base N qual scope f cd A outer s H E) [] (start N vs) H s1:=by
 have hpl:ps.length<=N.length:=by have:=congrArg List.length S.pre;rw[bZ] at this;lia
 obtain ⟨h1,tk,rfl,hk⟩:=x.done;have noA:∀b:Addr,b∉(Dz CX P w K mg base N qual scope f cd A outer s H E).ex:=λb z=>absurd (show b∈([]:List Addr) from z) (by simp)
 refine ⟨⟨e0.mod,S.kind,rfl,rfl,aj _,λy z c h1 h2=>?_,λy hy=>?_,λy c _ h=>?_,λ_=>hd,Around.frames_deeper e0.frames,.inr ⟨rfl,rfl⟩,λb z=>absurd z (noA b),e0.bs,e0.bsz,λb _ _=>noA b,λb z=>absurd z (noA b),e0.funs,e0.frf⟩,
  rfl,e0.bare,Un.kept hk,⟨_,x.toInCall.ns,λi y v h1 h2 h3=>?_⟩,λy c h=>⟨_,x.cell y c h⟩,e0.hok.fresh (aj _),λy c h=>?_,λp hp=>absurd (show p∈([]:List (Addr×Obj)) from hp) (by simp),e0.hok.kept hk,?_⟩
 ·exact name_of_addr x.apart (ki h1) (ki h2)
 ·have hy:scope.names.lookup y=some .cell\/scope.names.lookup y=some .free:=hy;rcases hy with hy | hy
  ·exact EZ hy
  ·exact absurd rfl (S.nofree _ (ki hy))
 ·exact aQ (x.above y c (ki h))
 ·have hi:i < vs.length:=by
   unfold start at h2;by_cases hi:i < vs.length
   ·exact hi
   ·rw[bQ (by simpa using hi)] at h2;rw[l9] at h2
    split at h2 <;> cases h2
  have ha:vs[i]?=some v:=by
   unfold start at h2;rw[bY (by simpa using hi),az] at h2;cases e:vs[i]? with
   | none=>rw[e] at h2;cases h2
   | some a=>rw[e] at h2;cases h2;rfl
  obtain ⟨u,hu,rv⟩:=r.get ha
  have hp:ps[i]?=some y:=by
   rw[<- S.pre,vC (by lia)];exact h1
  have ndP:ps.Nodup:=by rw[<- S.pre];exact S.nd.sublist (List.take_sublist _ _)
  refine ⟨u,rv,?_⟩;rcases S.par y (ak hp) with k | k
  ·exact .inl ⟨k,B9 ndP hp hu k⟩
  ·obtain ⟨c,e⟩:=EZ (n:=s.heap.objs.size+1) k;refine .inr ⟨.inl k,c,e,?_⟩;have q:=x.cell y c e;rw[Cb ndP hp hu (by show scope.names.lookup y≠_;rw[k];decide)] at q;exact q
 ·exact e0.hok.fresh (aQ (x.above y c (ki h)))
 ·unfold start;show _=N.length
  rw[au,ah,cp]
  lia
theorem OW {K:FG9} {dV kV doc pm cdv ct oc:Value} 
 (lk:K.lookup f=some ⟨oc,od,.func (PySem.W.fnOf name qual params body scope dV kV doc pm an cdv ct),osl⟩) (hcd:PySem.W.codeIn K cdv qual=true) (S:aR N ps scope)
  (len:∀vs H Q E,sp vs H Q E->vs.length=ps.length)
  (hbody:∀(A:Around) (outer:List Env) (s:Shared) (H:Hp) (vs:List V) (Q:VK) (E:XK),js k (A.deeper (envOfC qual scope s.heap.objs.size f cdv))->sp vs H Q E →
   ∃t,DU (Dz CX P w K mg base N qual scope f cdv A outer s H E) body t/\t { nx:=λ_ H'=>Q .non H',rt:=Q } (start N vs) H) :
  cD P w K mg base CX (k+1) f (PySem.W.fnOf name qual params body scope dV kV doc pm an cdv ct) ps sp:=by
 refine ⟨len,λA outer s H args us vs Q E hr e0 hb r hsp=>?_⟩;have hl:=len _ _ _ _ hsp;have KX:K.In s.heap:=e0.mod.kin.keeps λb o e=>(e0.bs b o e).1
 have lim:s.heap.NoLimit:=e0.mod.nolimit.keeps λb o e=>(e0.bs b o e).1
 have hkind:∀y∈ps.zip us,scope.names.lookup y.1=some .local\/(scope.names.lookup y.1=some .cell/\((cellsFrom (s.heap.objs.size+1) scope.names []).lookup y.1).isSome=true):=λ⟨n,v⟩ hy=>by
  rcases S.par n (MC hy).1 with q | q
  ·exact .inl q
  ·exact .inr ⟨q,yp _ _ _ (.inl q)⟩
 refine codeAny_call_function hr.depth (KX _ _ lk) rfl S.co S.gen rfl (PySem.W.codeRec_of KX hcd) (hb _ _ _ _ ?_);refine wpAny_newFunctionEnv_cells S.kind hkind λenv he s1 x=>?_
 subst he;refine ⟨lim.keeps x.toInCall.keep,codeAny_func ?_⟩;obtain ⟨t,ht,hq⟩:=hbody A outer s H vs Q E (hr.deeper _) hsp;have I:Inv (Dz CX P w K mg base N qual scope f cdv A outer s H E) [] (start N vs) H s1:=JK S hr.hd e0 hl r x;refine wpAny_mono (ht [] s1 (start N vs) H _ I hq) (λfl s' hs=>?_) λe s' hs=>hs
 have fin:∀{σ':St} {H':Hp} {v:V} {u:Value},Inv (Dz CX P w K mg base N qual scope f cdv A outer s H E) [] σ' H' s'->RelV v u->Q v H'->CE outer P w H s Q u s' :=
  λ{σ' H' v u} J rv q=>⟨v,H',J.os,J.bare,J.base,J.hok,rv,q⟩
 cases fl with
 | ret u =>
  obtain ⟨v,σ',H',J,rv,q⟩:=hs;exact fin J rv q
 | next =>
  obtain ⟨σ',H',J,q⟩:=hs;exact fin (v:=V.non) (u:=Value.none) J rfl q
 | brk =>
  obtain ⟨_,_,_,q⟩:=hs;exact False.elim q
 | cont =>
  obtain ⟨_,_,_,q⟩:=hs;exact False.elim q
section
variable {X:Cx} {x:Str} {p pos:Pos} {e:Expr} {es:List Expr} {t:TA} {id T:String} {r:List V->Hp->VK->Prop}
def S6 (r:List V->Hp->VK->Prop) (t:TA):TE:=λσ H Q=>t σ H λvs H1=>r vs H1 Q
theorem bL (hc:oj X (.builtin id) r) (hg:Gl X x) (hm:X.mg x=none) (hv:bootBuiltins x=some (.builtin id)) (ha:PA X (e :: es) t) (hn:x≠"__name__":=by decide) (hdb:(x == ("__debug__":Str))=false:=by decide)
  (he:starEach (e :: es) X.env=(false,eval e X.env) :: starEach es X.env:=by rfl) (hpl:(backTo pos (starEach es X.env)).any (·.1)=false:=by rfl):PE X (.Call (.Name x p) (e :: es) [] pos) (S6 r t):=by
 intro pins s σ H Q I h;refine wpAny_Call_Name_kw (jR I hg hm hv ?_ hn hdb);exact PyProof.Rows.callWith_builtin1 (fz (ha pos pins s σ H _ I h) λus s1 ⟨vs,H1,I1,r1,q1⟩=>hc pins s1 σ H1 vs us Q I1 r1 q1) he hpl
theorem iN (hc:oj X (.type T) r) (hg:Gl X x) (hm:X.mg x=none) (hv:bootBuiltins x=some (.type T)) (ha:PA X (e :: es) t) (hn:x≠"__name__":=by decide) (hdb:(x == ("__debug__":Str))=false:=by decide)
  (he:starEach (e :: es) X.env=(false,eval e X.env) :: starEach es X.env:=by rfl) (hpl:(backTo pos (starEach es X.env)).any (·.1)=false:=by rfl):PE X (.Call (.Name x p) (e :: es) [] pos) (S6 r t):=by
 intro pins s σ H Q I h;refine wpAny_Call_Name_kw (jR I hg hm hv ?_ hn hdb);exact PyProof.Rows.callWith_type1 (fz (ha pos pins s σ H _ I h) λus s1 ⟨vs,H1,I1,r1,q1⟩=>hc pins s1 σ H1 vs us Q I1 r1 q1) he hpl
end
end L2
namespace HT
open PySem PyProof.Rows
section
open PySem.SeqAt
open PySem.AutoSeq1 (wpAny_loadPart')
open PySem.MeetsSeq PySem.MeetsSeq2 PySem.MeetsSeq3
end
section
variable {prog:Program} {w:World} {A:Around} {E:Value->Shared->Prop} {s:Shared}
def CY (n d:Nat):Option Int->Nat
 | none=>d
 | some v=>if v < 0 then (v+(n:Int)).toNat else min v.toNat n
theorem qS (n d:Nat):CY n d none=d:=rfl
theorem CW (n d k:Nat):CY n d (some (k:Int))=min k n:=by
 show (if (k:Int) < 0 then ((k:Int)+(n:Int)).toNat else min (k:Int).toNat n)=min k n
 rw[if_neg (by lia),Int.toNat_natCast]
end
end HT
namespace L2
open PySem PySem.Spec PyProof.Rows
abbrev TO:=St->Hp->(Option Int->Hp->Prop)->Prop
def PO (X:Cx) (e:Option Expr) (t:TO):Prop :=
 ∀(pins:List (Addr×Obj)) (s:Shared) (σ:St) (H:Hp) (Q:Option Int->Hp->Prop),Inv X pins σ H s->t σ H Q →
  wpAny (model X.prog X.w) X.A (evalPart e X.env) (λu s'=>∃o H',Inv X pins σ H' s'/\IsPart u o/\Q o H') X.xe s
def G5:TO:=λ_ H Q=>Q none H
def Oy (t:TE):TO:=λσ H Q=>t σ H λx H1=>∃i,x=.int i/\Q (some i) H1
theorem intsAre_of:∀{us:List Value},cM (ns.map V.int) us->IntsAre us ns:=by
 induction ns with
 | nil=>intro us r;rw[List.map_nil] at r;cases r;exact .nil
 | cons n ns ih =>
  intro us r;rw[iX] at r;cases r with
  | cons r1 r2 =>
   obtain ⟨t,e⟩:=r1;subst e;exact .cons n t (ih r2)
section
variable {X:Cx} {e:Expr} {te:TE} {lo hi:Option Expr} {tl th:TO} {pos p2:Pos}
theorem oS:PO X none G5:=by
 intro pins s σ H Q I h;rw[evalPart_none];exact wpAny_pure ⟨none,H,I,.none,h⟩
theorem oR (h:PE X e te):PO X (some e) (Oy te):=by
 intro pins s σ H Q I hw;rw[evalPart_some];refine fz (h pins s σ H _ I hw) λu s1 ⟨x,H1,I1,r1,q1⟩=>?_
 obtain ⟨i,rfl,q⟩:=q1;obtain ⟨t,rfl⟩:=r1;exact ⟨some i,H1,I1,.int i t,q⟩
def Ts (X:Cx) (r:V->Option Int->Option Int->Hp->VK->Prop):Prop :=
 ∀(pins:List (Addr×Obj)) (s:Shared) (σ:St) (H:Hp) (x:V) (v vl vu:Value) (lo hi:Option Int) (sl:Addr) (Q:VK),Inv X pins σ H s->RelV x v->s.heap.IsSliceOf sl vl vu .none->IsPart vl lo->IsPart vu hi->r x lo hi H Q →
  ∃T id,typeLookup (.type T) "__getitem__"=pure (some (.builtin id))/\s.TypeIs v T/\wpAny (model X.prog X.w) X.A (getItem v (.ref sl)) (EP X pins σ Q) X.xe s
def tSl (r:V->Option Int->Option Int->Hp->VK->Prop) (te:TE) (tl th:TO):TE:=λσ H Q=>te σ H λx H1=>tl σ H1 λl H2=>th σ H2 λu H3=>r x l u H3 Q
theorem kZ (hr:Ts X r) (he:PE X e te) (hl:PO X lo tl) (hu:PO X hi th):PE X (.Subscript e (.Slice lo hi none p2) pos) (tSl r te tl th):=by
 intro pins s σ H Q I h;refine Subscript_ (fz (he pins s σ H _ I h) λv s1 ⟨x,H1,I1,r1,q1⟩=>?_);refine wpAny_Slice (fz (hl pins s1 σ H1 _ I1 q1) λvl s2 ⟨l,H2,I2,pl,q2⟩=>fz (hu pins s2 σ H2 _ I2 q2) λvu s3 ⟨u,H3,I3,pu,q3⟩=>?_);rw[evalPart_none];refine wpAny_pure ?_;have I4:Inv X pins σ H3 { s3 with heap:=s3.heap.push { cls:=.type "slice",data:=.fields #[vl,vu,.none] } }:=I3.kept (t':=s3.toks) λb ob q=>Heap.get?_push_of_some _ q
 obtain ⟨T,id,hT,ht,hg⟩:=hr pins { s3 with heap:=s3.heap.push { cls:=.type "slice",data:=.fields #[vl,vu,.none] } } σ H3 x v vl vu l u s3.heap.objs.size Q I4 r1 (Heap.IsSliceOf.new ..) pl pu q3;show wpAny (model X.prog X.w) X.A (subscriptTail e (.Slice lo hi none p2) v (.ref s3.heap.objs.size)) (EP X pins σ Q) X.xe { s3 with heap:=s3.heap.push { cls:=.type "slice",data:=.fields #[vl,vu,.none] } }
 exact tail_any (ops:=[.ref s3.heap.objs.size,v]) ht hT hg (by with_unfolding_all rfl)
def nW (xs:List V) (lo hi:Option Int):List V:=(xs.drop (HT.CY xs.length 0 lo)).take (HT.CY xs.length xs.length hi - HT.CY xs.length 0 lo)
theorem xA (xs:List V) (lo hi:Option Int):(nW xs lo hi).length<=xs.length:=by
 unfold nW;rw[bZ,ic]
 lia
end
def Ke (n:Nat) (i:Int):Option Nat:=if 0<=i then (if i < n then some i.toNat else none) else if -(n:Int)<=i then some (i+n).toNat else none
def E6 {α:Type} (xs:List α) (i:Int):Option α:=(Ke xs.length i).bind λj=>xs[j]?
theorem Ia (h:Ke n i=some j):seqIndex? i n=some j/\j < n/\-(n:Int)<=i/\i < n:=by
 unfold Ke at h;by_cases h0:0<=i
 ·rw[if_pos h0] at h;by_cases h1:i < n
  ·rw[if_pos h1] at h;have e:i.toNat=j:=bU h;exact ⟨by rw[seqIndex_of h0 h1,e],by lia,by lia,h1⟩
  ·rw[if_neg h1] at h;cases h
 ·rw[if_neg h0] at h;by_cases h1:-(n:Int)<=i
  ·rw[if_pos h1] at h;have e:(i+n).toNat=j:=bU h;exact ⟨by rw[seqIndex_neg (by lia) h1,e],by lia,h1,by lia⟩
  ·rw[if_neg h1] at h;cases h
theorem DD {xs:List α} {v:α} (h:E6 xs i=some v):∃j,seqIndex? i xs.length=some j/\xs[j]?=some v/\j < xs.length/\-(xs.length:Int)<=i/\i < xs.length:=by
 unfold E6 at h;cases e:Ke xs.length i with
 | none=>rw[e] at h;cases h
 | some j =>
  rw[e] at h;obtain ⟨h1,h2,h3,h4⟩:=Ia e;exact ⟨j,h1,h,h2,h3,h4⟩
theorem ff {xs:List α} {j:Nat} {v:α} (h:xs[j]?=some v):E6 xs (j:Int)=some v:=by
 have hj:j < xs.length:=(aL.mp h).1
 have e:Ke xs.length (j:Int)=some j:=by
  unfold Ke;rw[if_pos (by lia),if_pos (by lia)];simp
 unfold E6;rw[e];exact h
theorem nY (xs:List α) (v:α):E6 (xs++[v]) (-1)=some v:=by
 have hl:(xs++[v]).length=xs.length+1:=by simp
 have e:Ke (xs++[v]).length (-1)=some xs.length:=by
  unfold Ke;rw[hl,if_neg (by decide),if_pos (by lia)];congr 1
  lia
 unfold E6;rw[e];show (xs++[v])[xs.length]?=some v
 simp
def Og (b:Expr):Prop:=∀o i,subscripted b false o i=operate [o,i] (getItem o i)
def SH (X:Cx) (r:R2):Prop :=
 ∀(value slice:Expr) (pins:List (Addr×Obj)) (s:Shared) (σ:St) (H:Hp) (x y:V) (v u:Value) (Q:VK),Inv X pins σ H s->RelV x v->RelV y u->r x y H Q →
  subscripted slice false v u=operate [v,u] (getItem v u)->wpAny (model X.prog X.w) X.A (subscriptTail value slice v u) (EP X pins σ Q) X.xe s
def MtR (X:Cx) (id:String) (r:V->List V->Hp->VK->Prop):Prop :=
 ∀(pins:List (Addr×Obj)) (s:Shared) (σ:St) (H:Hp) (x:V) (xs:List V) (v:Value) (us:List Value) (Q:VK),Inv X pins σ H s->RelV x v->cM xs us->r x xs H Q →
  wpAny (model X.prog X.w) X.A (call (.builtin id) (v :: us)) (EP X pins σ Q) X.xe s
section
variable {X:Cx} {a b:Expr} {ta tb:TE} {pos:Pos}
theorem bf {r:R2} (hr:SH X r) (ha:PE X a ta) (hb:PE X b tb) (hs:Og b:=by intro _ _;rfl):PE X (.Subscript a b pos) (Rl r ta tb):=by
 intro pins s σ H Q I h;exact Subscript_ (QL ha hb I h λv u s2 x y H2 I2 rx ry q=>hr a b pins s2 σ H2 x y v u Q I2 rx ry q (hs _ _))
def P9 (K:FG9):R2:=λx y H Q=>∃p xs i v,x=.ref p/\y=.int i/\bE K H p xs/\E6 xs i=some v/\Q v H
def P8 (K:FG9):R2:=λx y H Q=>∃p xs i v,x=.ref p/\y=.int i/\pZ K H p xs/\E6 xs i=some v/\Q v H
theorem bM:SH X (P9 X.K):=by
 intro value slice pins s σ H x y v u Q I rx ry h hs;obtain ⟨p,xs,i,z,rfl,rfl,hq,he,q⟩:=h;cases rx;obtain ⟨t,rfl⟩:=ry;obtain ⟨its,r,pl,hz⟩:=I.list hq;obtain ⟨j,h1,h2,h3,h4,h5⟩:=DD he;obtain ⟨w,ew,rw'⟩:=r.get h2;have hl:=r.length;have hn:=zM;have fin:EP X pins σ Q w s:=⟨z,H,I,rw',q⟩;by_cases h0:0<=i
 ·have hj:i.toNat=j:=by
   rw[seqIndex_of h0 h5] at h1;exact bU h1
  exact item_listR pl.isList h0 (by lia) (by rw[hj];simpa using ew) fin hs
 ·have hj:(i+(its.toArray.size:Int)).toNat=j:=by
   rw[seqIndex_neg (by lia) h4] at h1;rw[aZ,<- hl];exact bU h1
  exact subscriptTail_builtinR (x:=w) pl.isList.typeIs slot_list_getitem.lookup
   (wpAny_getItem_list_neg (Q:=λr s'=>r=w/\EP X pins σ Q r s') pl.isList (by lia) (by rw[aZ] <;> lia) (by lia) (by rw[hj];simpa using ew) ⟨rfl,fin⟩) hs
theorem cw:SH X (P8 X.K):=by
 intro value slice pins s σ H x y v u Q I rx ry h hs;obtain ⟨p,xs,i,z,rfl,rfl,hq,he,q⟩:=h;cases rx;obtain ⟨t,rfl⟩:=ry;obtain ⟨its,r,pl,hz⟩:=I.tuple hq;obtain ⟨j,h1,h2,h3,h4,h5⟩:=DD he;obtain ⟨w,ew,rw'⟩:=r.get h2;have hl:=r.length;have hn:=zM;have fin:EP X pins σ Q w s:=⟨z,H,I,rw',q⟩
 exact subscriptTail_builtinR (x:=w) pl.typeIs slot_tuple_getitem.lookup
  (getItem_tuple (j:=j) (Q:=λr s'=>r=w/\EP X pins σ Q r s') pl (by lia) (by lia) (by rw[aZ,<- hl];exact h1) (by simpa using ew) ⟨rfl,fin⟩) hs
theorem F6 (its:List Value) (n j:Nat) (u:Value):Obj.mapSeq (·.setIfInBounds j u) { cls:=.type "list",data:=.seq its.toArray n }={ cls:=.type "list",data:=.seq (its.set j u).toArray n }:=by
 simp [Obj.mapSeq]
theorem Inv.lst {pins:List (Addr×Obj)} {σ:St} {H:Hp} {s:Shared} {p:Addr} {xs:List V} (I:Inv X pins σ H s) (h:H p=some (.lst xs)) :
  ∃(its:List Value) (n:Nat),cM xs its/\s.heap.get? p=some { cls:=.type "list",data:=.seq its.toArray n }/\xs.length<=sizeLine:=by
 obtain ⟨z,its,n,r,e⟩:=I.hok p _ h;exact ⟨its,n,r,e,z⟩
theorem Inv.lstUpd {σ:St} {its its':List Value} (I:Inv X pins σ H s) (h:H p=some (.lst xs))
  (ho:s.heap.get? p=some { cls:=.type "list",data:=.seq its.toArray n }) (hf:f { cls:=.type "list",data:=.seq its.toArray n }={ cls:=.type "list",data:=.seq its'.toArray n' }) (r:cM ys its') (hz:ys.length<=sizeLine) (t:Nat) :
  Inv X pins σ (upd H p (.lst ys)) { s with heap:=s.heap.update p f,toks:=t }:=by
 have e:(s.heap.update p f).get? p=some { cls:=.type "list",data:=.seq its'.toArray n' }:=by
  rw[Heap.get?_update_self f ho (by rw[hf] <;> rfl),hf]
 refine I.write (x:=p) (e:=p) (by rw[h];trivial) (.inl rfl) (λb u hb q=>(Heap.get?_update_other _ _ (Ne.symm hb)).trans q) ⟨_,e⟩ ?_;exact ⟨hz,its',n',r,e⟩
def OJ:V->V->V->Hp->(Hp->Prop)->Prop:=λo i v H Q=>∃p xs k j,o=.ref p/\i=.int k/\H p=some (.lst xs)/\Ke xs.length k=some j/\Q (upd H p (.lst (xs.set j v)))
theorem set_list:QN X OJ:=by
 intro pins s σ H o i v ov iv u Q I ro ri rv h;obtain ⟨p,xs,k,j,rfl,rfl,hp,hj,q⟩:=h;cases ro;obtain ⟨t,rfl⟩:=ri;obtain ⟨its,n,r,ho,hz⟩:=I.lst hp;obtain ⟨h1,h2,h3,h4⟩:=Ia hj;have hl:=r.length;have hn:=zM
 have I':Inv X pins σ (upd H p (.lst (xs.set j v))) { s with heap:=s.heap.update p (Obj.mapSeq (·.setIfInBounds j u)) } :=
  I.lstUpd hp ho (F6 its n j u) (r.set rv j) (by rw[fo];exact hz) s.toks
 by_cases h0:0<=k
 ·have hk:k.toNat=j:=by
   rw[seqIndex_of h0 h4] at h1;exact bU h1
  exact PySem.W.ki_setAt ho h0 (by lia) (by rw[aZ,<- hl];exact h4) (by rw[hk];exact ⟨_,I',q⟩)
 ·have hk:(k+(its.toArray.size:Int)).toNat=j:=by
   rw[seqIndex_neg (by lia) h3] at h1;rw[aZ,<- hl];exact bU h1
  exact PySem.W.ki_setBack ho (by lia) (by rw[aZ,<- hl];exact h3) (by lia) (by rw[hk];exact ⟨_,I',q⟩)
theorem CF (lo hi:Option Int) (n:Nat):(sliceBounds lo hi none n).1=((HT.CY n 0 lo:Nat):Int)/\(sliceBounds lo hi none n).2.1=((HT.CY n n hi:Nat):Int)/\(sliceBounds lo hi none n).2.2=1:=by
 refine ⟨?_,?_,rfl⟩
 ·cases lo with
  | none=>simp [sliceBounds,HT.CY]
  | some i =>
   simp only[sliceBounds,HT.CY,Option.getD_none,show (1:Int) > 0 by decide,if_true];by_cases h:i < 0
   ·simp only[h,if_true] <;> lia
   ·simp only[h,if_false] <;> lia
 ·cases hi with
  | none=>simp [sliceBounds,HT.CY]
  | some i =>
   simp only[sliceBounds,HT.CY,Option.getD_none,show (1:Int) > 0 by decide,if_true];by_cases h:i < 0
   ·simp only[h,if_true] <;> lia
   ·simp only[h,if_false] <;> lia
theorem AG (its:List Value) (lo hi:Option Int):slicePick its.toArray lo hi none=((its.drop (HT.CY its.length 0 lo)).take (HT.CY its.length its.length hi - HT.CY its.length 0 lo)).toArray:=by
 obtain ⟨h1,h2,h3⟩:=CF lo hi its.toArray.size;unfold slicePick;rw[h1,h2,h3];simp only[sliceRange_one,pick_run,aZ] <;> rfl
def P7 (K:FG9):V->Option Int->Option Int->Hp->VK->Prop:=λx lo hi H Q=>∃a xs,x=.ref a/\bE K H a xs/\∀p,H p=none->Q (.ref p) (upd H p (.lst (nW xs lo hi)))
theorem oy:Ts X (P7 X.K):=by
 intro pins s σ H x v vl vu lo hi sl Q I rx hs pl pu h;obtain ⟨a,xs,rfl,hx,q⟩:=h;cases rx;obtain ⟨its,r,ht,hz⟩:=I.list hx;have hlen:=r.length;refine ⟨"list",_,slot_list_getitem.lookup,ht.isList.typeIs,?_⟩;refine wpAny_getItem_list_slice ht.isList hs pl pu .none (by simp) ?_ (by rw[aZ] <;> lia);rw[AG,<- hlen];refine ⟨.ref s.heap.objs.size,_,I.laid (t':=s.toks) (o:=.lst (nW xs lo hi)) (λb ob q=>Heap.get?_push_of_some _ q) (aj _) ?_,rfl,q _ (I.hok.fresh (aj _))⟩;exact ⟨ag (xA xs lo hi) hz,_,0,(r.drop (HT.CY xs.length 0 lo)).take (HT.CY xs.length xs.length hi - HT.CY xs.length 0 lo),Heap.get?_push_size _ rfl⟩
def uH:V->Bool
 | .non=>true
 | .bl _=>true
 | .int _=>true
 | .str _=>true
 | _=>false
def OY:V->V->Bool
 | .non,.non=>true
 | .bl a,.bl b=>a == b
 | .bl a,.int b=>(if a then 1 else 0) == b
 | .int a,.bl b=>a == (if b then 1 else 0)
 | .int a,.int b=>a == b
 | .str a,.str b=>a == b
 | _,_=>false
theorem QE (ry:RelV y u) (rx:RelV x v) (fy:uH y=true) (fx:uH x=true):SeqAt.EqAt A s u v (OY y x):=by
 cases y with
 | non =>
  cases ry;cases x with
  | non=>cases rx;exact SeqAt.EqAt.same _
  | bl b=>cases rx;exact SeqAt.EqAt.none_bool b
  | int b=>obtain ⟨t,rfl⟩:=rx;exact SeqAt.EqAt.none_int b t
  | str b=>obtain ⟨t,rfl⟩:=rx;exact SeqAt.EqAt.none_str b t
  | _=>exact absurd (show false=true from fx) aO
 | bl a =>
  cases ry;cases x with
  | non=>cases rx;exact SeqAt.EqAt.bool_none a
  | bl b=>cases rx;exact SeqAt.EqAt.bool_bool a b
  | int b=>obtain ⟨t,rfl⟩:=rx;exact SeqAt.EqAt.bool_int a b t
  | str b=>obtain ⟨t,rfl⟩:=rx;exact SeqAt.EqAt.bool_str a b t
  | _=>exact absurd (show false=true from fx) aO
 | int a =>
  obtain ⟨t',rfl⟩:=ry;cases x with
  | non=>cases rx;exact SeqAt.EqAt.int_none a t'
  | bl b=>cases rx;exact SeqAt.EqAt.int_bool a t' b
  | int b=>obtain ⟨t,rfl⟩:=rx;exact SeqAt.EqAt.int_int a t' b t
  | str b=>obtain ⟨t,rfl⟩:=rx;exact SeqAt.EqAt.int_str a t' b t
  | _=>exact absurd (show false=true from fx) aO
 | str a =>
  obtain ⟨t',rfl⟩:=ry;cases x with
  | non=>cases rx;exact SeqAt.EqAt.str_none a t'
  | bl b=>cases rx;exact SeqAt.EqAt.str_bool a t' b
  | int b=>obtain ⟨t,rfl⟩:=rx;exact SeqAt.EqAt.str_int a t' b t
  | str b=>obtain ⟨t,rfl⟩:=rx;exact SeqAt.EqAt.str_str a t' b t
  | _=>exact absurd (show false=true from fx) aO
 | _=>exact absurd (show false=true from fy) aO
def N3 (x:V) (u:Value):Bool:=match u with
 | .none=>OY .non x
 | .bool b=>OY (.bl b) x
 | .int i _=>OY (.int i) x
 | .str z _=>OY (.str z) x
 | _=>false
theorem LW (r:RelV y u) (f:uH y=true):N3 x u=OY y x:=by
 cases y with
 | non=>cases r;rfl
 | bl b=>cases r;rfl
 | int i=>obtain ⟨t,rfl⟩:=r;rfl
 | str z=>obtain ⟨t,rfl⟩:=r;rfl
 | _=>exact absurd (show false=true from f) aO
theorem DE {x:V}:∀{xs:List V} {us:List Value},cM xs us->xs.all uH=true->us.any (N3 x)=xs.any λy=>OY y x
 | _,_,.nil,_=>rfl
 | y :: xs,u :: us,.cons r t,f=>by
  rw[List.all_cons,du] at f;rw[List.any_cons,List.any_cons,LW r f.1,DE t f.2]
theorem zH {A:Around} {s:Shared} {x:V} {v:Value} (rx:RelV x v) (fx:uH x=true):∀{xs:List V} {us:List Value},cM xs us->xs.all uH=true->∀u∈us,SeqAt.EqAt A s u v (N3 x u)
 | _,_,.nil,_=>λu hu=>by cases hu
 | y :: xs,u :: us,.cons r t,f=>λu' hu=>by
  rw[List.all_cons,du] at f;rcases ay.mp hu with rfl | hu
  ·rw[LW r f.1];exact QE r rx f.1 fx
  ·exact zH rx fx t f.2 u' hu
def SX (x:V) (xs:List V):Bool:=xs.any λy=>OY y x
def rIn (K:FG9) (neg:Bool):R2:=λx y H Q=>∃p xs,y=.ref p/\(bE K H p xs\/pZ K H p xs)/\uH x=true/\xs.all uH=true/\Q (.bl (if neg then !SX x xs else SX x xs)) H
theorem C1:xP X (compareOp .NotIn) (rIn X.K true):=by
 intro pins s σ H x y v u Q I rx ry h;obtain ⟨p,xs,rfl,hq,fx,fs,q⟩:=h;cases ry;rcases hq with hq | hq
 ·obtain ⟨its,r,pl,hz⟩:=I.list hq;refine SeqAt.notIn_listAt (N3 x) pl.isList (λw hw=>zH rx fx r fs w (by simpa using hw)) ⟨.bl _,H,I,rfl,?_⟩;rw[show its.toArray.any (N3 x)=its.any (N3 x) by simp,DE r fs];exact q
 ·obtain ⟨its,r,pl,hz⟩:=I.tuple hq;refine SeqAt.notIn_tupleAt (N3 x) pl (λw hw=>zH rx fx r fs w (by simpa using hw)) ⟨.bl _,H,I,rfl,?_⟩;rw[show its.toArray.any (N3 x)=its.any (N3 x) by simp,DE r fs];exact q
theorem bw:oj X (.builtin "len") (λxs H Q=>∃p ys,xs=[.ref p]/\(bE X.K H p ys\/pZ X.K H p ys)/\Q (.int ys.length) H):=by
 intro pins s σ H xs us Q I r h;obtain ⟨p,ys,rfl,hq,q⟩:=h;obtain ⟨u,rfl,rx⟩:=vals1 r;cases rx;have hn:=zM;rcases hq with hq | hq
 ·obtain ⟨its,r',pl,hz⟩:=I.list hq;have hlen:=r'.length;exact Calls.call_len_list pl.isList (by simp only[aZ] <;> lia) ⟨.int ys.length,H,I.tok _,⟨s.toks+1,by rw[aZ,hlen]⟩,q⟩
 ·obtain ⟨its,r',pl,hz⟩:=I.tuple hq;have hlen:=r'.length;exact len_tuple pl (by simp only[aZ] <;> lia) ⟨.int ys.length,H,I.tok _,⟨s.toks+1,by rw[aZ,hlen]⟩,q⟩
theorem uY:oj X (.type "list") (λxs H Q=>∃p ys,xs=[.ref p]/\(bE X.K H p ys\/pZ X.K H p ys)/\∀l,H l=none->Q (.ref l) (upd H l (.lst ys))):=by
 intro pins s σ H xs us Q I r h;obtain ⟨p,ys,rfl,hq,q⟩:=h;obtain ⟨u,rfl,rx⟩:=vals1 r;cases rx
 have fin:∀(its:List Value),cM ys its->ys.length<=sizeLine->∀(h':Heap) (c':Nat),(∀b o',s.heap.get? b=some o'->h'.get? b=some o') →
   h'.get? s.heap.objs.size=some { cls:=.type "list",dict:=none,data:=.seq its.toArray c',slots:=#[] }->EP X pins σ Q (.ref s.heap.objs.size) { s with heap:=h' }:=λits r' hz h' c' kp e =>
  ⟨.ref s.heap.objs.size,_,I.laid (t':=s.toks) kp (aj _) (show fO X.prog X.w _ h' _ (.lst ys) from ⟨hz,its,c',r',e⟩),rfl,q _ (I.hok.fresh (aj _))⟩
 rcases hq with hq | hq
 ·obtain ⟨its,r',pl,hz⟩:=I.list hq;have hlen:=r'.length;obtain ⟨o,ho,hc,n,hd⟩:=pl.isList;exact call_list_seq p (.inl rfl) ho hc hd (λh' c' kp e=>fin its r' hz h' c' kp e) (by simp only[aZ] <;> lia)
 ·obtain ⟨its,r',pl,hz⟩:=I.tuple hq;have hlen:=r'.length;obtain ⟨o,ho,hc,n,hd⟩:=pl;exact call_list_seq p (.inr rfl) ho hc hd (λh' c' kp e=>fin its r' hz h' c' kp e) (by simp only[aZ] <;> lia)
def S4 (K:FG9) (T:String) (x:V) (H:Hp):Prop:=match x with
 | .str _=>T="str"
 | .int _=>T="int"
 | .ref p=>(T="list"/\∃xs,bE K H p xs)\/(T="tuple"/\∃o,K.lookup p=some o/\o.cls=.type "tuple"/\o.dict=none) \/
   (T="dict"/\((∃kvs,H p=some (.dK kvs))\/∃kvs,H p=some (.dT kvs)))\/(T="set"/\∃S n,H p=some (.set S n))
 | _=>False
theorem Pe {σ:St} (I:Inv X pins σ H s) (r:RelV x v) (ty:S4 X.K T x H) :
  s.TypeIs v T/\∀a,v=.ref a->∃ob,s.heap.get? a=some ob/\ob.dict=none:=by
 cases x with
 | str z =>
  obtain ⟨t,rfl⟩:=r;cases (show T="str" from ty);exact ⟨typeIs_str s z t,λ_ e=>nomatch e⟩
 | int i =>
  obtain ⟨t,rfl⟩:=r;cases (show T="int" from ty);exact ⟨typeIs_int s i t,λ_ e=>nomatch e⟩
 | ref p =>
  cases r;rcases ty with ⟨rfl,xs,hq⟩ | ⟨rfl,o,hk,hc,hd⟩ | ⟨rfl,hk⟩ | ⟨rfl,S,n,hk⟩
  ·obtain ⟨its,_,pl,_⟩:=I.list hq;refine ⟨pl.isList.typeIs,λa e=>?_⟩;cases e;obtain ⟨o,n,e,c,hd,_⟩:=pl;exact ⟨o,e,hd⟩
  ·refine ⟨⟨o,I.kIn p o hk,hc⟩,λa e=>?_⟩;cases e;exact ⟨o,I.kIn _ o hk,hd⟩
  ·have z:∃o,s.heap.get? p=some o/\o.ExactDict:=by
    rcases hk with ⟨kvs,hk⟩ | ⟨kvs,hk⟩
    ·obtain ⟨_,_,_,_,o,_,_,e,ex,_⟩:=I.hok p _ hk;exact ⟨o,e,ex⟩
    ·obtain ⟨_,_,_,_,o,_,_,e,ex,_⟩:=I.hok p _ hk;exact ⟨o,e,ex⟩
   obtain ⟨o,e,ex⟩:=z;refine ⟨⟨o,e,ex.1⟩,λa e2=>?_⟩;cases e2;exact ⟨o,e,ex.2.1⟩
  ·obtain ⟨o,_,_,_,e,ex,_⟩:=I.hok p _ hk;refine ⟨⟨o,e,ex.1⟩,λa e2=>?_⟩;cases e2;exact ⟨o,e,ex.2.1⟩
 | _=>exact False.elim ty
def tBM (K:FG9) (T:String) (r:V->List V->Hp->VK->Prop) (to:TE) (t:TA):TE:=λσ H Q=>to σ H λx H1=>S4 K T x H1/\t σ H1 λxs H2=>r x xs H2 Q
variable {o e:Expr} {es:List Expr} {to:TE} {t:TA} {name:Str} {apos cpos:Pos} {T id:String} {r:V->List V->Hp->VK->Prop}
theorem BB (pa:PlainAttrs T) (slot:Slot T name id) (hty:typeOf (.builtin id)=pure (.type "method_descriptor")) (hm:MtR X id r) (ho:PE X o to) (ha:PA X (e :: es) t)
  (hbase:attributeBase o name X.env (eval o X.env)=eval o X.env:=by rfl)
  (hfew:((backTo cpos (starEach (e :: es) X.env)).all (λx=>!x.1) && (backToKw cpos (keywordEach [] X.env)).all (λx=>x.1.isSome)
   && decide ((e :: es).length+([]:List Keyword).length+(if ([]:List Keyword).isEmpty then 0 else 1) < 30))=true:=by rfl)
  (hline:(apos.endLine == cpos.line)=true:=by rfl) (hs:starEach (e :: es) X.env=(false,eval e X.env) :: starEach es X.env:=by rfl) (hplain:(backTo cpos (starEach es X.env)).any (·.1)=false:=by rfl) :
  PE X (.Call (.Attribute o name apos) (e :: es) [] cpos) (tBM X.K T r to t):=by
 intro pins s σ H Q I h;refine wpAny_Call_method_late hbase hfew hline rfl (fz (ho pins s σ H _ I h) λv s1 ⟨x,H1,I1,r1,ty,q1⟩=>?_);obtain ⟨h1,h2⟩:=Pe I1 r1 ty;refine ⟨T,id,pa,slot,hty,h1,h2,?_⟩;have hA:=ha cpos pins s1 σ H1 _ I1 q1;rw[hs] at hA ⊢;refine Calls.callWith_builtin (by show (false || (backTo cpos (starEach es X.env)).any (·.1))=false;rw[hplain] <;> rfl) (Calls.evalArgs_plain ?_);exact fz hA λus s2 ⟨vs,H2,I2,r2,q2⟩=>hm pins s2 σ H2 x vs v us Q I2 r1 r2 q2
end
def MtM (X:Cx) (id:String) (r:V->List V->Hp->VK->Prop):Prop :=
 ∀(pins:List (Addr×Obj)) (s:Shared) (σ:St) (H:Hp) (x:V) (xs:List V) (v:Value) (us:List Value) (Q:VK),Inv X pins σ H s->RelV x v->cM xs us->r x xs H Q →
  wpAny (model X.prog X.w) X.A (call (.builtin id) (v :: us)) (EP X pins σ Q) X.xe s
theorem cM.one:∀{x:V} {us:List Value},cM [x] us->∃u,us=[u]/\RelV x u
 | _,_,.cons r .nil=>⟨_,rfl,r⟩
theorem cM.rep {xs:List V} {us:List Value} (h:cM xs us):∀k:Nat,cM (List.replicate k xs).flatten (List.replicate k us).flatten
 | 0=>.nil
 | k+1=>by
  rw[kj,kj,mS,mS];exact cM.append h (cM.rep h k)
theorem foldl_rep (its:List Value):∀(k:Nat) (acc:List Value),
  List.foldl (λx1 x2=>x1++x2) acc.toArray (List.replicate k its.toArray)=(acc++(List.replicate k its).flatten).toArray
 | 0,acc=>by simp
 | k+1,acc=>by
  have e:acc.toArray++its.toArray=(acc++its).toArray:=by simp
  have e2:(acc++its)++(List.replicate k its).flatten=acc++(List.replicate (k+1) its).flatten:=by
   rw[kj,mS,cz]
  rw[<- e2,<- foldl_rep its k (acc++its),<- e,kj,List.foldl_cons]
section
variable {X:Cx} {pins:List (Addr×Obj)} {σ:St} {H:Hp} {s:Shared} {l b:Addr} {xs ys zs:List V}
theorem Inv.lset {its its':List Value} (I:Inv X pins σ H s) (hH:H l=some (.lst xs))
  (e:s.heap.get? l=some { cls:=.type "list",data:=.seq its.toArray n }) (hf:f its.toArray=its'.toArray) (hv:cM ys its') (hz:ys.length<=sizeLine) :
  Inv X pins σ (upd H l (.lst ys)) { s with heap:=s.heap.update l (Obj.mapSeq f),toks:=t' }:=by
 have q:=j6 e f;rw[hf] at q;refine I.write (x:=l) (e:=l) (by rw[hH];exact trivial) (.inl rfl) (λb' u hb hu=>(Heap.get?_update_other s.heap (Obj.mapSeq f) (Ne.symm hb)).trans hu) ⟨_,q⟩ ?_;exact ⟨hz,its',_,hv,q⟩
theorem Inv.lnew (I:Inv X pins σ H s) (hv:cM ys its) (hz:ys.length<=sizeLine) :
  Inv X pins σ (upd H s.heap.objs.size (.lst ys)) { s with heap:=s.heap.push { cls:=.type "list",data:=.seq its.toArray },toks:=t' } :=
 I.laid (λ_ _ q=>Heap.get?_push_of_some _ q) (aj _) ⟨hz,its,0,hv,Heap.get?_push_size _ rfl⟩
theorem Inv.fresh (I:Inv X pins σ H s):H s.heap.objs.size=none:=I.hok.fresh (aj _)
theorem Inv.lstM (I:Inv X pins σ H s) (hH:H l=some (.lst xs)):xs.length<=sizeLine/\∃(its:List Value) (n:Nat),cM xs its/\xs.length=its.length/\s.heap.get? l=some { cls:=.type "list",data:=.seq its.toArray n }:=by
 obtain ⟨z,its,n,r,e⟩:=I.hok l _ hH;exact ⟨z,its,n,r,r.length,e⟩
theorem Ln (h:n<=sizeLine):Builtin.List.listTooLong n=false:=by
 unfold Builtin.List.listTooLong;exact decide_eq_false (by lia)
end
section
variable {X:Cx}
def HJ:V->List V->Hp->VK->Prop:=λx vs H Q=>∃l xs y,x=.ref l/\vs=[y]/\H l=some (.lst xs)/\xs.length < sizeLine/\Q .non (upd H l (.lst (xs++[y])))
theorem kO:MtM X "list.append" HJ:=by
 intro pins s σ H x vs v us Q I rx rv h;obtain ⟨l,xs,y,rfl,rfl,hH,hz,q⟩:=h;cases rx;obtain ⟨u,rfl,ru⟩:=rv.one;obtain ⟨z,its,n,r,hl,e⟩:=I.lstM hH;refine call_meets F.slot_list_append ⟨_,e,rfl⟩ F.entry_list_append (F.args_list_append_2 _ _) (PySem.list_append l its.toArray n u (by rw[aZ];lia)) ⟨e,?_⟩;refine ⟨.non,_,I.lset (its':=its++[u]) hH e (by simp) (r.append (.cons ru .nil)) ?_,rfl,q⟩;rw[au,aV]
 lia
def RQ:R2:=λx y H Q=>∃l b xs zs,x=.ref l/\y=.ref b/\H l=some (.lst xs)/\H b=some (.lst zs)/\xs.length+zs.length<=sizeLine/\∀p,H p=none->Q (.ref p) (upd H p (.lst (xs++zs)))
theorem oV:xP X (binaryOp .Add) RQ:=by
 intro pins s σ H x y v u Q I rx ry h;obtain ⟨l,b,xs,zs,rfl,rfl,hH,hB,hz,q⟩:=h;cases rx;cases ry;obtain ⟨z,its,n,r,hl,e⟩:=I.lstM hH;obtain ⟨z2,its2,n2,r2,hl2,e2⟩:=I.lstM hB;refine PySem.P.add_list e e2 ?_ (by rw[aZ,aZ];lia);have ea:its.toArray++its2.toArray=(its++its2).toArray:=by simp
 rw[ea];exact ⟨.ref _,_,I.lnew (t':=s.toks) (r.append r2) (by rw[au];lia),rfl,q _ I.fresh⟩
def RO:R2:=λx y H Q=>∃l k xs,x=.ref l/\y=.int k/\H l=some (.lst xs)/\-(2^63)<=k/\k < 2^63/\xs.length*k.toNat<=sizeLine /\
 ∀p,H p=none->Q (.ref p) (upd H p (.lst (List.replicate k.toNat xs).flatten))
theorem len_rep {α:Type} (xs:List α) (k:Nat):(List.replicate k xs).flatten.length=k*xs.length:=by
 induction k with
 | zero=>simp
 | succ k ih=>rw[kj,mS,au,ih,dZ,fE]
theorem zd:xP X (binaryOp .Mult) RO:=by
 intro pins s σ H x y v u Q I rx ry h;obtain ⟨l,k,xs,rfl,rfl,hH,h1,h2,hz,q⟩:=h;cases rx;obtain ⟨t,rfl⟩:=ry;obtain ⟨z,its,n,r,hl,e⟩:=I.lstM hH;have hlen:its.toArray.size*k.toNat<=sizeLine:=by rw[aZ,<- hl];exact hz
 have hcap:¬its.toArray.size*k.toNat > (2^63 - 1) / 8:=by
  have:(sizeLine:Nat)<=(2^63 - 1) / 8:=by decide
  lia
 have hfit:¬(!Builtin.List.listFitsIndex k)=true:=by
  rw[fitsIndex_both h1 h2];exact aO
 have hlong:¬Builtin.List.listTooLong (its.toArray.size*k.toNat)=true:=by
  rw[Ln hlen];exact aO
 have hnew:List.foldl (λx1 x2=>x1++x2) #[] (List.replicate (if its.toArray.isEmpty=true then 0 else k.toNat) its.toArray)=(List.replicate k.toNat its).flatten.toArray:=by
  have f0:∀m:Nat,List.foldl (λx1 x2=>x1++x2) #[] (List.replicate m its.toArray)=(List.replicate m its).flatten.toArray:=λm=>by
   have:=foldl_rep its m [];rw[cV] at this;exact this
  rw[f0];cases its with
  | nil=>simp
  | cons a r'=>rw[if_neg (by simp)]
 refine wpAny_binaryOp_repeat_ref (T:="list") (U:="int") (by decide) ⟨_,e,rfl⟩ (λs'=>typeIs_int s' k t) noFill_list_mul F.fills_int_mul F.slot_int_rmul repeat_list F.slot_int_index.lookup
  (call_meets F.slot_int_rmul (typeIs_int s k t) F.entry_int_rmul (F.args_int_rmul_2 _ _) (int___rmul___int_list k t l its.toArray n)
   ⟨e,rfl,⟨_,e,rfl⟩,call_meets F.slot_list_mul ⟨_,e,rfl⟩ F.entry_list_mul (F.args_list_mul_2 _ _) (AutoListH.list___mul___list_int_3 l its.toArray n k t hfit hcap hlong) ⟨e,?_⟩⟩)
 rw[hnew];exact ⟨.ref _,_,I.lnew (t':=s.toks) (r.rep k.toNat) (by rw[len_rep,bH];exact hz),rfl,q _ I.fresh⟩
end
end L2
namespace Att
open PySem PySem.W PySem.Calls PyProof.Rows
theorem ya:∀(ns:List Int) (vs:List Value),WellAll P h vs (ns.map WData.int)->IntsAre vs ns:=by
 intro ns
 induction ns with
 | nil =>
  intro vs w;rw[List.map_nil] at w;cases w;exact .nil
 | cons n ns ih =>
  intro vs w;rw[iX] at w;cases w with
  | cons a b =>
   cases a;exact .cons _ _ (ih _ b)
theorem Jn {l:OpenLaw} (hn:l.most=some n) 
  (hpre:l.row.toRowW.claim.pre args=true) (hwl:WellAll P h vals args) :
  ∃a vs ns,vals=[Value.ref a]/\args=[WData.list (ns.map WData.int)]/\h.get? a=some { cls:=.type "list",data:=.seq vs.toArray }/\IntsAre vs ns/\ns.length<=n:=by
 have hsh:WShape.hasAll [] args [.list .int]=true:=(pre_splitW hpre).1;have hc:l.pre.holds [] { args:=args }=true:=(pre_splitW hpre).2;obtain ⟨d,r,rfl,h1,h2⟩:=hasAllW_cons hsh;obtain rfl:=hasAllW_nil h2;obtain ⟨xs,rfl,h3⟩:=hasW_list h1;obtain ⟨ns,rfl⟩:=items_int h3
 have hlen:ns.length<=n:=by
  unfold OpenLaw.pre at hc
  have h4:(WTm.not (.lt (.lit (.int (n:Int))) (.len (.arg 0)))).holds [] { args:=[.list (ns.map .int)] }=true:=by
   have h4:=(holds_andW hc).1;rw[hn] at h4;exact h4
  have h5:=condW_of h4 (w_not (w_lt w_lit (w_len_list (w_arg rfl))));rw[ah] at h5;refine Nat.le_of_not_lt λq=>?_
  have q':(n:Int) < ((ns.length:Nat):Int):=by lia
  first
   | (rw[decide_eq_true q'] at h5;exact absurd h5 (by decide))
   | (simp at h5;lia)
 cases hwl with
 | cons w1 w2 =>
  cases w2;cases w1 with
  | list ho hall=>exact ⟨_,_,ns,rfl,rfl,ho,ya ns _ hall,hlen⟩
theorem Ju (l:OpenLaw) (args:List WData):l.row.toRowW.claim.post args (.bool true) args=true :=
 postW_of (r:=l.row.toRowW) (X:=(true == true))
  (show WShape.has [] (.bool true) .bool=true by first | rfl | decide | simp [WShape.has,WShape.arms,WShape.armsAll])
  (show (WTm.eq .res (.lit (.bool true))).value [] { args:=args,res:=some (.bool true),after:=args }=some (.bool (true == true)) from w_eq_bool (w_res rfl) w_lit) rfl
theorem E5 {l:OpenLaw} 
  (hn:l.most=some n) (hdf:d.params.defaults=[])
  (call:∀(w:World) (s₀ s₁:Shared) (mg mb:Str->Option Value) (fa:Addr) (o:Obj) (pm cd doc:Value) (a:Addr) (vs:List Value) (ns:List Int),
   Ground q loose [] XP w s₀ mg mb s₁.heap->YP w s₁.heap →
   s₁.heap.get? fa=some o->o.data=.func (docDef d.name d.params d.body d.scope pm cd doc)->s₁.heap.CodeRec cd d.name->mg d.name=some (.ref fa) →
   s₁.heap.get? a=some { cls:=.type "list",data:=.seq vs.toArray }->IntsAre vs ns->ns.length<=n->s₁.gens=#[] →
   codeAny (model l.prog w) callerA (.call (.ref fa) ⟨[.ref a],[]⟩) (λr s'=>r=.ok (.ret (.bool true))/\OldK s₁.heap s'.heap/\s'.os=s₁.os/\AllBare s'.gens) s₁) :
  WalkO q loose XP YP l.row.toRowW d [] (λf vs=>PySem.call f vs):=by
 intro w s₀ s₁ mg mb G Y fa o pm cd doc dV kV ho hd hcd hD hmg hg args vals as hpre hlay hrd hwl hlo;obtain rfl:dV=.none:=Dflts.none hD hdf;obtain rfl:kV=.none:=Dflts.noKw hD;obtain ⟨a,vs,ns,rfl,rfl,hobj,hints,hlen⟩:=Jn hn hpre hwl;refine enter_call (codeAny_mono (call w s₀ s₁ mg mb fa o pm cd doc a vs ns G Y ho (fd_plain hd) hcd hmg hobj hints hlen hg) λr s' hq=>?_);obtain ⟨rfl,h2,h3,h4⟩:=hq;exact ⟨.inl ⟨.bool true,.bool true,[],rfl,λ_=>rfl,.bool true,Ju l _,λ_=>⟨List.Pairwise.nil,λ_ hm=>(nomatch hm)⟩⟩,h2,h3,h4⟩
section
variable {prog:Program} {w:World} {A:Around} {E:Value->Shared->Prop} {s:Shared} {K:Frag}
end
end Att
namespace L2
open PySem PySem.Spec PyProof.Rows
theorem Bf:∀{vs:List Value} {ns:List Int},IntsAre vs ns->cM (ns.map V.int) vs
 | _,_,.nil=>.nil
 | _,_,.cons n t h=>.cons ⟨t,rfl⟩ (Bf h)
def QP (H:Hp):Prop:=∀b,H b=none\/∃o xs,H b=some (.frz o (.lst xs))
theorem Ly {K:FG9} 
  (KX:K.In s₁.heap) (hns:s₁.heap.Ns mainGlobals mg) (hb:s₁.heap.Ns builtinsNs mb) (hbb:∀x:Str,x≠"__name__"->mb x=bootBuiltins x) (hlim:s₁.heap.NoLimit) (hsr:s₁.heap.NoSeer) (hg:s₁.gens=#[])
  (ha:s₁.heap.get? a=some { cls:=.type "list",data:=.seq vs.toArray }) (hi:IntsAre vs ns) (hl:ns.length<=sizeLine) (hr:js k callerA)
  (F:∀base:Heap,K.In base->base.Ns mainGlobals mg->cD P w K mg base CX k fa fd [x] sp) (hbind:∀(s:Shared) (u:Value),BindsTo s fd ⟨[u],[]⟩ [(x,u)])
  (hsp:∀H:Hp,QP H->bE K H a (ns.map V.int)->sp [.ref a] H (λv _=>v=.bl true) λ_ _ _=>False)
  (hCX:∀H e s',CX [] H s₁ (λ_ _ _=>False) e s'->False) :
  codeAny (model P w) callerA (.call (.ref fa) ⟨[.ref a],[]⟩) (λr s'=>r=.ok (.ret (.bool true))/\OldK s₁.heap s'.heap/\s'.os=s₁.os/\AllBare s'.gens) s₁:=by
 have rv:=Bf hi;have lenV:=hi.length
 have core:∀H:Hp,QP H->bE K H a (ns.map V.int)->vB P w H s₁.heap->(∀b,H b≠none->b=a)->(H a≠none->K.lookup a=none) →
   codeAny (model P w) callerA (.call (.ref fa) ⟨[.ref a],[]⟩) (λr s'=>r=.ok (.ret (.bool true))/\OldK s₁.heap s'.heap/\s'.os=s₁.os/\AllBare s'.gens) s₁:=by
  intro H hO hS hok hA hK;have base_of:∀{b:Addr} {o:Obj},s₁.heap.get? b=some o->H b=none->(Dl s₁.heap H).get? b=some o:=λe n=>LG e n
  have noA:∀{b:Addr} {o:Obj} {es:Array DictEntry} {ep:Nat},s₁.heap.get? b=some o->o.data=.dict es ep->H b=none:=λ{b o es ep} e d=>by
   cases q:H b with
   | none=>rfl
   | some u =>
    have e':b=a:=hA b (by rw[q];simp);subst e';rw[ha] at e;cases e;have d':Data.seq vs.toArray _=Data.dict es ep:=d;cases d'
  have nsK:∀{b:Addr} {m:Str->Option Value},s₁.heap.Ns b m->(Dl s₁.heap H).Ns b m:=λ{b m} ⟨o,es,ep,e,d,r⟩=>⟨o,es,ep,base_of e (noA e d),d,r⟩
  have hKb:K.In (Dl s₁.heap H):=λb o e=>base_of (KX b o e) (by
   cases q:H b with
   | none=>rfl
   | some u =>
    have e':b=a:=hA b (by rw[q];simp);subst e';rw[hK (by rw[q];simp)] at e;cases e)
  have hM:Mod K mg (Dl s₁.heap H):=⟨hKb,nsK hns,⟨mb,nsK hb,hbb⟩,let ⟨mc,h1,h2⟩:=hlim;⟨mc,nsK h1,h2⟩,⟨let ⟨mc,h1,h2⟩:=hsr.statics;⟨mc,nsK h1,h2⟩,let ⟨mm,h1,h2⟩:=hsr.mods;⟨mm,nsK h1,h2⟩,⟨mb,nsK hb,hbb⟩,let ⟨mg',bm,ob,h1,h2,h3,h4,h5⟩:=hsr.main;⟨mg',bm,ob,nsK h1,h2,base_of h3 (by
   cases q:H bm with
   | none=>rfl
   | some u =>
    have e':bm=a:=hA bm (by rw[q];simp);subst e';rw[ha] at h3;cases h3;injection h4 with q4
    exact absurd q4 (by decide)),h4,h5⟩⟩⟩
  have e0:GQ P w K mg (Dl s₁.heap H) callerA [] s₁ H:=⟨rfl,hM,λb o e=>NI e,Ja (JM _ _),trivial,λb hb=>absurd (show b∈([]:List Addr) from hb) (by simp),hok,.of_eq hg⟩;refine codeAny_mono ((F _ hKb (nsK hns)).run callerA [] s₁ H ⟨[.ref a],[]⟩ [.ref a] [.ref a] _ _ hr e0 (hbind s₁ (.ref a)) (.cons rfl .nil) (hsp H hO hS)) λr s' h=>?_
  cases r with
  | error e=>exact (hCX H e s' h).elim
  | ok fl =>
   cases fl with
   | next=>exact False.elim h
   | brk=>exact False.elim h
   | cont=>exact False.elim h
   | ret u =>
    obtain ⟨v,H',os,bare,un,hok',r',q⟩:=h;have q':v=.bl true:=q;subst q';obtain rfl:u=Value.bool true:=r';refine ⟨rfl,OldK.of_keep λb o e=>?_,os,bare⟩;cases q:H b with
    | none=>exact un.keep b o e q (by intro z;exact absurd (show b∈([]:List Addr) from z) (by simp)) (by simp)
    | some u =>
     rcases hO b with z | ⟨ob,xs,z⟩
     ·rw[q] at z;cases z
     ·have z2:=un.frzs b ob _ z;obtain ⟨e1,_⟩:=hok b _ z;obtain ⟨e2,_⟩:=hok' b _ z2;rw[e] at e1;cases e1;exact e2
 cases hk:K.lookup a with
 | some o =>
  have e:=KX a o hk;rw[ha] at e;cases e;refine core (λ_=>none) (λ_=>.inl rfl) (.inr ⟨_,vs.toArray,_,hk,rfl,rfl,rfl,by rw[aZ,lenV];exact hl,by simpa using rv⟩) (λb u z=>by have z':(none:Option HO)=some u:=z;cases z') (λb z=>absurd rfl z) λz=>absurd rfl z
 | none =>
  refine core (λb=>if b=a then some (.frz { cls:=.type "list",data:=.seq vs.toArray } (.lst (ns.map V.int))) else none) (λb=>?_) (.inl (.inr ⟨{ cls:=.type "list",data:=.seq vs.toArray },if_pos rfl⟩)) (λb u z=>?_) (λb z=>?_) λ_=>hk
  ·by_cases hb:b=a
   ·exact .inr ⟨_,_,if_pos hb⟩
   ·exact .inl (if_neg hb)
  ·by_cases hb:b=a
   ·have z':=(if_pos hb).symm.trans z;cases z';subst hb;exact ⟨ha,by rw[ah];exact hl,vs,_,rv,ha⟩
   ·have z':=(if_neg hb).symm.trans z;cases z'
  ·by_cases hb:b=a
   ·exact hb
   ·exact absurd (if_neg hb) z
theorem MI {l:PySem.W.OpenLaw} {K:Params->FG9} {CX:World->J9} {sp:World->Sp} 
  (hn:l.most=some n) (hn2:n<=sizeLine) (hdf:d.params.defaults=[]) (hr:js k callerA) (hi:importsNone q=true)
  (hY:∀(w:World) (h:Heap),YP w h->(K w.params).In h)
  (F:∀(w:World) (mg:Str->Option Value) (fa:Addr) (h:Heap),(K w.params).In h->h.Ns mainGlobals mg->mg d.name=some (.ref fa) →
   ∃fd:FuncData,(∀(s:Shared) (u:Value),BindsTo s fd ⟨[u],[]⟩ [(x,u)]) /\
    ∀base:Heap,(K w.params).In base->base.Ns mainGlobals mg->cD l.prog w (K w.params) mg base (CX w) k fa fd [x] (sp w))
  (hsp:∀(w:World) (H:Hp) (a:Addr) (ns:List Int),ns.length<=n->QP H->bE (K w.params) H a (ns.map V.int)->sp w [.ref a] H (λv _=>v=.bl true) λ_ _ _=>False)
  (hCX:∀(w:World) (H:Hp) (s:Shared) (e:Value) (s':Shared),CX w [] H s (λ_ _ _=>False) e s'->False) :
  PySem.W.WalkO q loose XP YP l.row.toRowW d [] (λf vs=>PySem.call f vs):=by
 refine Att.E5 hn hdf λw s₀ s₁ mg mb fa o pm cd doc a vs ns G Y ho hd hcd hmg hobj hints hlen hg=>?_
 have KX:=hY w _ Y;obtain ⟨fd,hb,hF⟩:=F w mg fa _ KX G.T.g hmg;exact Ly KX G.T.g G.T.b G.T.builtins G.T.nolimit (G.T.seer hi) hg hobj hints (ag hlen hn2) hr hF hb (λH hO hS=>hsp w H a ns hlen hO hS) λH e s'=>hCX w H s₁ e s'
end L2

namespace L2
open PySem PySem.Spec PyProof.Rows
def inClass (s:Stmt) (j:Nat):Stmt:=match s with
 | .ClassDef _ _ _ body _ _ _ _ _ _ _=>body.getD j (.Pass ⟨0,0,0,0⟩)
 | _=>.Pass ⟨0,0,0,0⟩
def jY (s:Stmt):Arguments:=match s with
 | .FunctionDef _ a _ _ _ _ _ _ _ _=>a
 | _=>{ posonlyargs:=[],args:=[],vararg:=none,kwonlyargs:=[],kw_defaults:=[],kwarg:=none,defaults:=[] }
def hJ (s:Stmt):List Stmt:=match s with
 | .FunctionDef _ _ b _ _ _ _ _ _ _=>b
 | _=>[]
def aK (s:Stmt):Scope:=match s with
 | .FunctionDef _ _ _ _ _ _ sc _ _ _=>sc
 | _=>{ kind:=.function,names:=[],isGenerator:=false,isCoroutine:=false }
abbrev fN:J9:=λ_ _ _ _ _ _=>False
abbrev E0:XK:=λ_ _ _=>False
theorem HQ:tV fN X E0:=λ_ _ _ _ _ _ _ h=>h.elim
structure J8 (K:FG9) (x qual:Str) (st:Stmt) (f:Addr) (fd:FuncData):Prop where
 ex:∃(oc:Value) (od:Option Addr) (kV doc pm:Value) (an:Option Addr) (cdv ct:Value) (osl:Array (Option Value)),
  fd=PySem.W.fnOf x qual (jY st) (hJ st) (aK st) .none kV doc pm an cdv ct/\K.lookup f=some ⟨oc,od,.func fd,osl⟩/\PySem.W.codeIn K cdv qual=true
 kp:PySem.W.keepIn K (.ref f)=true
section
variable {P:Program} {w:World} {K:FG9} {mg:Str->Option Value} {base:Heap}
theorem J8.ok {st:Stmt} (F:J8 K x qual st f fd) (S:aR N ps (aK st)) (len:∀vs H Q E,sp vs H Q E->vs.length=ps.length)
  (hbody:∀(cdv:Value) (A:Around) (outer:List Env) (s:Shared) (H:Hp) (vs:List V) (Q:VK) (E:XK),js k (A.deeper (envOfC qual (aK st) s.heap.objs.size f cdv))->sp vs H Q E →
   ∃t,DU (Dz fN P w K mg base N qual (aK st) f cdv A outer s H E).nox (hJ st) t/\t { nx:=λ_ H'=>Q .non H',rt:=Q } (start N vs) H):cD P w K mg base fN (k+1) f fd ps sp:=by
 obtain ⟨oc,od,kV,doc,pm,an,cdv,ct,osl,rfl,lk,hcd⟩:=F.ex;refine OW lk hcd S len λA outer s H vs Q E hr hsp=>?_
 obtain ⟨t,h,q⟩:=hbody cdv A outer s H vs Q E hr hsp;exact ⟨t,h.nox,q⟩
theorem J8.binds {st:Stmt} (F:J8 K x qual st f fd)
  (h:∀(kV doc pm:Value) (an:Option Addr) (cdv ct:Value) (us:List Value),us.length=ps.length->bindArgs (PySem.W.fnOf x qual (jY st) (hJ st) (aK st) .none kV doc pm an cdv ct) ⟨us,[]⟩=pure (ps.zip us)):Binds K fd ps []:=by
 obtain ⟨oc,od,kV,doc,pm,an,cdv,ct,osl,rfl,lk,hcd⟩:=F.ex;exact .all (h kV doc pm an cdv ct)
theorem Dp {st:Stmt} {kV doc pm cdv ct:Value} (l:K.lookup f=some ⟨oc,od,.func (PySem.W.fnOf x qual (jY st) (hJ st) (aK st) .none kV doc pm an cdv ct),osl⟩)
  (c:PySem.W.codeIn K cdv qual=true) (k:PySem.W.keepIn K (.ref f)=true):J8 K x qual st f (PySem.W.fnOf x qual (jY st) (hJ st) (aK st) .none kV doc pm an cdv ct):=⟨⟨oc,od,kV,doc,pm,an,cdv,ct,osl,rfl,l,c⟩,k⟩
end
structure Df (K:FG9) (mg:Str->Option Value) (x:Str) (st:Stmt) (ps:List Str) (f:Addr) (fd:FuncData):Prop where
 m:mg x=some (.ref f)
 b:Binds K fd ps []
 F:J8 K x x st f fd
structure Dh (K:FG9) (x:Str) (st:Stmt) (f:Addr) (fd:FuncData):Prop where
 a:PySem.W.nsIn K mainGlobals x=some (some (.ref f))
 F:J8 K x x st f fd
theorem Sr {K:FG9} {st:Stmt} {kV doc pm cdv ct:Value} (a:PySem.W.nsIn K mainGlobals x=some (some (.ref f))) (l:K.lookup f=some ⟨oc,od,.func (PySem.W.fnOf x x (jY st) (hJ st) (aK st) .none kV doc pm an cdv ct),osl⟩) (c:PySem.W.codeIn K cdv x=true) (k:PySem.W.keepIn K (.ref f)=true):Dh K x st f (PySem.W.fnOf x x (jY st) (hJ st) (aK st) .none kV doc pm an cdv ct):=⟨a,Dp l c k⟩
theorem Dh.D {K:FG9} {x:Str} {st:Stmt} {f:Addr} {fd:FuncData} {ps:List Str} {mg:Str->Option Value} {h:Heap} (d:Dh K x st f fd) (X:K.In h) (G:h.Ns mainGlobals mg) (hb:∀(kV doc pm:Value) (an:Option Addr) (cdv ct:Value) (us:List Value),us.length=ps.length->bindArgs (PySem.W.fnOf x x (jY st) (hJ st) (aK st) .none kV doc pm an cdv ct) ⟨us,[]⟩=pure (ps.zip us):=by walk_at "b"):Df K mg x st ps f fd:=⟨PySem.W.mg_of X G d.a,d.F.binds hb,d.F⟩
theorem cO {X:Cx} {k k':Nat} {f:Addr} {fd:FuncData} {ps:List Str} {sp:Sp} {x:Str} {st:Stmt} {p pos:Pos} {e:Expr} {es:List Expr} {t:TA} (F:cD X.prog X.w X.K X.mg X.base fN k f fd ps sp) (hr:js k' X.A) (D:Df X.K X.mg x st ps f fd) (ha:PA X (e :: es) t) (hle:k<=k':=by decide) (hg:Gl X x:=by exact rfl) (hdb:(x == ("__debug__":Str))=false:=by decide) (he:starEach (e :: es) X.env=(false,eval e X.env) :: starEach es X.env:=by rfl) (hpl:(backTo pos (starEach es X.env)).any (·.1)=false:=by rfl):PE X (.Call (.Name x p) (e :: es) [] pos) (Ks sp [] E0 t):=HN F (hr.mono hle) hg D.m D.F.kp D.b .nil HQ ha hdb he hpl
theorem bx (h:n<=1000):n < sizeLine:=bc h (by decide)
section
variable {X:Cx}
theorem pv (i:Nat) {x:Str} {pos:Pos} (hN:X.N[i]?=some x:=by rfl) (hv:Ti X.env.scope x:=by first | exact Or.inl rfl | exact Or.inr (Or.inl rfl) | exact Or.inr (Or.inr rfl)) (hd:(x == ("__debug__":Str))=false:=by decide)
  (hcd:(x == ("__classdict__":Str))=false:=by decide):PE X (.Name x pos) (Pj i):=Qd hN hv hd hcd
end
theorem NQ {A B:Prop} (h:B):if false=true then A else B:=by
 rw[if_neg aO];exact h
theorem Sd {A B:Prop} (h:A):if true=true then A else B:=by
 rw[if_pos rfl];exact h
theorem iI {c A B:Prop} [Decidable c] (h1:c->A) (h2:¬c->B):if c then A else B:=by
 by_cases h:c
 ·rw[if_pos h];exact h1 h
 ·rw[if_neg h];exact h2 h
def aI (H H':Hp):Prop:=∀b o,H b=some o->H' b=some o
theorem aI.refl (H:Hp):aI H H:=λ_ _ h=>h
theorem aI.trans (a:aI H H1) (b:aI H1 H2):aI H H2:=λc o h=>b c o (a c o h)
theorem aI.free (e:aI H H') (h:H' l=Option.none):H l=Option.none:=by
 cases q:H l with
 | none=>rfl
 | some o =>
  rw[e l o q] at h;cases h
theorem aI.seq {K:FG9} (e:aI H H') (h:bE K H a xs):bE K H' a xs:=by
 rcases h with (h | ⟨o,h⟩) | h
 ·exact .inl (.inl (e _ _ h))
 ·exact .inl (.inr ⟨o,e _ _ h⟩)
 ·exact .inr h
end L2
namespace Nm
theorem LL (a b:Int):Int.gcd b (a.fmod b)=Int.gcd a b:=by
 rw[Int.fmod_def,j8 a b];apply Nat.dvd_antisymm
 ·apply My
  ·exact eG ..
  ·have h1:=eG (a:=b) (b:=a - b*a.fdiv b);have h2:=fj (a:=b) (b:=a - b*a.fdiv b);have h3:=Int.dvd_add h2 (md (c:=a.fdiv b) h1);rwa [Int.sub_add_cancel] at h3
 ·apply My
  ·exact eG ..
  ·exact Int.dvd_sub (fj ..) (md (eG ..))
theorem LM (a b:Int):Int.gcd b (a % b)=Int.gcd a b:=by
 rw[Int.emod_def,j8 a b];apply Nat.dvd_antisymm
 ·apply My
  ·exact eG ..
  ·have h1:=eG (a:=b) (b:=a - b*(a / b));have h2:=fj (a:=b) (b:=a - b*(a / b));have h3:=Int.dvd_add h2 (md (c:=a / b) h1);rwa [Int.sub_add_cancel] at h3
 ·apply My
  ·exact eG ..
  ·exact Int.dvd_sub (fj ..) (md (eG ..))
theorem NZ (a b:Int) (h:b≠0):(a.fmod b).natAbs < b.natAbs:=by
 rcases Int.lt_or_gt_of_ne h with h | h
 ·have e:a.fmod b=-((-a).fmod (-b)):=by
   have:=Int.neg_fmod_neg (-a) (-b);simp only[Int.neg_neg] at this;exact this
  have h1:=Int.fmod_nonneg_of_pos (-a) (b:=-b) (by lia);have h2:=Int.fmod_lt_of_pos (-a) (b:=-b) (by lia)
  lia
 ·have h1:=Int.fmod_nonneg_of_pos a h;have h2:=Int.fmod_lt_of_pos a h
  lia
def g (t b:Int):Int:=(Int.gcd t b:Int)
def lo (t b:Int):Int:=t / g t b
def hi (t b:Int):Int:=b / g t b
theorem zP (h:b≠0):0 < g t b:=by
 unfold g;have:0 < Int.gcd t b:=MD _ h
 lia
theorem zL (t b:Int):lo t b*g t b=t:=Int.ediv_mul_cancel (eG ..)
theorem wx (t b:Int):hi t b*g t b=b:=Int.ediv_mul_cancel (fj ..)
theorem Dm (h:0 < b):0 < hi t b:=by
 have h1:=zP (t:=t) (b:=b) (by lia);have h2:=wx t b;by_cases h3:0 < hi t b
 ·exact h3
 ·have:hi t b*g t b<=0:=Int.mul_nonpos_of_nonpos_of_nonneg (by lia) (by lia)
  lia
theorem zJ (h:b≠0):Int.gcd (lo t b) (hi t b)=1:=by
 have h1:=zP (t:=t) h;have e:=Int.gcd_mul_right (lo t b) (g t b) (hi t b);rw[zL,wx] at e;have e2:(g t b).natAbs=Int.gcd t b:=by unfold g;simp
 rw[e2] at e;have h2:0 < Int.gcd t b:=MD _ h;exact Nat.eq_of_mul_eq_mul_right h2 (by rw[<- e,vz])
theorem zK (t b:Int):lo t b*b=t*hi t b:=by
 have h1:=zL t b;have h2:=wx t b
 calc lo t b*b=lo t b*(hi t b*g t b):=by rw[h2]
  _=(lo t b*g t b)*hi t b:=by rw[fH (hi t b),<- dA]
  _=t*hi t b:=by rw[h1]
theorem pG (h:Int.gcd a b=1) (hd:a∣b*c):a∣c:=by
 have h1:a.natAbs∣b.natAbs*c.natAbs:=by rw[<- fQ];exact fY.mpr hd
 have h2:Nat.Coprime a.natAbs b.natAbs:=h;exact fY.mp (h2.dvd_of_dvd_mul_left h1)
theorem uniq (hb:0 < b) (hd:0 < d) (h1:Int.gcd a b=1) (h2:Int.gcd c d=1) (e:a*d=c*b):a=c/\b=d:=by
 have e1:b∣d:=by
  have:b∣a*d:=⟨c,by rw[e,fH]⟩;exact pG (by rw[j8];exact h1) this
 have e2:d∣b:=by
  have:d∣c*b:=⟨a,by rw[<- e,fH]⟩;exact pG (by rw[j8];exact h2) this
 have e3:b=d:=Int.dvd_antisymm (by lia) (by lia) e1 e2;subst e3;exact ⟨sX (by lia) e,rfl⟩
theorem Qj (hb:0 < b) (hd:0 < d) (h2:Int.gcd c d=1) (e:t*d=c*b):lo t b=c/\hi t b=d:=by
 refine uniq (Dm hb) hd (zJ (by lia)) h2 ?_;have h:=zK t b;have hb':b≠0:=by lia
 apply sX hb'
 calc lo t b*d*b=lo t b*b*d:=by rw[dA,fH d b,<- dA]
  _=t*hi t b*d:=by rw[h]
  _=t*d*hi t b:=by rw[dA,fH (hi t b),<- dA]
  _=c*b*hi t b:=by rw[e]
  _=c*hi t b*b:=by rw[dA,fH b,<- dA]
theorem Qk (hb:0 < b) (h:Int.gcd a b=1):lo a b=a/\hi a b=b:=Qj hb hb h rfl
theorem nk {a b:Int} (h:b≠0):a.natAbs<=(a*b).natAbs:=by
 rw[fQ];exact dM _ (Int.natAbs_pos.mpr h)
theorem lo_le (h:b≠0):(lo t b).natAbs<=t.natAbs:=by
 have:=nk (a:=lo t b) (b:=g t b) (by have:=zP (t:=t) h;lia);rwa [zL] at this
theorem OU (h:b≠0):(hi t b).natAbs<=b.natAbs:=by
 have:=nk (a:=hi t b) (b:=g t b) (by have:=zP (t:=t) h;lia);rwa [wx] at this
def Sz (k:Nat) (x:Int):Prop:=x.natAbs < 2^k
theorem Sz.mono (h:Sz j x) (l:j<=k):Sz k x:=bA h (av (by decide) l)
theorem Sz.mul (h1:Sz j x) (h2:Sz k y):Sz (j+k) (x*y):=by
 unfold Sz at *
 rw[fQ,bh];exact Nat.mul_lt_mul'' h1 h2
theorem Sz.neg (h:Sz k x):Sz k (-x):=by unfold Sz at *;rw[mU];exact h
theorem Sz.le (h:Sz k y) (l:x.natAbs<=y.natAbs):Sz k x:=bc l h
theorem Sz.hi {k:Nat} {t b:Int} (h:Sz k b) (hb:b≠0):Sz k (hi t b):=h.le (OU hb)
end Nm
namespace L2
open PySem PySem.Spec PyProof.Rows
structure Bk (env:Env) (scope:Scope) (own capN:List Str):Prop where
 kind:scope.kind=.function
 locs:∀y∈scope.names,y.2=.local->scope.names.lookup y.1=some .local
 ownk:∀x∈own,scope.names.lookup x=some .local\/scope.names.lookup x=some .cell
 cells:∀y∈scope.names,y.2=.cell->y.1∈own/\y.1∉capN
 frees:∀y∈scope.names,y.2=.free->y.1∈capN/\y.1∉own
 capf:∀x∈capN,scope.names.lookup x=some .free
 caps:∀x∈capN,env.kindOf x=some .cell\/env.kindOf x=some .free
def SY (scope:Scope) (own capN:List Str):Bool :=
 decide (scope.kind=.function) && scope.names.all (λy=>decide (y.2=.local->scope.names.lookup y.1=some .local) && decide (y.2=.cell->y.1∈own/\y.1∉capN) && decide (y.2=.free->y.1∈capN/\y.1∉own)) &&
 own.all (λx=>decide (scope.names.lookup x=some .local\/scope.names.lookup x=some .cell)) && capN.all λx=>decide (scope.names.lookup x=some .free)
def BY (env:Env):List Str->Bool
 | []=>true
 | x :: r=>(match env.kindOf x with | some .cell=>true | some .free=>true | _=>false) && BY env r
theorem E2 {env:Env}:∀{capN:List Str},BY env capN=true->∀x∈capN,env.kindOf x=some .cell\/env.kindOf x=some .free
 | [],_,_,h=>nomatch h
 | y :: r,h,x,hx=>by
  unfold BY at h;rw[du] at h;rcases ay.mp hx with e | hx
  ·subst e;have h1:=h.1
   split at h1
   ·rename_i e;exact .inl e
   ·rename_i e;exact .inr e
   ·cases h1
  ·exact E2 h.2 x hx
theorem Bk.of (h1:SY scope own capN=true) (h2:BY env capN=true):Bk env scope own capN:=by
 unfold SY at h1;rw[du,du,du,ou,ou,ou] at h1;obtain ⟨⟨⟨a1,a2⟩,a3⟩,a4⟩:=h1
 have a2':∀y∈scope.names,(y.2=.local->scope.names.lookup y.1=some .local)/\(y.2=.cell->y.1∈own/\y.1∉capN)/\(y.2=.free->y.1∈capN/\y.1∉own):=λy hy=>by
  have q:=a2 y hy;rw[du,du] at q;exact ⟨of_decide_eq_true q.1.1,of_decide_eq_true q.1.2,of_decide_eq_true q.2⟩
 exact ⟨of_decide_eq_true a1,λy hy=>(a2' y hy).1,λx hx=>of_decide_eq_true (a3 x hx),λy hy=>(a2' y hy).2.1,λy hy=>(a2' y hy).2.2,λx hx=>of_decide_eq_true (a4 x hx),E2 h2⟩
def dU (env:Env):List (Str×NameKind)->List (Str×Addr)->List (Str×Addr)
 | [],acc=>acc
 | (n,k) :: r,acc=>if k == .free then dU env r ((n,(env.cells.lookup n).getD 0) :: acc) else dU env r acc
theorem hZ (env:Env):∀(names:List (Str×NameKind)) (acc:List (Str×Addr)),dU env names acc=dU env names []++acc
 | [],_=>rfl
 | (n,k) :: r,acc=>by
  unfold dU
  split
  ·rw[hZ env r (_ :: acc),hZ env r [_],cz];rfl
  ·exact hZ env r acc
theorem pJ (env:Env):∀(names:List (Str×NameKind)) {x:Str} {c:Addr},(x,c)∈dU env names []->(x,NameKind.free)∈names/\c=(env.cells.lookup x).getD 0
 | [],_,_,h=>nomatch h
 | (n,k) :: r,x,c,h=>by
  unfold dU at h
  split at h
  ·rename_i hk
   have ek:k=.free:=by simpa using hk
   subst ek;rw[hZ] at h;rcases aD.mp h with h | h
   ·have q:=pJ env r h;exact ⟨bP _ q.1,q.2⟩
   ·have e:(x,c)=(n,(env.cells.lookup n).getD 0):=by simpa using h
    cases e;exact ⟨cJ,rfl⟩
  ·have q:=pJ env r h;exact ⟨bP _ q.1,q.2⟩
theorem iH {α:Type}:∀{l:List (Str×α)} {x:Str} {c:α},(x,c)∈l->∃d,l.lookup x=some d
 | (k,v) :: r,x,c,h=>by
  rw[j7];cases hb:x == k with
  | true=>exact ⟨v,rfl⟩
  | false =>
   rcases ay.mp h with e | h
   ·cases e;simp at hb
   ·exact iH h
theorem pK (env:Env):∀(names:List (Str×NameKind)) {x:Str},(x,NameKind.free)∈names->∃c,(x,c)∈dU env names []
 | (n,k) :: r,x,h=>by
  unfold dU;rcases ay.mp h with e | h
  ·cases e;rw[if_pos (by decide),hZ];exact ⟨_,b6 _ cJ⟩
  ·obtain ⟨c,q⟩:=pK env r h
   split
   ·rw[hZ];exact ⟨c,jG _ q⟩
   ·exact ⟨c,q⟩
theorem Ab (h:∀y∈scope.names,y.2=.free->∃c,env.cells.lookup y.1=some c):closureFor scope env=pure (dU env scope.names []):=by
 have gen:∀(names:List (Str×NameKind)) (acc:List (Str×Addr)) (f:Str×NameKind->List (Str×Addr)->Sem (ForInStep (List (Str×Addr)))),
   (∀name kind cells,f (name,kind) cells=if kind == .free then (do let a <- cellOf env name;pure (.yield ((name,a) :: cells))) else pure (.yield cells)) →
   (∀y∈names,y.2=.free->∃c,env.cells.lookup y.1=some c)->forIn names acc f=pure (dU env names acc):=by
  intro names
  induction names with
  | nil=>intro acc f hf _;rw[mR];rfl
  | cons y r ih =>
   intro acc f hf hh;obtain ⟨n,k⟩:=y;rw[qo,hf];unfold dU;by_cases hk:(k == NameKind.free)=true
   ·obtain ⟨c,hc⟩:=hh (n,k) cJ (by simpa using hk);have hc':env.cells.lookup n=some c:=hc;have e:cellOf env n=pure c:=by unfold cellOf;rw[hc']
    rw[if_pos hk,if_pos hk,e,hc'];simp only[pure_bind,ib];exact ih _ f hf λy hy=>hh y (bP _ hy)
   ·rw[if_neg hk,if_neg hk];simp only[pure_bind];exact ih _ f hf λy hy=>hh y (bP _ hy)
 simp only[closureFor];rw[gen scope.names [] _ (λname kind cells=>by cases hkc:kind == NameKind.free <;> simp [hkc]) h];rfl
theorem fu:∀(names:List (Str×NameKind)) (n:Nat) (acc:List (Str×Addr)),cellsFrom n names acc=cellsFrom n names []++acc
 | [],_,_=>rfl
 | (x,k) :: r,n,acc=>by
  unfold cellsFrom
  split
  ·rw[fu r (n+1) (_ :: acc),fu r (n+1) [_],cz];rfl
  ·exact fu r n acc
theorem jZ:∀(names:List (Str×NameKind)) (n:Nat) {x:Str} {c:Addr},(x,c)∈cellsFrom n names []->(x,NameKind.cell)∈names
 | [],_,_,_,h=>nomatch h
 | (y,k) :: r,n,x,c,h=>by
  unfold cellsFrom at h
  split at h
  ·rename_i hk
   have ek:k=.cell:=by simpa using hk
   subst ek;rw[fu] at h;rcases aD.mp h with h | h
   ·exact bP _ (jZ r _ h)
   ·have e:(x,c)=(y,n):=by simpa using h
    cases e;exact cJ
  ·exact bP _ (jZ r _ h)
def wD (env:Env) (scope:Scope) (C:Addr):Env :=
 { scope:=relabel scope env,locals:=C,globals:=env.globals,cells:=cellsFrom (C+1) scope.names (dU env scope.names []),qual:=env.qual,func:=none,code:=env.code,frame:=env.frame,builtins:=env.builtins }
theorem EI 
  (h:Q (newEnv scope s.heap.objs.size g (cellsFrom (s.heap.objs.size+1) scope.names cl) qual none .none (some env) builtinsNs) { s with heap:=pushCells (s.heap.push { cls:=.type "dict",data:=.dict #[] }) scope.names }) :
  wpAny M A (newFunctionEnv scope g cl [] qual none .none (some env)) Q E s:=by
 simp only[newFunctionEnv,Option.isSome_some,if_true];refine wpAny_bind (wpAny_alloc ?_);refine wpAny_bind (wpAny_layCells _ (λname kind cells=>by cases hkc:kind == NameKind.cell <;> simp [hkc]) _ _ _ _ ?_);rw[show ({ s with heap:=s.heap.push { cls:=.type "dict",data:=.dict #[] } }:Shared).heap.objs.size=s.heap.objs.size+1 from Heap.size_push ..];rw[mR];exact wpAny_bind (wpAny_pure (wpAny_pure h))
theorem uq:∀{k:NameKind},(relabel scope env).names.lookup x=some k->∃k0,scope.names.lookup x=some k0/\(k=k0\/(k0=.free/\k=.cell)):=by
 unfold relabel;show ∀{k:NameKind},(scope.names.map λ(n,k)=>if (k == NameKind.free && env.scope.kind == .function && env.kindOf n == some .cell) then (n,NameKind.cell) else (n,k)).lookup x=some k->_
 induction scope.names with
 | nil=>intro k h;cases h
 | cons y r ih =>
  intro k h;obtain ⟨n,k1⟩:=y;rw[iX,j7] at h;rw[j7];by_cases hc:(k1 == NameKind.free && env.scope.kind == .function && env.kindOf n == some .cell)=true
  ·simp only[hc,if_true] at h;cases hb:x == n with
   | true =>
    simp only[hb] at h
    have e1:k1=.free:=by
     rw[du,du] at hc;simpa using hc.1.1
    cases h;exact ⟨k1,rfl,.inr ⟨e1,rfl⟩⟩
   | false=>simp only[hb] at h;exact ih h
  ·have hc':(k1 == NameKind.free && env.scope.kind == .function && env.kindOf n == some .cell)=false:=by simpa using hc
   simp only[hc',iE,if_false] at h;cases hb:x == n with
   | true=>simp only[hb] at h;cases h;exact ⟨_,rfl,.inl rfl⟩
   | false=>simp only[hb] at h;exact ih h
theorem Et:scope.names.lookup x=some .free->(relabel scope env).names.lookup x=some .cell\/(relabel scope env).names.lookup x=some .free:=by
 unfold relabel;show _->(scope.names.map λ(n,k)=>if (k == NameKind.free && env.scope.kind == .function && env.kindOf n == some .cell) then (n,NameKind.cell) else (n,k)).lookup x=some .cell\/(scope.names.map λ(n,k)=>if (k == NameKind.free && env.scope.kind == .function && env.kindOf n == some .cell) then (n,NameKind.cell) else (n,k)).lookup x=some .free
 induction scope.names with
 | nil=>intro h;cases h
 | cons y r ih =>
  intro h;obtain ⟨n,k1⟩:=y;rw[j7] at h;rw[iX];by_cases hc:(k1 == NameKind.free && env.scope.kind == .function && env.kindOf n == some .cell)=true
  ·simp only[hc,if_true,j7];cases hb:x == n with
   | true=>exact .inl rfl
   | false=>rw[hb] at h;exact ih h
  ·have hc':(k1 == NameKind.free && env.scope.kind == .function && env.kindOf n == some .cell)=false:=by simpa using hc
   simp only[hc',iE,if_false,j7];cases hb:x == n with
   | true=>rw[hb] at h;cases h;exact .inr rfl
   | false=>rw[hb] at h;exact ih h
structure Bz where
 s:Shared
 H:Hp
 fp:List Addr
 C:Addr
def yc (X:Cx) (own capN:List Str) (scope:Scope) (Z:Bz):Cx where
 prog:=X.prog
 w:=X.w
 K:=X.K
 mg:=X.mg
 base:=X.base
 A:=X.A
 N:=own++capN
 s₀:=Z.s
 H₀:=Z.H
 env:=wD X.env scope Z.C
 outer:=X.stack
 stack:=X.stack
 ex:=Z.fp
 fn:=λx=>own.contains x
 calm:=true
 pn:=[]
 xe:=λ_ _=>False
section
variable {X:Cx} {pins:List (Addr×Obj)} {σ:St} {own capN:List Str} {scope:Scope} {Z:Bz}
theorem iT (B:Bk X.env scope own capN) (I:Inv X pins σ Z.H Z.s) (h:(wD X.env scope Z.C).cells.lookup x=some c) :
  (x∈own/\(x,c)∈cellsFrom (Z.C+1) scope.names [])\/(x∈capN/\x∉own/\X.env.cells.lookup x=some c):=by
 have h':(cellsFrom (Z.C+1) scope.names (dU X.env scope.names [])).lookup x=some c:=h;rw[fu] at h';rcases aD.mp (mem_of_lookup h') with m | m
 ·exact .inl ⟨(B.cells _ (jZ _ _ m) rfl).1,m⟩
 ·obtain ⟨m1,e⟩:=pJ _ _ m;obtain ⟨q1,q2⟩:=B.frees _ m1 rfl;obtain ⟨d,hd⟩:=I.ok.has x (B.caps x q1);rw[hd] at e;exact .inr ⟨q1,q2,by rw[hd,e];rfl⟩
theorem Oc (B:Bk X.env scope own capN) (I:Inv X pins σ Z.H Z.s) (hx:x∈capN) (h:X.env.cells.lookup x=some c):(wD X.env scope Z.C).cells.lookup x=some c:=by
 have hm:(x,NameKind.free)∈scope.names:=mem_of_lookup (B.capf x hx);obtain ⟨c1,m1⟩:=pK X.env scope.names hm
 have hs:∃d,(wD X.env scope Z.C).cells.lookup x=some d:=by
  show ∃d,(cellsFrom (Z.C+1) scope.names (dU X.env scope.names [])).lookup x=some d
  rw[fu];exact iH (b6 _ m1)
 obtain ⟨d,hd⟩:=hs;rcases iT B I hd with ⟨q,m⟩ | ⟨_,_,q⟩
 ·exact absurd hx (B.cells _ (jZ _ _ m) rfl).2
 ·rw[h] at q;cases q;exact hd
theorem Jw (h:Heap) (C:Addr) (hC:h.objs.size=C+1) (names:List (Str×NameKind)):CellsOk (pushCells h names) (C+1) (cellsFrom (C+1) names []):=by
 have q:=cellsFrom_ok names h (C+1) [] ⟨λ_ _ hm=>(nomatch hm),List.Pairwise.nil⟩ (by rw[hC];exact aj _);rwa [hC] at q
theorem DC (I:Inv X pins σ Z.H Z.s) (h:X.env.cells.lookup x=some c):@LT.lt Nat instLTNat c Z.s.heap.objs.size:=by
 obtain ⟨v,q⟩:=I.cell x c h;exact q.lt
theorem QK (I:Inv X pins σ Z.H Z.s) (hc:X.calm=true) (B:Bk X.env scope own capN) (hC:Z.s.heap.objs.size<=Z.C) (hcl:CellsOk h1 (Z.C+1) (cellsFrom (Z.C+1) scope.names []))
  (hf:∀b∈Z.fp,jv X pins Z.H b/\@LT.lt Nat instLTNat b Z.s.heap.objs.size):(yc X own capN scope Z).Ok:=by
 refine ⟨I.ok.mod,B.kind,I.ok.glob,I.ok.blt,hC,λx y c h1 h2=>?_,λx hx=>?_,λx c hx h=>?_,λ_=>I.ok.hd hc,I.ok.frames,.inl rfl,λb hb=>⟨?_,λx c h=>?_⟩,I.bs,ag I.ok.bsz I.sz,λb o e hb=>?_,λb hb hz=>?_,I.stack,I.stkFree⟩
 ·rcases iT B I h1 with ⟨q1,m1⟩ | ⟨q1,n1,m1⟩ <;> rcases iT B I h2 with ⟨q2,m2⟩ | ⟨q2,n2,m2⟩
  ·exact name_of_addr hcl.apart m1 m2
  ·have l1:=(hcl.empty _ _ m1).2;have l2:=DC I m2
   lia
  ·have l1:=(hcl.empty _ _ m2).2;have l2:=DC I m1
   lia
  ·exact I.ok.inj x y c m1 m2
 ·have hx':(relabel scope X.env).names.lookup x=some .cell\/(relabel scope X.env).names.lookup x=some .free:=hx
  have hk:scope.names.lookup x=some .cell\/scope.names.lookup x=some .free:=by
   rcases hx' with h | h
   ·obtain ⟨k0,e,q | ⟨q,_⟩⟩:=uq h
    ·exact .inl (by rw[e,<- q])
    ·exact .inr (by rw[e,q])
   ·obtain ⟨k0,e,q | ⟨_,q⟩⟩:=uq h
    ·exact .inr (by rw[e,<- q])
    ·cases q
  show ∃c,(cellsFrom (Z.C+1) scope.names (dU X.env scope.names [])).lookup x=some c
  rcases hk with h | h
  ·exact Q5.mp (yp scope.names (Z.C+1) _ (.inl h))
  ·obtain ⟨c,m⟩:=pK X.env scope.names (mem_of_lookup h);rw[fu];exact iH (b6 _ m)
 ·have ho:x∈own:=by have hx':own.contains x=true:=hx;simpa using hx'
  rcases iT B I h with ⟨_,m⟩ | ⟨_,n,_⟩
  ·have:=(hcl.empty _ _ m).2;have hC':Z.s.heap.objs.size<=Z.C:=hC;show Z.s.heap.objs.size<=c
   lia
  ·exact absurd ho n
 ·intro e;have e':@Eq Nat b Z.C:=e;have:=(hf b hb).2
  lia
 ·have l:=(hf b hb).2;rcases iT B I h with ⟨_,m⟩ | ⟨_,_,m⟩
  ·intro e;have e':@Eq Nat c b:=e;have:=(hcl.empty _ _ m).2
   lia
  ·exact (hf b hb).1.2.2.2.2.1 x c m
 ·obtain ⟨_,_,_,f3,_⟩:=(hf b hb).1;rcases f3 with f3 | f3
  ·exact I.ok.noex b o e f3
  ·exact absurd (bA (Heap.lt_size e) (ag I.ok.bsz f3)) (eQ _)
 ·obtain ⟨_,f1,f2,_⟩:=(hf b hb).1;rcases ay.mp (I.stkSub b hz) with e | e
  ·exact f1 e
  ·exact f2 e
def Ka (k:Nat) (cap:List Nat) (σ:St):St:=List.replicate k none++cap.map λj=>(σ[j]?).join
def xR (X:Cx) (capN:List Str) (cap:List Nat):Prop:=cap.map (λj=>X.N[j]?)=capN.map some
theorem xR.get (h:xR X capN cap) {i:Nat} (e:capN[i]?=some x):∃j,cap[i]?=some j/\X.N[j]?=some x:=by
 have q:=congrArg (λl=>l[i]?) h;simp only[az,e,Option.map_some] at q;cases hc:cap[i]? with
 | none=>rw[hc] at q;cases q
 | some j=>rw[hc] at q;exact ⟨j,rfl,by simpa using q⟩
theorem E3 (I:Inv X pins σ Z.H Z.s) (B:Bk X.env scope own capN) (hcap:xR X capN cap)
  (kc:∀x c,X.env.cells.lookup x=some c->∀v,Z.s.heap.IsCell c v->h'.IsCell c v) {i:Nat} (e1:(own++capN)[i]?=some x) (e2:(Ka own.length cap σ)[i]?=some (some v)) :
  ∃u,RelV v u/\Look (wD X.env scope Z.C) h' m x u:=by
 have hi:own.length<=i:=by
  by_cases hi:own.length<=i
  ·exact hi
  ·exfalso
   unfold Ka at e2;rw[bY (by simpa using hi),l9] at e2
   split at e2 <;> cases e2
 rw[bQ hi] at e1;unfold Ka at e2;rw[bQ (by simpa using hi),cp,az] at e2;obtain ⟨j,hj,hN⟩:=hcap.get e1;rw[hj] at e2;have e3:(σ[j]?).join=some v:=by simpa using e2
 have e4:σ[j]?=some (some v):=by
  cases q:σ[j]? with
  | none=>rw[q] at e3;cases e3
  | some o=>rw[q] at e3;simp at e3;rw[e3]
 have hx:x∈capN:=ak e1;have hk:=B.caps x hx;obtain ⟨m0,_,hl⟩:=I.loc;obtain ⟨u,r,l⟩:=hl j x v hN e4 (.inr hk);refine ⟨u,r,.inr ⟨Et (B.capf x hx),?_⟩⟩;rcases l with ⟨hk2,_⟩ | ⟨_,c,hc,z⟩
 ·rcases hk with hk | hk
  ·rw[hk] at hk2;cases hk2
  ·rw[hk] at hk2;cases hk2
 ·exact ⟨c,Oc B I hx hc,kc x c hc _ z⟩
theorem So (I:Inv X pins σ Z.H Z.s) (h:b∈uF X.stack):@LT.lt Nat instLTNat b Z.s.heap.objs.size:=by
 obtain ⟨_,o,ho,_⟩:=I.stack.mem h;exact Heap.lt_size ho
theorem Oa {D:Addr} (I:Inv X pins σ Z.H Z.s) (hc:X.calm=true) (B:Bk X.env scope own capN) (hcap:xR X capN cap) (hC:Z.s.heap.objs.size<=Z.C)
  (hcl:CellsOk h1 (Z.C+1) (cellsFrom (Z.C+1) scope.names [])) (hf:∀b∈Z.fp,jv X pins Z.H b/\@LT.lt Nat instLTNat b Z.s.heap.objs.size)
  (hk:∀b o,Z.s.heap.get? b=some o->h1.get? b=some o) (hn:h1.Ns Z.C λ_=>none) (hD:Z.s.heap.objs.size<=D) (hDC:D≠Z.C) (hoD:h1.get? D=some oD) (hdD:∀v,oD.data≠.cell v) :
  Inv (yc X own capN scope Z) [(D,oD)] (Ka own.length cap σ) Z.H { Z.s with heap:=h1,toks:=t1 }:=by
 refine ⟨QK I hc B hC hcl hf,rfl,I.bare,Un.kept hk,⟨_,hn,λi x v e1 e2 _=>E3 I B hcap (λx c _ v z=>z.keeps hk) e1 e2⟩,λx c h=>?_,I.hok.fresh hC,λx c h=>?_,λp hp=>?_,I.hok.kept hk,?_⟩
 ·rcases iT B I h with ⟨_,m⟩ | ⟨_,_,m⟩
  ·exact ⟨none,(hcl.empty _ _ m).1⟩
  ·obtain ⟨v,q⟩:=I.cell x c m;exact ⟨v,q.keeps hk⟩
 ·rcases iT B I h with ⟨_,m⟩ | ⟨_,_,m⟩
  ·exact I.hok.fresh (by have:=(hcl.empty _ _ m).2;lia)
  ·exact I.freeC x c m
 ·have e:p=(D,oD):=by simpa [yc] using hp
  subst e;exact ⟨hoD,I.hok.fresh hD,hDC,λz=>eQ _ (bA (So I z) hD),hdD⟩
 ·show (Ka own.length cap σ).length=(own++capN).length
  have:=congrArg List.length hcap;simp only[ah] at this;unfold Ka;simp [this]
theorem Mo {σ':St} (I:Inv X pins σ Z.H Z.s) (B:Bk X.env scope own capN) (hcap:xR X capN cap) (hf:∀b∈Z.fp,jv X pins Z.H b/\@LT.lt Nat instLTNat b Z.s.heap.objs.size)
  (J:Inv (yc X own capN scope Z) pins' σ' H' s'):Inv (yc X own capN scope Z) pins' (Ka own.length cap σ) H' s':=by
 refine ⟨J.ok,J.os,J.bare,J.base,?_,J.cell,J.free,J.freeC,J.pin,J.hok,?_⟩
 ·obtain ⟨m,hn,_⟩:=J.loc;refine ⟨m,hn,λi x v e1 e2 _=>E3 I B hcap (λx c hx v z=>?_) e1 e2⟩;obtain ⟨o,ho,hd⟩:=z;obtain ⟨sl,e⟩:=J.base.any ho (I.freeC x c hx) λz=>(hf c z).1.2.2.2.2.1 x c hx rfl
  exact ⟨_,e,hd⟩
 ·show (Ka own.length cap σ).length=(own++capN).length
  have:=congrArg List.length hcap;simp only[ah] at this;unfold Ka;simp [this]
theorem Ob {σ':St} {D:Addr} (I:Inv X pins σ Z.H Z.s) (hf:∀b∈Z.fp,jv X pins Z.H b/\@LT.lt Nat instLTNat b Z.s.heap.objs.size) (hD:Z.s.heap.objs.size<=D)
  (J:Inv (yc X own capN scope Z) [(D,{ cls:=.type "list",data:=.seq its.toArray n })] σ' H' s') (r:cM ys its) (hz:ys.length<=sizeLine) :
  Inv X pins σ (upd H' D (.lst ys)) s':=by
 have pD:=J.pin (D,{ cls:=.type "list",data:=.seq its.toArray n }) (by simp);have ne:∀{b:Addr} {o:Obj},Z.s.heap.get? b=some o->b≠D:=λe z=>by subst z;exact eQ _ (bA (Heap.lt_size e) hD)
 have nt:∀{b:Addr} {u:HO},H' b=some u->b≠D:=λe z=>by rw[z,pD.2.1] at e;cases e
 refine I.call' (ch:=Z.fp) J.os ⟨J.base.keep,J.base.slot,λb o e h hx=>?_,J.base.there,λb xs e=>?_,λb o u e=>?_,λb ps e=>?_⟩ (λb u e=>?_) J.bare λb hb=>?_
 ·rw[aU (ne e)];exact J.base.free b o e h hx
 ·have q:=J.base.tups b xs e;rw[aU (nt q)];exact q
 ·have q:=J.base.frzs b o u e;rw[aU (nt q)];exact q
 ·obtain ⟨more,q⟩:=J.base.tbls b ps e;exact ⟨more,by rw[aU (nt q)];exact q⟩
 ·by_cases hb:b=D
  ·subst hb;rw[aH] at e;cases e;exact ⟨hz,its,n,r,pD.1⟩
  ·rw[aU hb] at e;exact (J.hok b u e).stay (λc v _ q=>q) (λc q=>by rw[aU (nt q)];exact q) λc xs q=>by rw[aU (nt q)];exact q
 ·obtain ⟨_,f1,_,f3,f4,f5⟩:=(hf b hb).1;exact ⟨f3,f1,f4,f5⟩
end
theorem Ph {t:Sem α} {Q Q':α->Shared->Prop} (h:wpAny M A t Q (λ_ _=>False) s) (hQ:∀a s,Q a s->Q' a s):wpAny M A t Q' E s :=
 wpAny_mono h hQ λ_ _ z=>False.elim z
theorem DA (I:Nat->Shared->Prop)
  (turn:∀(E:Value->Shared->Prop) n s,I n s->wpAny (model prog w) A (pyNext it) (λr s₁=>match r with
   | none=>R (.ok .next) s₁
   | some v=>wpAny (model prog w) A (letOwnedTupleGo target it v) (λ_ s₂=>wpAny (model prog w) A (assign target env v) (λ_ s₃ =>
     wpAny (model prog w) A (forIn ifs true λc r=>if r=true then do let ok <- isTrue c env (eval c env);pure (ForInStep.yield ok) else pure (ForInStep.yield r)) (λok s₄ =>
      if ok=true then wpAny (model prog w) A (eval elt env) (λx s₅=>wpAny (model prog w) A (call (.builtin "list.append") [acc,x]) (λ_ s₆=>∃m,m < n/\I m s₆) E s₅) E s₄
      else ∃m,m < n/\I m s₄) E s₃) E s₂) E s₁) E s)
  (n:Nat) (h:I n s):codeAny (model prog w) A (.compLoop (.ListComp elt [⟨target,iter,ifs,0⟩] scope pos) 0 it acc env) R s:=by
 refine codeAny_loop rfl I (λn s hI=>?_) n h;show wpAny _ A ((compTurn (.ListComp elt [⟨target,iter,ifs,0⟩] scope pos) 0 it acc env).onRaise (λx=>do noteFrame x env;theTreesLotGoes x)) _ _ s
 refine wpAny_noted ?_;rw[compTurn_list];refine wpAny_bind (wpAny_standAt (wpAny_bind (wpAny_mono (turn _ n s hI) (λr s₁ h₁=>?_) λ_ _ h'=>h')));cases r with
 | none=>exact wpAny_pure h₁
 | some v =>
  refine wpAny_bind (wpAny_mono h₁ (λ_ s₂ h₂=>wpAny_bind (wpAny_mono h₂ (λ_ s₃ h₃=>wpAny_bind (wpAny_mono h₃ (λok s₄ h₄=>?_) λ_ _ h'=>h')) λ_ _ h'=>h')) λ_ _ h'=>h');cases ok with
  | false=>exact wpAny_pure ⟨rfl,h₄⟩
  | true =>
   exact wpAny_bind (wpAny_bind (wpAny_mono h₄ (λx s₅ h₅=>wpAny_bind (wpAny_mono h₅ (λ_ s₆ h₆=>wpAny_pure (wpAny_pure ⟨rfl,h₆⟩)) λ_ _ h'=>h')) λ_ _ h'=>h'))
def PF (X:Cx) (ifs:List Expr) (t:TT):Prop :=
 ∀(pins:List (Addr×Obj)) (s:Shared) (σ:St) (H:Hp) (Q:Bool->Hp->Prop),Inv X pins σ H s->t σ H Q →
  wpAny (model X.prog X.w) X.A (forIn ifs true λc r=>if r=true then do let ok <- isTrue c X.env (eval c X.env);pure (ForInStep.yield ok) else pure (ForInStep.yield r)) (TP X pins σ Q) X.xe s
def Q7:TT:=λ_ H Q=>Q true H
theorem cF:PF X [] Q7:=λ_ _ _ H _ I h=>wpAny_tests_nil ⟨H,I,h⟩
theorem FR (h:PT X c t):PF X [c] t:=λpins s σ H Q I hw=>wpAny_tests_one (h pins s σ H Q I hw)
def qv (σ₀:St) (g:TG) (tf:TT) (te:TE) (x:V) (H:Hp) (NY:V->Hp->Prop) (NN:Hp->Prop):Prop :=
 g x σ₀ H λσ2 H2=>tf σ2 H2 λb H3=>if b=true then te σ2 H3 NY else NN H3
def rP (J:It) (σ₀:St) (g:TG) (tf:TT) (te:TE) (Q:VK) (H1:Hp):Prop :=
 ∃W:Nat->Nat->List V->Hp->Prop,(∃m,W 0 m [] H1)/\∀i m ys H,W i m ys H →
  (J.stop i H/\ys.length<=sizeLine/\∀p,H p=none->Q (.ref p) (upd H p (.lst ys))) \/
  (J.go i H/\ys.length < sizeLine/\∃(NY:V->Hp->Prop) (NN:Hp->Prop),(∀y H',NY y H'->∃m',m' < m/\W (i+1) m' (ys++[y]) H')/\(∀H',NN H'->∃m',m' < m/\W (i+1) m' ys H') /\
   ∀x H',J.yld i H x H'->qv σ₀ g tf te x H' NY NN)
def D2 (wi:TI) (k:Nat) (cap:List Nat) (g:TG) (tf:TT) (te:TE):TE:=λσ H Q=>wi σ H λJ H1=>rP J (Ka k cap σ) g tf te Q H1
abbrev lobj (its:List Value) (n:Nat):Obj:={ cls:=.type "list",data:=.seq its.toArray n }
section
variable {X:Cx} {own capN:List Str} {cap:List Nat} {scope:Scope} {elt tg iter:Expr} {ifs:List Expr} {pos:Pos} {wi:TI} {g:TG} {tf:TT} {te:TE}
theorem BW (hc:X.calm=true) (B:Bk X.env scope own capN) (hcap:xR X capN cap)
  (hi:PI X tg iter wi) (hg:∀Z,PG (yc X own capN scope Z) tg g) (hf:∀Z,PF (yc X own capN scope Z) ifs tf) (he:∀Z,PE (yc X own capN scope Z) elt te)
  (hs:∀x,foldedSetIterable iter X.env x=pure x) {σ:St} (I:Inv X pins σ H s) (h:D2 wi own.length cap g tf te σ H Q)
  (fin:∀(D C:Addr) (s':Shared) (H':Hp),Inv X pins σ H' s'->jv X pins H' C->(∃m,s'.heap.Ns C m)->Q (.ref D) H'->compPost (model X.prog X.w) X.A X.xe use Qe (.ref D) C (.ok .next) s') :
  wpAny (model X.prog X.w) X.A (comprehension (.ListComp elt [⟨tg,iter,ifs,0⟩] scope pos) scope X.env fpos (newList []) false (eval iter X.env) use) Qe X.xe s:=by
 refine wpAny_comprehension_free (use:=use) rfl hs (Ab λy hy hk=>I.ok.has y.1 (B.caps _ (B.frees y hy hk).1)) B.kind B.locs ?_;refine fz (hi pins s σ H _ I h) λv s1 h1=>fz h1 λitv s2 h2=>?_
 obtain ⟨it,fp,tn,J,H2,e,I2,T,st2,f2,W,⟨m0,w0⟩,turn⟩:=h2;subst e;have hfp:∀b∈fp,jv X pins H2 b/\@LT.lt Nat instLTNat b s2.heap.objs.size:=λb hb=>⟨f2 b hb,let ⟨_,e,_⟩:=T.obj _ _ st2 b hb;Heap.lt_size e⟩
 refine wpAny_newObj_type (EI ?_) (aW _);have es:(s2.heap.push { cls:=.type "list",data:=.seq ([]:List Value).toArray }).objs.size=s2.heap.objs.size+1:=Heap.size_push ..
 show codeAny _ _ (.compStart _ 0 (.ref it) (.ref s2.heap.objs.size) { newEnv scope (s2.heap.push { cls:=.type "list",data:=.seq ([]:List Value).toArray }).objs.size X.env.globals (cellsFrom ((s2.heap.push { cls:=.type "list",data:=.seq ([]:List Value).toArray }).objs.size+1) scope.names (dU X.env scope.names [])) X.env.qual none .none (some X.env) builtinsNs with scope:=relabel scope X.env })
  (compPost (model X.prog X.w) X.A X.xe use Qe (.ref s2.heap.objs.size) (s2.heap.push { cls:=.type "list",data:=.seq ([]:List Value).toArray }).objs.size)
  { s2 with heap:=pushCells ((s2.heap.push { cls:=.type "list",data:=.seq ([]:List Value).toArray }).push { cls:=.type "dict",data:=.dict #[] }) scope.names }
 have hk1:∀b o,(s2.heap.push { cls:=.type "list",data:=.seq ([]:List Value).toArray }).get? b=some o->(pushCells ((s2.heap.push { cls:=.type "list",data:=.seq ([]:List Value).toArray }).push { cls:=.type "dict",data:=.dict #[] }) scope.names).get? b=some o :=
  λb o e=>pushCells_keeps _ _ _ _ (Heap.get?_push_of_some _ e)
 have hk:∀b o,s2.heap.get? b=some o->(pushCells ((s2.heap.push { cls:=.type "list",data:=.seq ([]:List Value).toArray }).push { cls:=.type "dict",data:=.dict #[] }) scope.names).get? b=some o:=λb o e=>hk1 b o (Heap.get?_push_of_some _ e)
 have hoD:=hk1 s2.heap.objs.size _ (Heap.get?_push_size s2.heap (o:={ cls:=.type "list",data:=.seq ([]:List Value).toArray }) rfl);have hn:=(Heap.Ns.new (s2.heap.push { cls:=.type "list",data:=.seq ([]:List Value).toArray }) (.type "dict")).keeps (pushCells_keeps scope.names _);have hcl:=Jw ((s2.heap.push { cls:=.type "list",data:=.seq ([]:List Value).toArray }).push { cls:=.type "dict",data:=.dict #[] }) (s2.heap.objs.size+1) (by rw[Heap.size_push,es]) scope.names;rw[es] at hn ⊢;generalize pushCells ((s2.heap.push { cls:=.type "list",data:=.seq ([]:List Value).toArray }).push { cls:=.type "dict",data:=.dict #[] }) scope.names=h3 at hk hoD hn hcl ⊢;have Z:Bz:=⟨s2,H2,fp,s2.heap.objs.size+1⟩
 have I3:Inv (yc X own capN scope ⟨s2,H2,fp,s2.heap.objs.size+1⟩) [(s2.heap.objs.size,lobj [] 0)] (Ka own.length cap σ) H2 { s2 with heap:=h3 } :=
  Oa (Z:=⟨s2,H2,fp,s2.heap.objs.size+1⟩) (t1:=s2.toks) I2 hc B hcap (Cp _) hcl hfp hk hn (aj _) (bN (fL _)) hoD (λv z=>nomatch z)
 have st3:tn 0 h3:=T.keep _ _ _ st2 λb _ o e=>hk b o e
 have loop:codeAny (model X.prog X.w) X.A (.compLoop (.ListComp elt [⟨tg,iter,ifs,0⟩] scope pos) 0 (.ref it) (.ref s2.heap.objs.size) (wD X.env scope (s2.heap.objs.size+1))) (compPost (model X.prog X.w) X.A X.xe use Qe (.ref s2.heap.objs.size) (s2.heap.objs.size+1)) { s2 with heap:=h3 }:=by
  refine DA (λm s'=>∃i ys σ' H' its n,Inv (yc X own capN scope ⟨s2,H2,fp,s2.heap.objs.size+1⟩) [(s2.heap.objs.size,lobj its n)] σ' H' s'/\tn i s'.heap/\(∀b∈fp,H' b=none)/\cM ys its/\W i m ys H') ?_ m0
   ⟨0,[],_,H2,[],0,I3,st3,λb hb=>(f2 b hb).1,.nil,w0⟩
  rintro E n s4 ⟨i,ys,σ4,H4,its,k,I4,st4,fr4,rv,w4⟩
  have fpo:∀{pp:List (Addr×Obj)} {H':Hp},(∀p∈pp,p.1=s2.heap.objs.size)->(∀b∈fp,H' b=none)->∀b∈fp,jv (yc X own capN scope ⟨s2,H2,fp,s2.heap.objs.size+1⟩) pp H' b:=λ{pp H'} hpp hn b hb=>by
   obtain ⟨e1,e2⟩:=I4.ok.exf b hb;refine ⟨hn b hb,e1,I4.ok.exfs b hb,.inl hb,e2,λp hp=>?_⟩;have hp':p∈pp:=by simpa [yc] using hp
   have l:=(hfp b hb).2;rw[hpp p hp'];exact λz=>eQ _ (by rw[<- z] at l;exact l)
  have pinD:∀{its:List Value} {n:Nat},∀p∈[(s2.heap.objs.size,lobj its n)],p.1=s2.heap.objs.size:=λp hp=>by simp at hp;rw[hp]
  rcases turn i n ys H4 w4 with ⟨stop,hz,q⟩ | ⟨go,hlt,NY,NN,hNY,hNN,step⟩
  ·refine fz (T.done (yc X own capN scope ⟨s2,H2,fp,s2.heap.objs.size+1⟩) rfl rfl rfl rfl i _ s4 σ4 H4 E I4 (fpo pinD fr4) st4 stop) λr s5 ⟨hr,I5⟩=>?_
   subst hr;have pD:=I5.pin (s2.heap.objs.size,lobj its k) (by simp);have I6:=Ob (Z:=⟨s2,H2,fp,s2.heap.objs.size+1⟩) I2 hfp (aj _) I5 rv hz
   have hC:upd H4 s2.heap.objs.size (.lst ys) (s2.heap.objs.size+1)=none:=by
    rw[aU (mO (fL _))];exact I5.free
   obtain ⟨m,hm,_⟩:=I5.loc;exact fin _ _ s5 _ I6 (I2.fpOk (Cp _) hC) ⟨m,hm⟩ (q _ pD.2.1)
  ·refine fz (T.item (yc X own capN scope ⟨s2,H2,fp,s2.heap.objs.size+1⟩) rfl rfl rfl rfl i _ s4 σ4 H4 E I4 (fpo pinD fr4) st4 go) λr s5 ⟨u,hr,h5⟩=>?_
   subst hr;refine fz h5 λ_ s6 ⟨x,H6,I6,r6,y6,st6,fr6⟩=>?_
   have I6':=(Mo (Z:=⟨s2,H2,fp,s2.heap.objs.size+1⟩) I2 B hcap hfp I6).pinned (fpo pinD fr6) (T.obj _ _ st6)
   have back:∀{σ7:St} {H7:Hp} {s7:Shared},Inv (yc X own capN scope ⟨s2,H2,fp,s2.heap.objs.size+1⟩) ([(s2.heap.objs.size,lobj its k)]++yX fp s6.heap) σ7 H7 s7 →
     Inv (yc X own capN scope ⟨s2,H2,fp,s2.heap.objs.size+1⟩) [(s2.heap.objs.size,lobj its k)] σ7 H7 s7/\tn (i+1) s7.heap/\∀b∈fp,H7 b=none:=λ{σ7 H7 s7} I7=>by
    refine ⟨I7.unpinned,T.keep _ _ _ st6 λb hb o e=>(I7.pin (b,o) (b6 _ (b6 _ (pC hb e)))).1,λb hb=>?_⟩;obtain ⟨o,e,d⟩:=T.obj _ _ st6 b hb;exact (I7.pin (b,o) (b6 _ (b6 _ (pC hb e)))).2.1
   refine Ph (hg _ _ s6 _ H6 x u _ I6' r6 (step x H6 y6)) λ_ s7 ⟨σ7,H7,I7,q7⟩=>?_
   refine Ph (hf _ _ s7 σ7 H7 _ I7 q7) λok s8 ⟨H8,I8,q8⟩=>?_
   cases ok with
   | false =>
    rw[if_neg aO] at q8 ⊢;obtain ⟨m',hm,w8⟩:=hNN H8 q8;obtain ⟨J1,J2,J3⟩:=back I8;exact ⟨m',hm,i+1,ys,σ7,H8,its,k,J1,J2,J3,rv,w8⟩
   | true =>
    rw[if_pos rfl] at q8 ⊢;refine Ph (he _ _ s8 σ7 H8 _ I8 q8) λz s9 ⟨y,H9,I9,r9,q9⟩=>?_
    obtain ⟨J1,J2,J3⟩:=back I9;obtain ⟨m',hm,w9⟩:=hNY y H9 q9;have pD:=J1.pin (s2.heap.objs.size,lobj its k) (by simp);have hl:=rv.length;refine call_meets F.slot_list_append ⟨_,pD.1,rfl⟩ F.entry_list_append (F.args_list_append_2 _ _) (PySem.list_append s2.heap.objs.size its.toArray k z (by rw[aZ];lia)) ⟨pD.1,?_⟩;have e9:=j6 pD.1 (λa=>a.push z);have e9':(its.toArray.push z)=(its++[z]).toArray:=by simp
    rw[e9'] at e9;obtain ⟨n',e9⟩:∃n',(s9.heap.update s2.heap.objs.size (Obj.mapSeq λa=>a.push z)).get? s2.heap.objs.size=some (lobj (its++[z]) n'):=⟨_,e9⟩
    have J4:Inv (yc X own capN scope ⟨s2,H2,fp,s2.heap.objs.size+1⟩) [] σ7 H9 { s9 with heap:=s9.heap.update s2.heap.objs.size (Obj.mapSeq λa=>a.push z),toks:=s9.toks } :=
     (J1.pins_of (pins':=[]) λp hp=>nomatch hp).turned (λb o hb e=>(Heap.get?_update_other s9.heap _ (Ne.symm hb)).trans e) pD.2.1 pD.2.2.1 (.inr (aj _)) (λx c hx z=>by
      rcases iT (Z:=⟨s2,H2,fp,s2.heap.objs.size+1⟩) B I2 hx with ⟨_,m⟩ | ⟨_,_,m⟩
      ·have:=(hcl.empty _ _ m).2;have z':@Eq Nat c s2.heap.objs.size:=z
       lia
      ·have:=DC (Z:=⟨s2,H2,fp,s2.heap.objs.size+1⟩) I2 m;rw[z] at this;exact eQ _ this) λp hp=>by simp [yc] at hp
    have nfp:∀b∈fp,b≠s2.heap.objs.size:=λb hb z=>by have:=(hfp b hb).2;rw[z] at this;exact eQ _ this
    refine ⟨m',hm,i+1,ys++[y],σ7,H9,its++[z],n',J4.pins_of λp hp=>?_,T.keep _ _ _ J2 λb hb o e=>(Heap.get?_update_other s9.heap _ (Ne.symm (nfp b hb))).trans e,J3,rv.append (.cons r9 .nil),w9⟩;have ep:p=(s2.heap.objs.size,lobj (its++[z]) n'):=by simpa using hp
    rw[ep];exact ⟨e9,pD.2.1,pD.2.2.1,pD.2.2.2.1,λv z=>nomatch z⟩
 exact codeAny_compStart_list loop (T.self _ _ _ _ _ st3 loop)
theorem cy (own capN:List Str) (cap:List Nat) (hi:PI X tg iter wi) (hg:∀Z,PG (yc X own capN scope Z) tg g) (hf:∀Z,PF (yc X own capN scope Z) ifs tf) (he:∀Z,PE (yc X own capN scope Z) elt te)
  (h1:SY scope own capN=true:=by decide +kernel) (h2:BY X.env capN=true:=by rfl) (hcap:xR X capN cap:=by rfl) (hc:X.calm=true:=by rfl) (hs:∀x,foldedSetIterable iter X.env x=pure x:=by intro _;rfl) :
  PE X (.ListComp elt [⟨tg,iter,ifs,0⟩] scope pos) (D2 wi own.length cap g tf te):=by
 intro pins s σ H Q I h;rw[eval_ListComp];refine BW (use:=none) hc (Bk.of h1 h2) hcap hi hg hf he hs I h λD C s' H' I' fC hm q=>?_
 obtain ⟨m,hm⟩:=hm;refine ⟨m,hm,λh' hs'=>?_⟩;obtain ⟨f0,f1,f2,f3,f4,f5⟩:=fC;exact ⟨.ref D,H',I'.turned (t':=s'.toks) (λb o hb e=>(hs'.2 b hb).trans e) f0 f1 f3 f4 f5,rfl,q⟩
theorem oQ (i:Nat) (own capN:List Str) (cap:List Nat) {x:Str} {pos' spos:Pos} (hN:X.N.Nodup) (hi':X.N[i]?=some x) (hx:X.env.scope.names.lookup x=some .local) (hi:PI X tg iter wi) (hg:∀Z,PG (yc X own capN scope Z) tg g) (hf:∀Z,PF (yc X own capN scope Z) ifs tf) (he:∀Z,PE (yc X own capN scope Z) elt te)
  (h1:SY scope own capN=true:=by decide +kernel) (h2:BY X.env capN=true:=by rfl) (hcap:xR X capN cap:=by rfl) (hc:X.calm=true:=by rfl) (hs:∀x,foldedSetIterable iter X.env x=pure x:=by intro _;rfl)
  (hsw:swapsWith (.ListComp elt [⟨tg,iter,ifs,0⟩] scope pos) (some (.Name x pos')) spos.line X.env=pure true:=by rfl) :
  PS X (.Assign [.Name x pos'] (.ListComp elt [⟨tg,iter,ifs,0⟩] scope pos) spos) (MK (D2 wi own.length cap g tf te) (Ih i)):=by
 intro pins s σ H D I h;rw[exec_Assign_Name_used _ _ _ _ hsw];refine wpAny_bind (wpAny_standAt (wpAny_bind ?_));rw[arm_evalThenUse_ListComp];refine wpAny_bind (BW (Q:=λv H1=>D.nx (σ.set i (some v)) H1) (use:=some _) hc (Bk.of h1 h2) hcap hi hg hf he hs I h λL C s' H' I' fC hm q=>?_);obtain ⟨m,hm⟩:=hm;obtain ⟨f0,f1,f2,f3,f4,f5⟩:=fC;refine wpAny_assign_Name (Bj I' hN hi' (.inl hx) (v:=.ref L) rfl (λs'' I'' ⟨a,sb,ha⟩=>?_) (.inr hx))
 have hCa:C≠a:=by
  rcases ha with e | e
  ·rw[e];exact f1
  ·exact (f4 x a e).symm
 refine ⟨m,hm.at' λo e=>(sb.2 C hCa).trans e,λh' hs'=>?_⟩;have I3:=I''.turned (h':=h') (t':=s''.toks) (λb o hb e=>(hs'.2 b hb).trans e) f0 f1 f3 f4 f5;exact wpAny_pure (wpAny_pure ⟨_,H',I3,q⟩)
end
section
variable {K:FG9} {a:Addr} {xs:List V} {g:TG} {tf:TT} {te:TE} {Q:VK} {σ₀:St} {H:Hp}
theorem dY (Pv:Nat->List V->Hp->Prop) (hz:xs.length<=sizeLine) (h0:Pv 0 [] H) (hl:∀i ys H,i<=xs.length->Pv i ys H->bE K H a xs)
  (hs:∀i x ys H,xs[i]?=some x->ys.length<=i->Pv i ys H->qv σ₀ g tf te x H (λy H'=>Pv (i+1) (ys++[y]) H') (λH'=>Pv (i+1) ys H'))
  (hd:∀ys H,ys.length<=xs.length->Pv xs.length ys H->∀p,H p=none->Q (.ref p) (upd H p (.lst ys))):rP (O3 K a) σ₀ g tf te Q H:=by
 refine ⟨λi m ys H=>m=xs.length - i/\i<=xs.length/\ys.length<=i/\Pv i ys H,⟨xs.length,by simp,aW _,aW _,h0⟩,?_⟩;rintro i m ys H ⟨rfl,hi,hy,p⟩;have q:=hl i ys H hi p;by_cases hlt:i < xs.length
 ·refine .inr ⟨⟨xs,xs[i],q,by simp [hlt]⟩,by lia,λy H'=>Pv (i+1) (ys++[y]) H',λH'=>Pv (i+1) ys H',λy H' p'=>⟨xs.length - (i+1),by lia,rfl,hlt,by rw[au,aV];lia,p'⟩,λH' p'=>⟨xs.length - (i+1),by lia,rfl,hlt,by lia,p'⟩,λx H' y=>?_⟩;obtain ⟨e,y⟩:=y;subst e;exact hs i x ys _ (y xs q) hy p
 ·have e:i=xs.length:=by lia
  subst e;exact .inl ⟨⟨xs,q,aj _⟩,by lia,hd ys H hy p⟩
theorem pI {lo:Int} (Pv:Nat->List V->Hp->Prop) (hz:n<=sizeLine) (h0:Pv 0 [] H)
  (hs:∀i ys H,i < n->ys.length<=i->Pv i ys H->qv σ₀ g tf te (.int (lo+i)) H (λy H'=>Pv (i+1) (ys++[y]) H') (λH'=>Pv (i+1) ys H'))
  (hd:∀ys H,ys.length<=n->Pv n ys H->∀p,H p=none->Q (.ref p) (upd H p (.lst ys))):rP (Fn lo n) σ₀ g tf te Q H:=by
 refine ⟨λi m ys H=>m=n - i/\i<=n/\ys.length<=i/\Pv i ys H,⟨n,by simp,aW _,aW _,h0⟩,?_⟩;rintro i m ys H ⟨rfl,hi,hy,p⟩;by_cases hlt:i < n
 ·refine .inr ⟨hlt,by lia,λy H'=>Pv (i+1) (ys++[y]) H',λH'=>Pv (i+1) ys H',λy H' p'=>⟨n - (i+1),by lia,rfl,hlt,by rw[au,aV];lia,p'⟩,λH' p'=>⟨n - (i+1),by lia,rfl,hlt,by lia,p'⟩,λx H' y=>?_⟩;obtain ⟨e,y⟩:=y;subst e y;exact hs i ys _ hlt hy p
 ·have e:i=n:=by lia
  subst e;exact .inl ⟨aj _,by lia,hd ys H hy p⟩
end
open Nm
def fP (i j:Int):Prop:=QZ i j\/∃m n,Sz m i/\Sz n j/\m+n<=1000000
def pX (i j:Int):Prop:=j≠0/\Sz 449950 j
theorem Ag (h:Sz k i):Builtin.Int.intBits i<=k:=by
 unfold Builtin.Int.intBits;by_cases e:i=0
 ·subst e;simp
 ·have e':(i == 0)=false:=by simpa using e
  rw[e'];have hn:i.natAbs≠0:=by lia
  have:=(Nat.log2_lt hn).mpr h;simp only[iE,if_false]
  lia
theorem fP.ok (h:fP i j):IntMulOk i j:=by
 rcases h with h | ⟨m,n,h1,h2,h3⟩
 ·exact h.ok
 ·have e:(2:Nat)^20=1048576:=by decide
  exact .of_bits (by have:=Ag h1;lia) (by have:=Ag h2;lia)
section
variable {X:Cx} {a b:Expr} {ta tb:TE} {pos:Pos}
theorem cW:xP X (binaryOp .Mult) (rI fP λi j=>.int (i*j)):=Tc λ_ _ _ _ _ _ _ hc q=>mul_int q hc.ok
theorem je (hs:X.stack=env :: l) (S:aR N ps sc) (he:env.scope=sc) (hb:env.builtins=builtinsNs) (hg:env.globals=mainGlobals) (ht:X.prog.given.tree=none) (hd:X.A.depth+Builtin.pylongFrames < recursionLimit):xP X (binaryOp .FloorDiv) (rI pX λi j=>.int (i.fdiv j)):=by
 intro pins s σ H x y v u Q I rx ry h;obtain ⟨i,j,rfl,rfl,hc,q⟩:=h;obtain ⟨t,rfl⟩:=rx;obtain ⟨t',rfl⟩:=ry;refine floordiv_int hc.1 ⟨.int _,H,I.tok _,⟨_,rfl⟩,q⟩ (.inr (PySem.PylongRoom.of I.nolimit hd (PySem.SeerAt.of (I.ok.mod.seer.keeps I.bk) ht (env:=env) (l:=l) (by rw[I.ok.frames,hs]) (by rw[he];exact S.gen) (by rw[he];exact S.co) hb hg)))
theorem uI (hr:js k A):A.depth+Builtin.pylongFrames < recursionLimit:=by have:=hr.dp;show A.depth+100 < _;lia
def Rc (t u:TS):TS:=λD σ H=>∃N:St->Hp->Prop,t { D with nx:=N } σ H/\∀σ' H',N σ' H'->u D σ' H'
theorem gV {st:Stmt} (h1:PS X st t) (h2:DU X rest u):DU X (st :: rest) (Rc t u):=by
 intro pins s σ H D I h;obtain ⟨N,h,k⟩:=h;refine wpAny_execs_cons (fz (h1 pins s σ H { D with nx:=N } I h) λf s1 q=>?_);cases f with
 | next =>
  obtain ⟨σ',H',I',q⟩:=q;exact h2 pins s1 σ' H' D I' (k _ _ q)
 | ret v=>exact q
 | brk=>exact q
 | cont=>exact q
def OK (K:FG9):V->V->Hp->VK->Prop:=λo i H Q=>∃p xs k v,o=.ref p/\i=.int k/\bE K H p xs/\E6 xs k=some v/\Q v H
theorem LK:Sy X (OK X.K):=by
 intro pins s σ H o i ov iv Q I ro ri h;obtain ⟨p,xs,k,z,rfl,rfl,hq,he,q⟩:=h;cases ro;obtain ⟨t,rfl⟩:=ri;obtain ⟨its,r,pl,hz⟩:=I.list hq;obtain ⟨j,h1,h2,h3,h4,h5⟩:=DD he;obtain ⟨w,ew,rw'⟩:=r.get h2;have hl:=r.length;have hn:=zM;have fin:EP X pins σ Q w s:=⟨z,H,I,rw',q⟩;by_cases h0:0<=k
 ·have hj:k.toNat=j:=by
   rw[seqIndex_of h0 h5] at h1;exact bU h1
  exact wpAny_getItem_list pl.isList h0 (by lia) (by rw[hj];simpa using ew) fin
 ·have hj:(k+(its.toArray.size:Int)).toNat=j:=by
   rw[seqIndex_neg (by lia) h4] at h1;rw[aZ,<- hl];exact bU h1
  exact wpAny_getItem_list_neg pl.isList (by lia) (by rw[aZ] <;> lia) (by lia) (by rw[hj];simpa using ew) fin
def Js (K:FG9) (T:String):V->Hp->VK->Prop:=λx H Q=>∃t b,wK K H x t/\PySem.W.kitOne K t (.type T)=some b/\Q (.bl b) H
theorem v7 {c:Str} {T:String} {p p2:Pos} (hg:Gl X "isinstance") (hm:X.mg "isinstance"=none) (hb:bootBuiltins c=some (.type T)) (hmc:X.mg c=none) (ha:PE X a ta) (hgc:Gl X c:=by rfl) (hn:c≠"__name__":=by decide)
  (hd:(c == ("__debug__":Str))=false:=by decide) (he:starEach [a,.Name c p2] X.env=[(false,eval a X.env),(false,eval (.Name c p2) X.env)]:=by rfl)
  (hpl:(backTo pos (starEach [.Name c p2] X.env)).any (·.1)=false:=by rfl) (he2:starEach [.Name c p2] X.env=[(false,eval (.Name c p2) X.env)]:=by rfl):PE X (.Call (.Name "isinstance" p) [a,.Name c p2] [] pos) (SV (Js X.K T) ta):=by
 intro pins s σ H Q I h;refine wpAny_Call_Name_kw (jR I hg hm PyProof.Rows.boot_isinstance ?_);have hA:PA X [a,.Name c p2] (qB ta (qB (tC (.ty T)) Jg)):=ae ha (ae (HP hgc hmc hb rfl hn hd) ai he2) (by rw[he,he2])
 have hq:qB ta (qB (tC (.ty T)) Jg) σ H (λvs H1=>∃x,vs=[x,.ty T]/\Js X.K T x H1 Q):=by
  show ta σ H λx H1=>∃x',[x,V.ty T]=[x',V.ty T]/\Js X.K T x' H1 Q
  have e:(λx H1=>∃x',[x,V.ty T]=[x',V.ty T]/\Js X.K T x' H1 Q)=λx H1=>Js X.K T x H1 Q:=by
   funext x H1;apply propext;constructor
   ·rintro ⟨x',e,q⟩;cases e;exact q
   ·intro q;exact ⟨x,rfl,q⟩
  rw[e];exact h
 refine PyProof.Rows.callWith_builtin1 (fz (hA pos pins s σ H _ I hq) λus s1 ⟨vs,H1,I1,r1,x,e,q1⟩=>?_) (by rw[he,he2]) hpl;subst e;obtain ⟨u,w',rfl,ru,rt⟩:=vals2 r1;cases rt;obtain ⟨t,bb,ty,ek,q⟩:=q1;exact BG I1 ru ty ek λtk=>⟨.bl bb,H1,I1.tok tk,rfl,q⟩
end
structure Kind (α:Type) [DecidableEq α] where
 R:FG9->Hp->V->α->Prop
 d:Nat
 inj:∀{X:Cx} {pins:List (Addr×Obj)} {σ:St} {H:Hp} {s:Shared} {x:V} {a b:α},Inv X pins σ H s->R X.K H x a->R X.K H x b->a=b
 rc:∀{X:Cx} {pins:List (Addr×Obj)} {σ:St} {H:Hp} {s:Shared} {x y:V} {v u:Value} {a b:α} {A:Around},Inv X pins σ H s->RelV x v->RelV y u->R X.K H x a->R X.K H y b->A.units+d < cLine->SeqAt.RcAt A s v u (decide (a=b))
 ne:∀{X:Cx} {pins:List (Addr×Obj)} {σ:St} {H:Hp} {s:Shared} {x y:V} {v u:Value} {a b:α} {A:Around},Inv X pins σ H s->RelV x v->RelV y u->R X.K H x a->R X.K H y b->A.units+d < cLine->SeqAt.RcNeAt A s v u (!decide (a=b))
 eq:∀{X:Cx} {pins:List (Addr×Obj)} {σ:St} {H:Hp} {s:Shared} {x y:V} {v u:Value} {a b:α} {A:Around},Inv X pins σ H s->RelV x v->RelV y u->R X.K H x a->R X.K H y b->A.units+d < cLine->SeqAt.EqAt A s v u (decide (a=b))
def Tf:Kind Int where
 R:=λ_ _ x i=>x=.int i
 d:=0
 inj:=λ_ h1 h2=>by rw[h1] at h2;cases h2;rfl
 rc:=λ{X pins σ H s x y v u a b A} I rx ry h1 h2 _=>by
  subst h1 h2;obtain ⟨t,rfl⟩:=rx;obtain ⟨t',rfl⟩:=ry;have q:=SeqAt.RcAt.int_int (A:=A) (s:=s) a t b t';rwa [AE] at q
 ne:=λ{X pins σ H s x y v u a b A} I rx ry h1 h2 _=>by
  subst h1 h2;obtain ⟨t,rfl⟩:=rx;obtain ⟨t',rfl⟩:=ry;have q:=SeqAt.RcNeAt.int_int (A:=A) (s:=s) a t b t';rwa [AE] at q
 eq:=λ{X pins σ H s x y v u a b A} I rx ry h1 h2 _=>by
  subst h1 h2;obtain ⟨t,rfl⟩:=rx;obtain ⟨t',rfl⟩:=ry;have q:=SeqAt.EqAt.int_int (A:=A) (s:=s) a t b t';rwa [AE] at q
theorem jL {α β:Type} {F:α->β->Prop}:∀{l1:List α} {l2:List β} {i:Nat} (_:Paired F l1 l2) (h1:i < l1.length) (h2:i < l2.length),F l1[i] l2[i]
 | _,_,_,.nil,h1,_=>absurd h1 (cQ _)
 | _,_,0,.cons r _,_,_=>r
 | _,_,i+1,.cons _ t,h1,h2=>jL (i:=i) t (Nat.lt_of_succ_lt_succ h1) (Nat.lt_of_succ_lt_succ h2)
theorem lh {α β:Type} {F:α->β->Prop} (hF:∀a b x,F a x->F b x->a=b):∀{l1 l2:List α} {l:List β},Paired F l1 l->Paired F l2 l->l1=l2
 | _,_,_,.nil,.nil=>rfl
 | _,_,_,.cons r t,.cons r' t'=>by rw[hF _ _ _ r r',lh hF t t']
theorem uL {α:Type} [DecidableEq α] (as bs:List α) (h:as.length=bs.length):(List.range as.length).all (λj=>decide (as[j]?=bs[j]?))=decide (as=bs):=by
 rw[kL,ou,decide_eq_true_iff];constructor
 ·intro q;apply mT;intro i;by_cases hi:i < as.length
  ·exact of_decide_eq_true (q i (jE.mpr hi))
  ·rw[aJ (by lia),aJ (by lia)]
 ·rintro rfl i _;simp
section
variable {α:Type} [DecidableEq α] (k:Kind α)
theorem Kind.items {X:Cx} {pins:List (Addr×Obj)} {σ:St} {H:Hp} {s:Shared} {A:Around} (I:Inv X pins σ H s) (hA:A.units+k.d < cLine) {xs ys:List V} {us ws:List Value} {as bs:List α}
  (rx:cM xs us) (ry:cM ys ws) (ha:Paired (λa x=>k.R X.K H x a) as xs) (hb:Paired (λa x=>k.R X.K H x a) bs ys) :
  ∀j (h1:j < us.toArray.size) (h2:j < ws.toArray.size),SeqAt.EqAt A s us.toArray[j] ws.toArray[j] (decide (as[j]?=bs[j]?)):=λj h1 h2=>by
 have l1:j < us.length:=by simpa using h1
 have l2:j < ws.length:=by simpa using h2
 have e1:=rx.length;have e2:=ry.length;have e3:=ha.length;have e4:=hb.length;obtain ⟨u,hu,ru⟩:=rx.get (i:=j) (x:=xs[j]'(by lia)) (by simp);obtain ⟨w,hw,rw'⟩:=ry.get (i:=j) (x:=ys[j]'(by lia)) (by simp);have q:=k.eq (A:=A) I ru rw' (jL ha (by lia) (by lia)) (jL hb (by lia) (by lia)) hA
 have eu:us.toArray[j]=u:=by
  have:=hu;rw[af l1] at this;simpa using this
 have ew:ws.toArray[j]=w:=by
  have:=hw;rw[af l2] at this;simpa using this
 rw[eu,ew,af (show j < as.length by lia),af (show j < bs.length by lia)];have e5:decide (some as[j]=some bs[j])=decide (as[j]=bs[j]):=by simp
 rw[e5];exact q
theorem Cw {α:Type} [DecidableEq α] (as bs:List α) {n m:Nat} (h1:as.length=n) (h2:bs.length=m):((List.range (min n m)).all (λj=>decide (as[j]?=bs[j]?)) && n == m)=decide (as=bs):=by
 subst h1 h2;by_cases e:as.length=bs.length
 ·rw[show min as.length bs.length=as.length by lia,uL as bs e];simp [e]
 ·have h1:(as.length == bs.length)=false:=by simpa using e
  rw[h1,Bool.and_false];exact (decide_eq_false λz=>e (by rw[z])).symm
def Te:Kind (List α) where
 R:=λK H x as=>∃p xs,x=.ref p/\pZ K H p xs/\Paired (λa x=>k.R K H x a) as xs
 d:=k.d+1
 inj:=λ{X pins σ H s x a b} I h1 h2=>by
  obtain ⟨p,xs,rfl,hp,pa⟩:=h1;obtain ⟨q,ys,e,hq,pb⟩:=h2;cases e;have e:=I.tuple_inj hp hq;subst e;exact lh (F:=λa x=>k.R X.K H x a) (λa b x=>k.inj I) pa pb
 rc:=λ{X pins σ H s x y v u a b A} I rx ry h1 h2 hA=>by
  obtain ⟨p,xs,rfl,hp,pa⟩:=h1;obtain ⟨q,ys,rfl,hq,pb⟩:=h2;cases rx;cases ry;obtain ⟨us,r1,t1,_⟩:=I.tuple hp;obtain ⟨ws,r2,t2,_⟩:=I.tuple hq;have z:=SeqAt.RcAt.tuples (A:=A) (e:=λj=>decide (a[j]?=b[j]?)) (show s.heap.IsTuple p us.toArray from t1) (show s.heap.IsTuple q ws.toArray from t2) (by lia) (k.items (A:=A.in1) I (by show A.units+1+k.d < cLine;lia) r1 r2 pa pb);rwa [Cw a b (by rw[pa.length,r1.length];simp) (by rw[pb.length,r2.length];simp)] at z
 ne:=λ{X pins σ H s x y v u a b A} I rx ry h1 h2 hA=>by
  obtain ⟨p,xs,rfl,hp,pa⟩:=h1;obtain ⟨q,ys,rfl,hq,pb⟩:=h2;cases rx;cases ry;obtain ⟨us,r1,t1,_⟩:=I.tuple hp;obtain ⟨ws,r2,t2,_⟩:=I.tuple hq;have z:=SeqAt.RcNeAt.tuples (A:=A) (e:=λj=>decide (a[j]?=b[j]?)) (show s.heap.IsTuple p us.toArray from t1) (show s.heap.IsTuple q ws.toArray from t2) (by lia) (k.items (A:=A.in1) I (by show A.units+1+k.d < cLine;lia) r1 r2 pa pb);rwa [Cw a b (by rw[pa.length,r1.length];simp) (by rw[pb.length,r2.length];simp)] at z
 eq:=λ{X pins σ H s x y v u a b A} I rx ry h1 h2 hA=>by
  obtain ⟨p,xs,rfl,hp,pa⟩:=h1;obtain ⟨q,ys,rfl,hq,pb⟩:=h2;cases rx;cases ry;by_cases e:p=q
  ·subst e;have e:=I.tuple_inj hp hq;subst e;rw[lh (F:=λa x=>k.R X.K H x a) (λa b x=>k.inj I) pa pb,decide_eq_true rfl];exact SeqAt.EqAt.same _
  ·obtain ⟨us,r1,t1,_⟩:=I.tuple hp;obtain ⟨ws,r2,t2,_⟩:=I.tuple hq;have z:=SeqAt.RcAt.tuples (A:=A) (e:=λj=>decide (a[j]?=b[j]?)) (show s.heap.IsTuple p us.toArray from t1) (show s.heap.IsTuple q ws.toArray from t2) (by lia) (k.items (A:=A.in1) I (by show A.units+1+k.d < cLine;lia) r1 r2 pa pb);rw[Cw a b (by rw[pa.length,r1.length];simp) (by rw[pb.length,r2.length];simp)] at z;exact .of_refs e z
theorem F9 {X:Cx} {pins:List (Addr×Obj)} {σ:St} {H:Hp} {s:Shared} {p q:Addr} {xs ys:List V} {a b:List α} {A:Around} (I:Inv X pins σ H s) (hp:bE X.K H p xs) (hq:bE X.K H q ys)
  (pa:Paired (λa x=>k.R X.K H x a) a xs) (pb:Paired (λa x=>k.R X.K H x a) b ys) (hA:A.units+(k.d+1) < cLine) :
  SeqAt.RcAt A s (.ref p) (.ref q) (decide (a=b))/\SeqAt.RcNeAt A s (.ref p) (.ref q) (!decide (a=b)):=by
 obtain ⟨us,r1,t1,_⟩:=I.list hp;obtain ⟨ws,r2,t2,_⟩:=I.list hq;have l1:=r1.length;have l2:=r2.length;have l3:=pa.length;have l4:=pb.length;by_cases e:us.length=ws.length
 ·have it:=k.items (A:=A.in1) I (by show A.units+1+k.d < cLine;lia) r1 r2 pa pb;have z:=SeqAt.RcAt.lists (A:=A) (e:=λj=>decide (a[j]?=b[j]?)) t1.isList t2.isList (by simpa using e) (by lia) it;have z2:=SeqAt.RcNeAt.lists (A:=A) (e:=λj=>decide (a[j]?=b[j]?)) t1.isList t2.isList (by simpa using e) (by lia) it;have e1:us.toArray.size=a.length:=by rw[aZ];lia
  rw[e1,uL a b (by lia)] at z z2;exact ⟨z,z2⟩
 ·have hne:¬a=b:=λz=>e (by have:=congrArg List.length z;lia)
  rw[decide_eq_false hne];exact ⟨SeqAt.RcAt.lists_lengths t1.isList t2.isList (by simpa using e) (by lia),SeqAt.RcNeAt.lists_lengths t1.isList t2.isList (by simpa using e) (by lia)⟩
def Sb:Kind (List α) where
 R:=λK H x as=>∃p xs,x=.ref p/\bE K H p xs/\Paired (λa x=>k.R K H x a) as xs
 d:=k.d+1
 inj:=λ{X pins σ H s x a b} I h1 h2=>by
  obtain ⟨p,xs,rfl,hp,pa⟩:=h1;obtain ⟨q,ys,e,hq,pb⟩:=h2;cases e;have e:=I.list_inj hp hq;subst e;exact lh (F:=λa x=>k.R X.K H x a) (λa b x=>k.inj I) pa pb
 rc:=λ{X pins σ H s x y v u a b A} I rx ry h1 h2 hA=>by
  obtain ⟨p,xs,rfl,hp,pa⟩:=h1;obtain ⟨q,ys,rfl,hq,pb⟩:=h2;cases rx;cases ry;exact (F9 k I hp hq pa pb hA).1
 ne:=λ{X pins σ H s x y v u a b A} I rx ry h1 h2 hA=>by
  obtain ⟨p,xs,rfl,hp,pa⟩:=h1;obtain ⟨q,ys,rfl,hq,pb⟩:=h2;cases rx;cases ry;exact (F9 k I hp hq pa pb hA).2
 eq:=λ{X pins σ H s x y v u a b A} I rx ry h1 h2 hA=>by
  obtain ⟨p,xs,rfl,hp,pa⟩:=h1;obtain ⟨q,ys,rfl,hq,pb⟩:=h2;cases rx;cases ry;by_cases e:p=q
  ·subst e;have e:=I.list_inj hp hq;subst e;rw[lh (F:=λa x=>k.R X.K H x a) (λa b x=>k.inj I) pa pb,decide_eq_true rfl];exact SeqAt.EqAt.same _
  ·exact .of_refs e (F9 k I hp hq pa pb hA).1
def Kind.via {β:Type} [DecidableEq β] (f:β->α) (fi:∀a b,f a=f b->a=b) (R':FG9->Hp->V->β->Prop) (im:∀{K H x b},R' K H x b->k.R K H x (f b)):Kind β where
 R:=R'
 d:=k.d
 inj:=λI h1 h2=>fi _ _ (k.inj I (im h1) (im h2))
 rc:=λ{X pins σ H s x y v u a b A} I rx ry h1 h2 hA=>by
  have z:=k.rc (A:=A) I rx ry (im h1) (im h2) hA;rwa [decide_eq_decide.mpr (show f a=f b↔a=b from ⟨fi a b,λe=>by rw[e]⟩)] at z
 ne:=λ{X pins σ H s x y v u a b A} I rx ry h1 h2 hA=>by
  have z:=k.ne (A:=A) I rx ry (im h1) (im h2) hA;rwa [decide_eq_decide.mpr (show f a=f b↔a=b from ⟨fi a b,λe=>by rw[e]⟩)] at z
 eq:=λ{X pins σ H s x y v u a b A} I rx ry h1 h2 hA=>by
  have z:=k.eq (A:=A) I rx ry (im h1) (im h2) hA;rwa [decide_eq_decide.mpr (show f a=f b↔a=b from ⟨fi a b,λe=>by rw[e]⟩)] at z
end
def Fe (K:FG9) (H:Hp) (x:V) (n:Int×Int):Prop:=∃p,x=.ref p/\pZ K H p [.int n.1,.int n.2]
def Sa:Kind (Int×Int):=(Te Tf).via (λn=>[n.1,n.2]) (λa b e=>by cases a;cases b;simp at e;rw[e.1,e.2]) Fe λ⟨p,e,h⟩=>⟨p,_,e,h,.cons rfl (.cons rfl .nil)⟩
def Ta (K:FG9):R2:=λx y H Q=>∃(α:Type) (_:DecidableEq α) (k:Kind α) (a b:α),k.d<=50/\k.R K H x a/\k.R K H y b/\Q (.bl (decide (a=b))) H
def RP (K:FG9):R2:=λx y H Q=>∃(α:Type) (_:DecidableEq α) (k:Kind α) (a b:α),k.d<=50/\k.R K H x a/\k.R K H y b/\Q (.bl (!decide (a=b))) H
theorem FU (hu:X.A.units+50 < cLine):xP X (compareOp .Eq) (Ta X.K):=by
 intro pins s σ H x y v u Q I rx ry h;obtain ⟨α,_,k,a,b,hd,ha,hb,q⟩:=h;exact k.rc (A:=X.A) I rx ry ha hb (by lia) _ _ _ _ ⟨.bl (decide (a=b)),H,I,rfl,q⟩
theorem C2 (hu:X.A.units+50 < cLine):xP X (compareOp .NotEq) (RP X.K):=by
 intro pins s σ H x y v u Q I rx ry h;obtain ⟨α,_,k,a,b,hd,ha,hb,q⟩:=h;exact k.ne (A:=X.A) I rx ry ha hb (by lia) _ _ _ _ ⟨.bl (!decide (a=b)),H,I,rfl,q⟩
theorem Gh (hr:js k A):A.units+50 < cLine:=by have:=hr.units;lia
def Inner (H:Hp) (p q:Addr):Prop:=∃a b c:Int,H p=some (.lst [.int a,.int b,.int c,.ref q])
def cZ (p:Addr) (H H':Hp):Prop:=(∀b o,H b=some o->b≠p->H' b=some o)/\∀q,Inner H p q->Inner H' p q
theorem cZ.refl (H:Hp):cZ p H H:=⟨λ_ _ h _=>h,λ_ h=>h⟩
theorem cZ.trans (a:cZ p H H1) (b:cZ p H1 H2):cZ p H H2:=⟨λc o h n=>b.1 c o (a.1 c o h n) n,λq h=>b.2 q (a.2 q h)⟩
theorem Inner.inj (h:Inner H p q) (h':Inner H p q'):q=q':=by
 obtain ⟨a,b,c,e⟩:=h;obtain ⟨a',b',c',e'⟩:=h';rw[e] at e';have:=HO.lst.inj (bU e');simp at this;exact this.2.2.2
theorem cZ.set (h:H p=some (.lst [.int a,.int b,.int c,.ref q])):cZ p H (upd H p (.lst [.int a',.int b',.int c',.ref q])) :=
 ⟨λb u h n=>by rw[aU n];exact h,λq' h'=>by
  rw[(Inner.inj ⟨a,b,c,h⟩ h').symm];exact ⟨a',b',c',aH⟩⟩
theorem aI.upto (h:aI H H'):cZ p H H':=⟨λb o e _=>h b o e,λq ⟨a,b,c,e⟩=>⟨a,b,c,h _ _ e⟩⟩
theorem aI.new (h:H p=Option.none):aI H (upd H p o):=λb u e=>by rw[aU (fq e h)];exact e
theorem aI.sqt {K:FG9} (e:aI H H') (h:pZ K H a xs):pZ K H' a xs:=by
 rcases h with (h | ⟨o,h⟩) | h
 ·exact .inl (.inl (e _ _ h))
 ·exact .inl (.inr ⟨o,e _ _ h⟩)
 ·exact .inr h
theorem aI.num {K:FG9} (e:aI H H') (h:Fe K H x n):Fe K H' x n:=by obtain ⟨p,q,r⟩:=h;exact ⟨p,q,e.sqt r⟩
section
variable {σ:St} {H:Hp} {D:Ends}
theorem aN {t:TS} (e:σ0=σ) (h:t D σ H):t D σ0 H:=by rw[e];exact h
theorem PB (h:t { D with nx:=u D } σ H):Rf t u D σ H:=h
theorem MY (h:D.nx σ H):OA D σ H:=h
theorem P5 {g:TG} (h:te σ H λx H1=>g x σ H1 D.nx):MK te g D σ H:=h
theorem K3 (h:Q (σ.set i (some v)) H):Ih i v σ H Q:=h
theorem PC (h:te σ H D.rt):Rg te D σ H:=h
theorem PU (h:c σ H λb H1=>if b=true then t D σ H1 else u D σ H1):Rv c t u D σ H:=h
theorem Nd (h:te σ H λ_ H1=>D.nx σ H1):OD te D σ H:=h
theorem PD (h:ta σ H λvs H1=>∃v w,vs=[v,w]/\D.nx ((σ.set i (some v)).set j (some w)) H1):Ri i j ta D σ H:=h
theorem Ni 
  (h:to σ H λo H1=>ti σ H1 λi H2=>tget o i H2 λx H3=>te σ H3 λy H4=>tip x y H4 λz H5=>tset o i z H5 λH6=>D.nx σ H6):OE to ti te tget tip tset D σ H:=h
theorem PR (h:Q (.int (f i j)) H):ipI f (.int i) (.int j) H Q:=⟨i,j,rfl,rfl,h⟩
theorem PX {g:TG} (h:wi σ H λJ H1=>∃W:Nat->Nat->St->Hp->Prop,(∃m,W 0 m σ H1)/\∀i m σ H,W i m σ H →
  (J.stop i H/\D.nx σ H)\/(J.go i H/\∃N:St->Hp->Prop,(∀σ' H',N σ' H'->∃m',m' < m/\W (i+1) m' σ' H')/\∀x H',J.yld i H x H'->g x σ H' λσ2 H2=>tb { D with nx:=N,ct:=N,bk:=D.nx } σ2 H2)):Rx wi g tb D σ H:=h
variable {Q:VK} {QA:List V->Hp->Prop} {QB:Bool->Hp->Prop}
theorem Px (e:σ[i]?=some (some v)) (h:Q v H):Pj i σ H Q:=⟨v,e,h⟩
theorem S7 (h:Q v H):tC v σ H Q:=h
theorem RK (h:ta σ H λx H1=>tb σ H1 λy H2=>r x y H2 Q):Rl r ta tb σ H Q:=h
theorem RG (h:ta σ H λx H1=>r x H1 Q):SV r ta σ H Q:=h
theorem RN {g:Int->Int->V} (h:Q (g i j) H):Nl g (.int i) (.int j) H Q:=⟨i,j,rfl,rfl,h⟩
theorem fM {g:Int->Int->V} (hc:C i j) (h:Q (g i j) H):rI C g (.int i) (.int j) H Q:=⟨i,j,rfl,rfl,hc,h⟩
theorem S8 {g:Int->V} (h:Q (g i) H):rU g (.int i) H Q:=⟨i,rfl,h⟩
theorem P1 (h:Q (.bl (decide (i=j))) H):Tb (.int i) (.int j) H Q:=⟨rfl,by
 have e:decide (V.int i=V.int j)=decide (i=j):=by simp
 rw[e];exact h⟩
theorem PL (h:Q (.bl (!decide (i=j))) H):rNe (.int i) (.int j) H Q:=⟨rfl,by
 have e:decide (V.int i=V.int j)=decide (i=j):=by simp
 rw[e];exact h⟩
theorem PZ (h:Q (.bl (decide (i=j))) H):Tb (.str i) (.str j) H Q:=⟨rfl,by
 have e:decide (V.str i=V.str j)=decide (i=j):=by simp
 rw[e];exact h⟩
theorem MU (h:t σ H λx H'=>∃k,x=.bl k/\QB k H'):Ox t σ H QB:=h
theorem RH (h:t σ H λx H'=>∃k,x=.bl k/\QB k H'):tB t σ H QB:=h
theorem P6 (h:t σ H λc H1=>if c=true then u σ H1 QB else QB false H1):Ry t u σ H QB:=h
theorem RJ (h:t σ H λc H1=>if c=true then QB true H1 else u σ H1 QB):tOr t u σ H QB:=h
theorem PJ (h:t σ H λc H1=>QB (!c) H1):Rm t σ H QB:=h
theorem Nj (h:t σ H λx H1=>∃c,x=.bl c/\if c=true then u σ H1 Q else Q (.bl false) H1):OF t u σ H Q:=h
theorem PH (h:t σ H λx H1=>∃c,x=.bl c/\if c=true then Q (.bl true) H1 else u σ H1 Q):Rj t u σ H Q:=h
theorem MX (h:t σ H λx H1=>∃c,x=.bl c/\Q (.bl (!c)) H1):Oz t σ H Q:=h
theorem PV (h:c σ H λb H1=>if b=true then ta σ H1 Q else tb σ H1 Q):tIf c ta tb σ H Q:=h
theorem Pw (h:QB true H):Q7 σ H QB:=h
theorem PK (h:QA [] H):Jg σ H QA:=h
theorem Nf (h:ta σ H λx H1=>tr σ H1 λxs H2=>QA (x :: xs) H2):qB ta tr σ H QA:=h
theorem Nh (h:t σ H λvs H1=>sp vs H1 Q E):Ks sp [] E t σ H Q:=by
 have e:(λvs H1=>sp (vs++[]) H1 Q E)=λvs H1=>sp vs H1 Q E:=by funext vs H1;rw[iW]
 show t σ H λvs H1=>sp (vs++[]) H1 Q E
 rw[e];exact h
theorem RL (h:t σ H λvs H1=>r vs H1 Q):S6 r t σ H Q:=h
theorem PN {K:FG9} (hx:pZ K H p xs) (e:E6 xs i=some v) (h:Q v H):P8 K (.ref p) (.int i) H Q:=⟨p,xs,i,v,rfl,rfl,hx,e,h⟩
theorem cB {K:FG9} (hx:bE K H p xs) (e:E6 xs i=some v) (h:Q v H):P9 K (.ref p) (.int i) H Q:=⟨p,xs,i,v,rfl,rfl,hx,e,h⟩
theorem Nc {K:FG9} (hx:bE K H p xs) (e:E6 xs i=some v) (h:Q v H):OK K (.ref p) (.int i) H Q:=⟨p,xs,i,v,rfl,rfl,hx,e,h⟩
theorem fA (hx:H p=some (.lst xs)) (e:Ke xs.length i=some j) (ey:xs.set j v=ys) (h:QH (upd H p (.lst ys))):OJ (.ref p) (.int i) v H QH:=⟨p,xs,i,j,rfl,rfl,hx,e,by rw[ey];exact h⟩
theorem M9 (h:to σ H λo H1=>ti σ H1 λi H2=>t o i v H2 λH3=>QS σ H3):Sl to ti t v σ H QS:=h
theorem K4 (h:t v σ H λσ' H'=>u r σ' H' QS):OV t u (v :: r) σ H QS:=⟨v,r,rfl,h⟩
theorem Na (h:QS σ H):Sm [] σ H QS:=⟨rfl,h⟩
theorem M8 {K:FG9} (hx:pZ K H a xs) (hl:xs.length=n) (h:t xs σ H QS):Qy K n t (.ref a) σ H QS:=⟨a,xs,rfl,hx,hl,h⟩
theorem RI (h:te σ H λx H1=>tl σ H1 λl H2=>th σ H2 λu H3=>r x l u H3 Q):tSl r te tl th σ H Q:=h
theorem Jq (h:QO none H):G5 σ H QO:=h
theorem MW (h:t σ H λx H1=>∃i,x=.int i/\QO (some i) H1):Oy t σ H QO:=h
variable {R:It->Hp->Prop} {K:FG9}
theorem KZ (h:tl σ H λx H1=>∃a,x=.ref a/\(∃xs,bE K H1 a xs)/\R (O3 K a) H1):LD K tl σ H R:=h
theorem M7 (h:tl σ H λx H1=>∃a,x=.ref a/\(∃xs,pZ K H1 a xs)/\R (Q3 K a) H1):Sg K tl σ H R:=h
theorem KY (h:ta σ H λvs H1=>∃j:Int,vs=[.int j]/\-(2^62)<=j/\j < 2^62/\R (Fn 0 j.toNat) H1):OS ta σ H R:=h
theorem KW (h:ta σ H λvs H1=>∃i j:Int,vs=[.int i,.int j]/\(-(2^62)<=i/\i < 2^62/\-(2^62)<=j/\j < 2^62)/\R (Fn i (j - i).toNat) H1):OR ta σ H R:=h
theorem Ng {g:TG} (e:Ka k cap σ=σ₀) (h:wi σ H λJ H1=>rP J σ₀ g tf te Q H1):D2 wi k cap g tf te σ H Q:=by
 unfold D2;rw[e];exact h
theorem MT {g:TG} {NY:V->Hp->Prop} (h:g x σ H λσ2 H2=>tf σ2 H2 λb H3=>if b=true then te σ2 H3 NY else NN H3):qv σ g tf te x H NY NN:=h
theorem RM (h:to σ H λx H1=>S4 K T x H1/\t σ H1 λxs H2=>r x xs H2 Q):tBM K T r to t σ H Q:=h
def SD (Q:VK) (xs:List V) (H:Hp):Prop:=xs.length<=sizeLine/\∀p,H p=none->Q (.ref p) (upd H p (.tup xs))
def SE (Q:VK) (xs:List V) (H:Hp):Prop:=xs.length<=sizeLine/\∀p,H p=none->Q (.ref p) (upd H p (.lst xs))
theorem Py (h:t σ H (SD Q)):Q8 t σ H Q:=h
theorem PM (h:t σ H (SE Q)):Ro t σ H Q:=h
theorem il (h:Nat.ble n 1000=true):n<=sizeLine:=aQ (bx (Nat.le_of_ble_eq_true h))
theorem cK {xs:List V} (h:∀p H',aI H H'->H' p=some (.tup xs)->Q (.ref p) H') (hl:Nat.ble xs.length 1000=true:=by rfl):SD Q xs H :=
 ⟨il hl,λp hp=>h p _ (aI.new hp) aH⟩
theorem dB {xs:List V} (h:∀p H',aI H H'->H p=none->H' p=some (.lst xs)->Q (.ref p) H') (hl:Nat.ble xs.length 1000=true:=by rfl):SE Q xs H :=
 ⟨il hl,λp hp=>h p _ (aI.new hp) hp aH⟩
theorem Se {A B:Prop} (h:B):if (!true)=true then A else B:=NQ h
theorem Sf {A B:Prop} (h:A):if (!false)=true then A else B:=Sd h
def WB (tb:TS) (D:Ends) (Pv:St->Hp->Prop) (μ:St->Hp->Nat) (n:Nat) (σ:St) (H:Hp):Prop:=∃N:St->Hp->Prop,(∀σ' H',N σ' H'->∃m',m' < n/\(m'=μ σ' H'/\Pv σ' H'))/\tb { D with nx:=N,ct:=N,bk:=D.nx } σ H
theorem OI (h:tb { D with nx:=λσ' H'=>Pv σ' H'/\μ σ' H' < n,ct:=λσ' H'=>Pv σ' H'/\μ σ' H' < n,bk:=D.nx } σ H):WB tb D Pv μ n σ H :=
 ⟨_,λσ' H' ⟨p,l⟩=>⟨_,l,rfl,p⟩,h⟩
theorem Ct (Pv:St->Hp->Prop) (μ:St->Hp->Nat) (h0:Pv σ H) (hs:∀σ H,Pv σ H->c σ H λb H1=>if b=true then WB tb D Pv μ (μ σ H) σ H1 else D.nx σ H1):Kp c tb D σ H:=by
 refine ⟨λm σ H=>m=μ σ H/\Pv σ H,⟨_,rfl,h0⟩,?_⟩;rintro m σ H ⟨rfl,p⟩;exact hs σ H p
end
def jx (H:Hp) (p:Addr):Prop:=∃(q:Addr) (a b c:Int) (cs:List Int),H p=some (.lst [.int a,.int b,.int c,.ref q])/\H q=some (.lst (cs.map V.int))/\0<=a/\0<=c/\c<=(cs.length:Int)/\∀x∈cs,(0:Int)<=x
theorem JZ {H:Hp} {cs:List Int} (hp:H p=some (.lst [.int a,.int b,.int c,.ref q])) (hq:H q=some (.lst (cs.map V.int))):q≠p:=λe=>by
 rw[e,hp] at hq;have h:=HO.lst.inj (bU hq);cases cs with
 | nil=>cases h
 | cons x1 cs=>cases cs with
  | nil=>cases h
  | cons x2 cs=>cases cs with
   | nil=>cases h
   | cons x3 cs=>cases cs with
    | nil=>cases h
    | cons x4 cs=>simp at h
theorem jx.same (h:jx H p) (e:aI H H'):jx H' p:=by obtain ⟨q,a,b,c,cs,h1,h2,r⟩:=h;exact ⟨q,a,b,c,cs,e _ _ h1,e _ _ h2,r⟩
theorem cZ.tup {H H':Hp} {p r:Addr} {xs:List V} (u:cZ p H H') (B:jx H p) (h:H r=some (.tup xs)):H' r=some (.tup xs):=by
 obtain ⟨q,a,b,c,cs,h1,_⟩:=B;exact u.1 r _ h λe=>by rw[e,h1] at h;cases h
theorem cZ.other (u:cZ p H H') (n:r≠p) (h:H r=some o):H' r=some o:=u.1 r _ h n
theorem jx.inner (h:jx H p):∃q,Inner H p q/\∃xs,H q=some (.lst xs):=by obtain ⟨q,a,b,c,cs,h1,h2,_⟩:=h;exact ⟨q,⟨a,b,c,h1⟩,_,h2⟩
theorem jx.upd (h:jx H p) (hi:Inner H p q) (n1:r≠p) (n2:r≠q):jx (L2.upd H r o) p:=by
 obtain ⟨q',a,b,c,cs,h1,h2,z⟩:=h;have e:q'=q:=Inner.inj ⟨a,b,c,h1⟩ hi;subst e;exact ⟨q',a,b,c,cs,by rw[aU n1.symm];exact h1,by rw[aU n2.symm];exact h2,z⟩
theorem Inner.upd (hi:Inner H p q) (n1:r≠p):Inner (L2.upd H r o) p q:=by obtain ⟨a,b,c,h⟩:=hi;exact ⟨a,b,c,by rw[aU n1.symm];exact h⟩
def MO:Sp:=λvs H Q _=>∃p n,vs=[.ref p,.int n]/\jx H p/\0 < n/\n < 2^64/\∀v H',0<=v->v < n->jx H' p->cZ p H H'->Q (.int v) H'
inductive KA (K:FG9) (vs:List V) (H:Hp) (Q:VK) (E9:XK):Prop
 | mk (a:Addr) (ns:List Int):vs=[.ref a]->bE K H a (ns.map V.int)->ns.length<=63->(∀p H',H p=none->jx H' p->aI H H'->Q (.ref p) H')->KA K vs H Q E9
inductive yE (K:FG9) (vs:List V) (H:Hp) (Q:VK) (E9:XK):Prop
 | mk (a:Addr) (ns:List Int):vs=[.ref a]->bE K H a (ns.map V.int)->ns.length<=63->(∀H',Q (.bl true) H')->yE K vs H Q E9
def Pt:Sp:=λvs H Q _=>∃t b,vs=[.int t,.int b]/\0 < b/\Sz 449950 b/\∀r H',aI H H'->H' r=some (.tup [.int (lo t b),.int (hi t b)])->Q (.ref r) H'
def RA:Sp:=λvs H Q _=>∃a b,vs=[.int a,.int b]/\Q (.int (g a b)) H
def Jk:Sp:=λvs H Q _=>∃t b,vs=[.int t,.int b]/\b≠0/\Sz 449950 b/\∀r H',aI H H'->H' r=some (.tup [.int (lo (if b < 0 then -t else t) (if b < 0 then -b else b)),.int (hi (if b < 0 then -t else t) (if b < 0 then -b else b))])->Q (.ref r) H'
def OX (a b c d:Int):Int:=a*d+c*b
def LU (a b c d:Int):Int:=a*d - c*b
def LS (a _b c _d:Int):Int:=a*c
def HH (K:FG9) (f:Int->Int->Int->Int->Int):Sp:=λvs H Q _=>∃p q a b c d,vs=[.ref p,.ref q]/\pZ K H p [.int a,.int b]/\pZ K H q [.int c,.int d]/\0 < b/\0 < d/\Sz 200000 a/\Sz 200000 b/\Sz 200000 c/\Sz 200000 d /\
 ∀r H',aI H H'->H' r=some (.tup [.int (lo (f a b c d) (b*d)),.int (hi (f a b c d) (b*d))])->Q (.ref r) H'
theorem b9 {α β:Type} {F:α->β->Prop}:∀{l1 l1':List α} {l2 l2':List β},Paired F l1 l2->Paired F l1' l2'->Paired F (l1++l1') (l2++l2')
 | _,_,_,_,.nil,h=>h
 | _,_,_,_,.cons r t,h=>.cons r (b9 t h)
theorem cX {h:Heap} (ha:h.get? a=some o) (hb:h.get? b=some u) (hc:o.cls≠u.cls):a≠b:=λe=>by
 subst e;rw[ha] at hb;cases hb;exact hc rfl
theorem kv (h:a≠b):Value.type a≠Value.type b:=λe=>h (by injection e)
theorem Be {z TI TO i1 i2 l1 l2:Addr} (hz:IsZip h z TI TO f0) (hTI:IsPair h TI (.ref i1) (.ref i2)) (hTO:IsPair h TO a b)
  (h1:h.IsListIter i1 l1 k1) (h2:h.IsListIter i2 l2 k2) (hl1:h.IsList l1 xs) (hl2:h.IsList l2 ys) (hT:TI≠TO) (hi:i1≠i2):ZipApart z TI TO i1 i2 l1 l2:=by
 obtain ⟨o1,g1,c1,_⟩:=h1;obtain ⟨o2,g2,c2,_⟩:=h2;obtain ⟨p1,q1,d1,_⟩:=hl1;obtain ⟨p2,q2,d2,_⟩:=hl2;refine ⟨cX hTI hz ?_,cX hTO hz ?_,cX g1 hz ?_,cX g2 hz ?_,hT,cX hTI g1 ?_,cX hTI g2 ?_,cX hTO g1 ?_,cX hTO g2 ?_,hi,cX q1 hz ?_,cX q1 hTO ?_,cX q1 g1 ?_,cX q1 g2 ?_,cX q2 hz ?_,cX q2 hTO ?_,cX q2 g1 ?_,cX q2 g2 ?_⟩
 all_goals first
  | (rw[d1];first | (rw[c1];exact kv (by decide)) | (rw[c2];exact kv (by decide)) | exact kv (by decide))
  | (rw[d2];first | (rw[c1];exact kv (by decide)) | (rw[c2];exact kv (by decide)) | exact kv (by decide))
  | (rw[c1];exact kv (by decide))
  | (rw[c2];exact kv (by decide))
  | exact kv (by decide)
def QU (K : FG9) (l1 l2 : Addr) : It :=
  ⟨λi H => ∃ xs ys x y, bE K H l1 xs /\ bE K H l2 ys /\ xs[i]? = some x /\ ys[i]? = some y,
   λi H v H' => ∃ p x y, v = .ref p /\ H p = none /\ H' = upd H p (.tup [x, y]) /\ (∀ xs, bE K H l1 xs → xs[i]? = some x) /\ ∀ ys, bE K H l2 ys → ys[i]? = some y,
   λi H => ∃ xs ys, bE K H l1 xs /\ bE K H l2 ys /\ (xs.length ≤ i \/ ys.length ≤ i)⟩
def tnZ (z TI TO i1 i2 l1 l2:Addr) (i:Nat) (h:Heap):Prop:=IsZip h z TI TO .none/\IsPair h TI (.ref i1) (.ref i2)/\(∃a b,IsPair h TO a b)/\h.IsListIter i1 l1 i/\h.IsListIter i2 l2 i
theorem Km {P:Program} {w:World} {K:FG9} {elts:List Expr} {kk:Nat} {tpos:Pos} (z TI TO i1 i2 l1 l2:Addr) (hT:TI≠TO) (hi:i1≠i2):Turn P w K (.Tuple elts kk tpos) (QU K l1 l2) [z,TI,TO,i1,i2] z (tnZ z TI TO i1 i2 l1 l2) where
 mem:=by simp
 obj:=λi h st b hb=>by
  obtain ⟨hz,hTI,⟨a,c,hTO⟩,⟨o1,g1,c1,d1⟩,⟨o2,g2,c2,d2⟩⟩:=st;simp only[ay,aG,or_false] at hb;rcases hb with rfl | rfl | rfl | rfl | rfl
  ·exact ⟨_,hz,λv q=>nomatch q⟩
  ·exact ⟨_,hTI,λv q=>nomatch q⟩
  ·exact ⟨_,hTO,λv q=>nomatch q⟩
  ·exact ⟨o1,g1,λv q=>by rw[d1] at q;cases q⟩
  ·exact ⟨o2,g2,λv q=>by rw[d2] at q;cases q⟩
 keep:=λi h h' st k=>by
  obtain ⟨hz,hTI,⟨a,c,hTO⟩,h1,h2⟩:=st;exact ⟨k z (by simp) _ hz,k TI (by simp) _ hTI,⟨a,c,k TO (by simp) _ hTO⟩,h1.at λo e=>k i1 (by simp) o e,h2.at λo e=>k i2 (by simp) o e⟩
 item:=by
  intro X hP hw hK hc i pins s σ H E I hf st hg;subst hP hw hK;obtain ⟨hz,hTI,⟨a,c,hTO⟩,h1,h2⟩:=st;obtain ⟨xs,ys,x,y,qx,qy,ex,ey⟩:=hg;obtain ⟨us,rx,px,_⟩:=I.list qx;obtain ⟨ws,ry,py,_⟩:=I.list qy;obtain ⟨u,eu,ru⟩:=rx.get ex;obtain ⟨v,ev,rv⟩:=ry.get ey;have D:=Be hz hTI hTO h1 h2 px.isList py.isList hT hi;refine wpAny_pyNext_zip_item D hz hTI hTO h1 h2 px.isList py.isList (x:=u) (y:=v) (by simpa using eu) (by simpa using ev) λh' a1 a2 a3 a4 a5 a6 hk=>?_
  refine ⟨_,rfl,wpAny_letOwnedTupleGo_zip a1 λh'' hz'' hs=>?_⟩;have hT0:H s.heap.objs.size=none:=I.hok.fresh (aj _);have zne:s.heap.objs.size≠z:=mO (Heap.lt_size hz)
  have up:∀b o,b∉[z,TO,i1,i2]->s.heap.get? b=some o->h''.get? b=some o:=λb o hb e=>by
   simp only[ay,aG,or_false,not_or] at hb;exact (hs.2 b hb.1).trans (hk b o hb.1 hb.2.1 hb.2.2.1 hb.2.2.2 e)
  have fx:∀b∈[z,TO,i1,i2],jv X pins H b:=λb hb=>hf b (by
   simp only[ay,aG,or_false] at hb ⊢;rcases hb with rfl | rfl | rfl | rfl <;> simp)
  have nx:∀b o,H b=some o->b∉[z,TO,i1,i2]:=λb o e hb=>by
   have:=(fx b hb).1;rw[this] at e;cases e
  have nT:∀{b:Addr} {o:HO},H b=some o->b≠s.heap.objs.size:=λe q=>by rw[q,hT0] at e;cases e
  have tup:h''.get? s.heap.objs.size=some { cls:=.type "tuple",data:=.seq #[u,v] }:=(hs.2 _ zne).trans a5
  have I2:Inv X pins σ (upd H s.heap.objs.size (.tup [x,y])) { s with heap:=h'' }:=by
   refine I.step (g':=s.gens) (d':=s.drawn) (t':=s.toks) (ch:=[z,TO,i1,i2]) (λb hb=>?_) (λb o _ _ hb e _=>up b o hb e) (λb o _ _ hb e _=>⟨o.slots,up b o hb e⟩) (λb o hb e n=>?_)
    (λb o hb e=>⟨o,up b o hb e⟩) (λb q e=>by rw[aU (nT e)];exact e) (λb o q e=>by rw[aU (nT e)];exact e) (λb q e=>⟨#[],by rw[aU (nT e),e];simp⟩) (λm hm=>?_) (λb o e=>?_) I.bare
   ·obtain ⟨_,f1,_,f3,f4,f5⟩:=fx b hb;exact ⟨f3,f1,f4,f5⟩
   ·rw[aU (bN (Heap.lt_size e))];exact n
   ·obtain ⟨o,es,ep,ho,r⟩:=hm;exact ⟨o,es,ep,up _ o (λz=>(fx _ z).2.1 rfl) ho,r⟩
   ·by_cases hb:b=s.heap.objs.size
    ·subst hb;rw[aH] at e;cases e;exact ⟨il rfl,[u,v],.cons ru (.cons rv .nil),⟨_,tup,rfl,_,rfl⟩⟩
    ·rw[aU hb] at e;refine (I.hok b o e).stay (λc v' hc q=>up c v' ?_ q) (λc q=>by rw[aU (nT q)];exact q) λc xs q=>by rw[aU (nT q)];exact q
     rcases hc with rfl | hc
     ·exact nx _ _ e
     ·exact nx _ _ hc
  refine ⟨.ref s.heap.objs.size,_,I2,rfl,⟨_,x,y,rfl,hT0,rfl,λxs' q=>by rw[I.list_inj q qx];exact ex,λys' q=>by rw[I.list_inj q qy];exact ey⟩,?_,λb hb=>?_⟩
  ·refine ⟨hz'',(hs.2 _ D.TIz).trans (hk _ _ D.TIz D.TITO D.TIi1 D.TIi2 hTI),⟨_,_,(hs.2 _ D.TOz).trans a2⟩,a3.at λo e=>(hs.2 _ D.i1z).trans e,a4.at λo e=>(hs.2 _ D.i2z).trans e⟩
  ·obtain ⟨o,e,_⟩:∃o,s.heap.get? b=some o/\True:=by
    obtain ⟨o1,g1,_⟩:=h1;obtain ⟨o2,g2,_⟩:=h2;simp only[ay,aG,or_false] at hb;rcases hb with rfl | rfl | rfl | rfl | rfl
    ·exact ⟨_,hz,trivial⟩
    ·exact ⟨_,hTI,trivial⟩
    ·exact ⟨_,hTO,trivial⟩
    ·exact ⟨_,g1,trivial⟩
    ·exact ⟨_,g2,trivial⟩
   rw[aU (bN (Heap.lt_size e))];exact (hf b hb).1
 done:=by
  intro X hP hw hK hc i pins s σ H E I hf st hg;subst hP hw hK;obtain ⟨hz,hTI,⟨a,c,hTO⟩,h1,h2⟩:=st;obtain ⟨xs,ys,qx,qy,hend⟩:=hg;obtain ⟨us,rx,px,_⟩:=I.list qx;obtain ⟨ws,ry,py,_⟩:=I.list qy;have lx:=rx.length;have ly:=ry.length;have D:=Be hz hTI hTO h1 h2 px.isList py.isList hT hi
  refine wpAny_pyNext_zip_end (I.ok.hd hc) D hz hTI hTO h1 h2 px.isList py.isList (by
   rcases hend with q | q
   ·exact .inl (by simp;lia)
   ·exact .inr (by simp;lia)) λh' hk=>⟨rfl,?_⟩
  have up:∀b o,b∉[z,TO,i1,i2]->s.heap.get? b=some o->h'.get? b=some o:=λb o hb e=>by
   simp only[ay,aG,or_false,not_or] at hb;exact hk b o hb.1 hb.2.1 hb.2.2.1 hb.2.2.2 e
  have fx:∀b∈[z,TO,i1,i2],jv X pins H b:=λb hb=>hf b (by
   simp only[ay,aG,or_false] at hb ⊢;rcases hb with rfl | rfl | rfl | rfl <;> simp)
  have nx:∀b o,H b=some o->b∉[z,TO,i1,i2]:=λb o e hb=>by
   have:=(fx b hb).1;rw[this] at e;cases e
  refine I.step (g':=s.gens) (d':=s.drawn) (t':=s.toks) (ch:=[z,TO,i1,i2]) (λb hb=>?_) (λb o _ _ hb e _=>up b o hb e) (λb o _ _ hb e _=>⟨o.slots,up b o hb e⟩) (λb o hb e n=>n)
   (λb o hb e=>⟨o,up b o hb e⟩) (λb q e=>e) (λb o q e=>e) (λb q e=>⟨#[],by rw[e];simp⟩) (λm hm=>?_) (λb o e=>?_) I.bare
  ·obtain ⟨_,f1,_,f3,f4,f5⟩:=fx b hb;exact ⟨f3,f1,f4,f5⟩
  ·obtain ⟨o,es,ep,ho,r⟩:=hm;exact ⟨o,es,ep,up _ o (λz=>(fx _ z).2.1 rfl) ho,r⟩
  ·refine (I.hok b o e).stay (λc v' hc q=>up c v' ?_ q) (λc q=>q) λc xs q=>q
   rcases hc with rfl | hc
   ·exact nx _ _ e
   ·exact nx _ _ hc
 self:=λ_ _ _ _ _ st h=>wpAny_pyIter_zip st.1 h
section
variable {X:Cx}
def Qt (K:FG9) (ta:TA):TI:=λσ H R=>ta σ H λvs H1=>∃l1 l2,vs=[.ref l1,.ref l2]/\(∃xs,bE K H1 l1 xs)/\(∃ys,bE K H1 l2 ys)/\R (QU K l1 l2) H1
theorem mC {a b:Expr} {ta:TA} {p pos tpos:Pos} {elts:List Expr} {kk:Nat} (hg:Gl X "zip") (hm:X.mg "zip"=none) (ha:PA X [a,b] ta) (hs:starEach [a,b] X.env=[(false,eval a X.env),(false,eval b X.env)]:=by rfl) (hs2:starEach [b] X.env=[(false,eval b X.env)]:=by rfl) :
  PI X (.Tuple elts kk tpos) (.Call (.Name "zip" p) [a,b] [] pos) (Qt X.K ta):=by
 intro pins s σ H R I h;refine Call_ (jR I hg hm boot_zip (PyProof.Rows.callWith_type1 (fz (ha pos pins s σ H _ I h) λus s1 ⟨vs,H1,I1,r1,q1⟩=>?_) (by rw[hs,hs2]) (by rw[hs2];rfl)));obtain ⟨l1,l2,e,⟨xs,qx⟩,⟨ys,qy⟩,q⟩:=q1;subst e;obtain ⟨u,v,rfl,ru,rv⟩:=vals2 r1;cases ru;cases rv;obtain ⟨us,rx,px,_⟩:=I1.list qx;obtain ⟨ws,ry,py,_⟩:=I1.list qy;refine call_zip_2 px.isList py.isList λh' a1 a2 a3 a4 a5 a6 hk=>wpAny_pyIter_zip a1 ?_
 have I2:Inv X pins σ H1 { s1 with heap:=h' }:=I1.kept (t':=s1.toks) hk;refine ⟨_,[s1.heap.objs.size+4,s1.heap.objs.size+2,s1.heap.objs.size+3,s1.heap.objs.size,s1.heap.objs.size+1],_,_,H1,rfl,I2,Km (s1.heap.objs.size+4) (s1.heap.objs.size+2) (s1.heap.objs.size+3) s1.heap.objs.size (s1.heap.objs.size+1) l1 l2 (bN (fL _)) (bN (fL _)),⟨a1,a2,⟨_,_,a3⟩,a4,a5⟩,λb hb=>?_,q⟩
 have hb':s1.heap.objs.size<=b:=by
  simp only[ay,aG,or_false] at hb;rcases hb with rfl | rfl | rfl | rfl | rfl <;> first | exact ot _ _ | exact aj _
 exact I1.fpOk hb' (I1.hok.fresh hb')
theorem Ad (hc:X.calm=true):oj X (.builtin "all") (λxs H Q=>∃(p:Addr) (bs:List Bool),xs=[.ref p]/\bE X.K H p (bs.map V.bl)/\Q (.bl (bs.all id)) H):=by
 intro pins s σ H xs us Q I r h;obtain ⟨p,bs,rfl,hp,q⟩:=h;obtain ⟨u,rfl,ru⟩:=vals1 r;cases ru;obtain ⟨vs,rv,pl,hz⟩:=I.list hp
 have hb:PyProof.Rows.LSm.BoolsAre vs bs:=by
  clear q hp pl hz
  induction bs generalizing vs with
  | nil=>cases rv;exact .nil
  | cons b bs ih =>
   rw[iX] at rv;cases rv with
   | cons r1 r2=>cases r1;exact .cons b (ih _ r2)
 have hlt:p < s.heap.objs.size:=by obtain ⟨_,e,_⟩:=pl.isList;exact Heap.lt_size e
 refine call_all_walk (wpAny_pyIter_list pl.isList ?_)
 refine ⟨s.heap.objs.size,[s.heap.objs.size,p],[s.heap.objs.size],vs.toArray.size,_,_,λi=>(bs[i]?).getD true,rfl,Walks.list (A:=X.A.in1) (I.ok.hd hc) _ p (bN hlt) vs.toArray,
  ⟨⟨_,Heap.get?_push_size _ rfl,rfl,rfl⟩,pl.isList.push _⟩,λi v s' Q' E' hP hQ=>?_,λh' tk hk=>?_⟩
 ·obtain ⟨b,e,rfl⟩:=hb.get i v (by simpa using hP);simp only[e,ib] at hQ;exact wpAny_truthy_bool hQ
 ·have e:((List.range vs.toArray.size).all λi=>(bs[i]?).getD true)=bs.all id:=by
   rw[aZ,hb.length];exact PyProof.Rows.LSm.range_all bs
  rw[e];exact ⟨.bl _,H,I.kept (t':=tk) (PyProof.Rows.LSm.kept_iter hk),rfl,q⟩
theorem E4 (hc:X.calm=true):oj X (.builtin "sum") (λxs H Q=>∃(p:Addr) (ns:List Int),xs=[.ref p]/\bE X.K H p (ns.map V.int)/\Q (.int ns.sum) H):=by
 intro pins s σ H xs us Q I r h;obtain ⟨p,ns,rfl,hp,q⟩:=h;obtain ⟨u,rfl,ru⟩:=vals1 r;cases ru;obtain ⟨vs,rv,pl,_⟩:=I.list hp;have hi:IntsAre vs ns:=intsAre_of rv;obtain ⟨xs,hx⟩:=hi.allInts.items;have hl':s.heap.IsList p (intItems xs):=hx ▸ pl.isList;refine sum_intListG (I.ok.hd hc) hl' λh' tk t' hk=>?_
 have e1:ns=xs.toList.map (·.1):=by
  rw[<- nums_intItems,<- hx];exact (show numsOf vs.toArray.toList=ns from hi.numsOf).symm
 have e2:preSum (numAt xs) xs.size=ns.sum:=by
  rw[preSum_eq,aE (by simp),e1]
 rw[e2];exact ⟨.int _,H,I.kept (t':=tk) hk,⟨_,rfl⟩,q⟩
end
section
variable {K:FG9} {l1 l2:Addr} {xs ws:List V} {g:TG} {tf:TT} {te:TE} {Q:VK} {σ₀:St} {H:Hp}
theorem lV (Pv:Nat->List V->Hp->Prop) (hz:xs.length<=sizeLine) (hw:ws.length=xs.length) (h0:Pv 0 [] H) (hl:∀i ys H,i<=xs.length->Pv i ys H->bE K H l1 xs/\bE K H l2 ws)
  (hs:∀i x y ys H p,xs[i]?=some x->ws[i]?=some y->ys.length<=i->Pv i ys H->H p=none->qv σ₀ g tf te (.ref p) (upd H p (.tup [x,y])) (λy H'=>Pv (i+1) (ys++[y]) H') (λH'=>Pv (i+1) ys H'))
  (hd:∀ys H,ys.length<=xs.length->Pv xs.length ys H->∀p,H p=none->Q (.ref p) (upd H p (.lst ys))):rP (QU K l1 l2) σ₀ g tf te Q H:=by
 refine ⟨λi m ys H=>m=xs.length - i/\i<=xs.length/\ys.length<=i/\Pv i ys H,⟨xs.length,by simp,aW _,aW _,h0⟩,?_⟩;rintro i m ys H ⟨rfl,hi,hy,p⟩;obtain ⟨q1,q2⟩:=hl i ys H hi p;by_cases hlt:i < xs.length
 ·refine .inr ⟨⟨xs,ws,xs[i],ws[i]'(by lia),q1,q2,by simp [hlt],by simp⟩,by lia,λy H'=>Pv (i+1) (ys++[y]) H',λH'=>Pv (i+1) ys H',λy H' p'=>⟨xs.length - (i+1),by lia,rfl,hlt,by rw[au,aV];lia,p'⟩,λH' p'=>⟨xs.length - (i+1),by lia,rfl,hlt,by lia,p'⟩,λx H' y=>?_⟩;obtain ⟨r,x',y',rfl,hr,rfl,e1,e2⟩:=y;exact hs i x' y' ys _ r (e1 xs q1) (e2 ws q2) hy p hr
 ·have e:i=xs.length:=by lia
  subst e;exact .inl ⟨⟨xs,ws,q1,q2,.inl (aj _)⟩,by lia,hd ys H hy p⟩
theorem NU {tb:TS} {D:Ends} (Pv:Nat->St->Hp->Prop) (hw:ws.length=xs.length) (h0:Pv 0 σ H) (hl:∀i σ H,i<=xs.length->Pv i σ H->bE K H l1 xs/\bE K H l2 ws)
  (hs:∀i x y σ H p,xs[i]?=some x->ws[i]?=some y->Pv i σ H->H p=none->g (.ref p) σ (upd H p (.tup [x,y])) λσ2 H2=>tb { D with nx:=Pv (i+1),ct:=Pv (i+1),bk:=D.nx } σ2 H2) (hd:∀σ H,Pv xs.length σ H->D.nx σ H) :
  ∃W:Nat->Nat->St->Hp->Prop,(∃m,W 0 m σ H)/\∀i m σ H,W i m σ H →
   ((QU K l1 l2).stop i H/\D.nx σ H)\/((QU K l1 l2).go i H/\∃N:St->Hp->Prop,(∀σ' H',N σ' H'->∃m',m' < m/\W (i+1) m' σ' H')/\∀x H',(QU K l1 l2).yld i H x H'->g x σ H' λσ2 H2=>tb { D with nx:=N,ct:=N,bk:=D.nx } σ2 H2):=by
 refine ⟨λi m σ H=>m=xs.length - i/\i<=xs.length/\Pv i σ H,⟨xs.length,by simp,aW _,h0⟩,?_⟩;rintro i m σ H ⟨rfl,hi,p⟩;obtain ⟨q1,q2⟩:=hl i σ H hi p;by_cases hlt:i < xs.length
 ·refine .inr ⟨⟨xs,ws,xs[i],ws[i]'(by lia),q1,q2,by simp [hlt],by simp⟩,Pv (i+1),λσ' H' p'=>⟨xs.length - (i+1),by lia,rfl,hlt,p'⟩,λx H' y=>?_⟩;obtain ⟨r,x',y',rfl,hr,rfl,e1,e2⟩:=y;exact hs i x' y' σ _ r (e1 xs q1) (e2 ws q2) p hr
 ·have e:i=xs.length:=by lia
  subst e;exact .inl ⟨⟨xs,ws,q1,q2,.inl (aj _)⟩,hd σ H p⟩
end
section
variable {X:Cx}
theorem jd (K:FG9) (n:Nat) {es:List Expr} {k:Nat} {pos:Pos} {t:Mz} (h:Sw X es t) (hK:X.K=K:=by rfl) (hc:X.calm=true:=by rfl)
  (hn:(assignEach es X.env).length=n:=by rfl) (hst:(assignEach es X.env).findIdx? (·.1)=none:=by rfl):PG X (.Tuple es k pos) (Qy K n t):=by subst hK;exact vZ hc h hn hst
theorem Dk (K:FG9) (hK:X.K=K):SH X (P8 K):=by subst hK;exact cw
theorem rg (K:FG9) (hK:X.K=K):SH X (P9 K):=by subst hK;exact bM
theorem ND (K:FG9) (hK:X.K=K) (hu:X.A.units+50 < cLine):xP X (compareOp .NotEq) (RP K):=by subst hK;exact C2 hu
theorem Ey (K:FG9) {tg l:Expr} {tl:TE} (hl:PE X l tl) (hK:X.K=K:=by rfl):PI X tg l (LD K tl):=by subst hK;exact cL hl
theorem KC (K:FG9) (hK:X.K=K):Ts X (P7 K):=by subst hK;exact oy
end
theorem d9 {X:Cx} {e e':Expr} {es:List Expr} {te:TE} {t:TA} (h:e=e') (ha:PE X e' te) (hr:PA X es t) (hs:∀l,starEach (e' :: l) X.env=(false,eval e' X.env) :: starEach l X.env:=by intro _;rfl):PA X (e :: es) (qB te t):=by subst h;exact ae ha hr (hs _)
section
variable {σ:St} {H:Hp} {D:Ends} {Q:VK}
theorem kM (hl:H l=some (.lst xs)) (hz:xs.length < sizeLine) (h:Q .non (upd H l (.lst (xs++[y])))):HJ (.ref l) [y] H Q:=⟨l,xs,y,rfl,rfl,hl,hz,h⟩
theorem M6 {K:FG9} (h:ta σ H λvs H1=>∃l1 l2,vs=[.ref l1,.ref l2]/\(∃xs,bE K H1 l1 xs)/\(∃ys,bE K H1 l2 ys)/\R (QU K l1 l2) H1):Qt K ta σ H R:=h
theorem oP (h1:H l=some (.lst xs)) (h2:H b=some (.lst zs)) (hz:xs.length+zs.length<=sizeLine) (h:∀p H',aI H H'->H p=none->H' p=some (.lst (xs++zs))->Q (.ref p) H'):RQ (.ref l) (.ref b) H Q :=
 ⟨l,b,xs,zs,rfl,rfl,h1,h2,hz,λp hp=>h p _ (aI.new hp) hp aH⟩
theorem vV {K:FG9} {lo hi:Option Int} (h1:bE K H a xs) (h:∀p H',aI H H'->H p=none->H' p=some (.lst (nW xs lo hi))->Q (.ref p) H'):P7 K (.ref a) lo hi H Q :=
 ⟨a,xs,rfl,h1,λp hp=>h p _ (aI.new hp) hp aH⟩
theorem rH {xs:List α} {i:Int} (h0:0<=i) (h1:i < xs.length):∃v,E6 xs i=some v/\v∈xs/\xs[i.toNat]?=some v:=by
 have hj:i.toNat < xs.length:=by lia
 refine ⟨xs[i.toNat],?_,aB hj,by simp [hj]⟩;have:=ff (xs:=xs) (j:=i.toNat) (v:=xs[i.toNat]) (by simp [hj]);rwa [Int.toNat_of_nonneg h0] at this
end
theorem eI {α β:Type} {F:α->β->Prop}:∀{l1:List α} {l2:List β} {y:β},Paired F l1 l2->y∈l2->∃x∈l1,F x y
 | _,_,_,.nil,h=>nomatch h
 | _,_,_,.cons r t,h=>by
  rcases ay.mp h with rfl | h
  ·exact ⟨_,cJ,r⟩
  ·obtain ⟨x,hx,q⟩:=eI t h;exact ⟨x,bP _ hx,q⟩
theorem bK {F:α->β->Prop} {l1:List α} {l2:List β} {i:Nat} {y:β} (h:Paired F l1 l2) (e:l2[i]?=some y):∃x,l1[i]?=some x/\F x y:=by
 have hl:=h.length;have hi:i < l2.length:=(aL.mp e).1;refine ⟨l1[i]'(by lia),by simp,?_⟩;have:=jL h (i:=i) (by lia) hi;have e2:l2[i]=y:=(aL.mp e).2;rwa [e2] at this
def xQ (n:Int×Int):Prop:=0 < n.2/\Int.gcd n.1 n.2=1/\Sz 400000 n.1/\Sz 400000 n.2
theorem take_snoc {α:Type} {l:List α} {v:α} (h:l[i]?=some v):l.take (i+1)=l.take i++[v]:=by rw[List.take_add_one,h];rfl
theorem aI.after (s:aI H H') (h:H r=Option.none):aI H (upd H' r o):=λb u e=>by rw[aU (fq e h)];exact s b u e
theorem cZ.after (s:cZ b H H') (h:H r=Option.none):cZ b H (upd H' r o):=⟨λc u e n=>by rw[aU (fq e h)];exact s.1 c u e n,λq hi=>(s.2 q hi).upd λz=>by obtain ⟨_,_,_,e⟩:=hi;rw[<- z,h] at e;cases e⟩
theorem cZ.same (s:cZ b H H') (e:aI H' H''):cZ b H H'':=s.trans e.upto
theorem IL {α:Type} {Pr:α->Prop} {l:List α} {a:α} (h:∀n∈l,Pr n) (ha:Pr a):∀n∈l++[a],Pr n:=λn hn=>by
 rcases aD.mp hn with hn | hn
 ·exact h n hn
 ·have e:n=a:=by simpa using hn
  rw[e];exact ha
abbrev Ar (h:Heap) (z TI TO:Addr) (f0 f1:Value):Prop:=h.get? z=some { cls:=.type "zip",dict:=none,data:=.fields #[f0,f1,.bool false,.ref TI,.ref TO],slots:=#[] }
section
variable {prog:Program} {w:World} {A:Around} {E:Value->Shared->Prop} {s:Shared}
theorem GD (e:s.heap.get? a=some o) (h:Q (some o) s):wpAny (model prog w) A (loadIfAlive a) Q E s:=by
 intro Γ p hp;show Sem.wp _ _ (.loadIfAlive a .pure) _ _ _ _
 simp only[Sem.wp_loadIfAlive,e];exact wpAny_pure h Γ p hp
theorem zb {z TI TO T:Addr} (zr:Ar s.heap z TI TO (rawInt T) (.bool b1)) (al:s.heap.get? T=some o)
  (h:∀h',Ar h' z TI TO (rawInt T) (.bool true)->Heap.SameBut z s.heap h'->Q false { s with heap:=h' }):wpAny (model prog w) A (Builtin.SmallTypes.ownedTupleIsFree (.ref z)) Q E s:=by
 unfold Builtin.SmallTypes.ownedTupleIsFree;refine wpAny_bind (wpAny_field zr rfl (x:=rawInt T) rfl ?_);refine wpAny_bind (GD (a:=T) al ?_);refine wpAny_bind (wpAny_field zr rfl (x:=.bool b1) rfl ?_);cases b1 with
 | true=>exact wpAny_pure (h _ zr (.refl ..))
 | false=>exact wpAny_bind (wpAny_setField_rec zr (by simp) λh' zr' sb=>wpAny_pure (h h' zr' sb))
theorem JI {z TI TO T i1 i2 l1 l2:Addr} {Q:Value->Shared->Prop} (D:ZipApart z TI TO i1 i2 l1 l2) (zr:Ar s.heap z TI TO (rawInt T) (.bool b1)) (al:s.heap.get? T=some o)
  (pt:IsPair s.heap TI (.ref i1) (.ref i2)) (j1:s.heap.IsListIter i1 l1 k1) (j2:s.heap.IsListIter i2 l2 k2) (m1:s.heap.IsList l1 us) (m2:s.heap.IsList l2 ws) (eu:us[k1]?=some u) (ev:ws[k2]?=some v)
  (hQ:∀h',Ar h' z TI TO (rawInt T) (.bool true)->h'.IsListIter i1 l1 (k1+1)->h'.IsListIter i2 l2 (k2+1)->IsPair h' s.heap.objs.size u v->(∀c o,c≠z->c≠i1->c≠i2->s.heap.get? c=some o->h'.get? c=some o)->Q (.ref s.heap.objs.size) { s with heap:=h' }) :
  wpAny (model prog w) A (Builtin.«zip.__next__» ⟨[.ref z],[]⟩) (λfin s'=>∃v,fin=.done (.ret v)/\Q v s') E s:=by
 change wpAny _ _ (field (Value.ref z) 2 >>= _) _ _ s
 refine wpAny_bind (wpAny_field zr rfl (x:=.bool false) rfl ?_)
 change wpAny _ _ (field (Value.ref z) 3 >>= _) _ _ s
 refine wpAny_bind (wpAny_field zr rfl (x:=.ref TI) rfl (wpAny_bind (wpAny_seqItems pt rfl ?_)))
 change wpAny _ _ (Builtin.SmallTypes.ownedTupleIsFree (Value.ref z) >>= _) _ _ s
 refine wpAny_bind (zb zr al λg1 zr1 sb1=>?_);simp only[iE,if_false];refine wpAny_bind ?_;rw[<- Array.forIn_toList];simp only[qo,mR];have j1':=j1.extBut sb1.extBut D.i1z;have m1':=m1.extBut sb1.extBut D.l1z;refine wpAny_bind (wpAny_bind (wpAny_holding ?_))
 change wpAny _ _ (Builtin.SmallTypes.nextOf (Value.ref i1) >>= _) _ _ _
 refine wpAny_bind (wpAny_nextOf_list_item j1' m1' eu λg2 j1a sb2=>wpAny_pure ?_);refine wpAny_pure ?_;have j2':=(j2.extBut sb1.extBut D.i2z).extBut sb2.extBut D.i12.symm;have m2':=(m2.extBut sb1.extBut D.l2z).extBut sb2.extBut D.l2i1;refine wpAny_bind (wpAny_bind (wpAny_holding ?_))
 change wpAny _ _ (Builtin.SmallTypes.nextOf (Value.ref i2) >>= _) _ _ _
 refine wpAny_bind (wpAny_nextOf_list_item j2' m2' ev λg3 j2a sb3=>wpAny_pure ?_);refine wpAny_pure (wpAny_pure ?_);refine wpAny_bind (wpAny_newTuple (hsz:=il rfl) ?_);have sz:g3.objs.size=s.heap.objs.size:=by rw[sb3.1,sb2.1,sb1.1]
 have up:∀c o,c≠z->c≠i1->c≠i2->s.heap.get? c=some o->g3.get? c=some o:=λc o c1 c2 c3 e=>sb3.extBut _ _ c3 (sb2.extBut _ _ c2 (sb1.extBut _ _ c1 e))
 have zr3:Ar g3 z TI TO (rawInt T) (.bool true):=sb3.extBut _ _ D.i2z.symm (sb2.extBut _ _ D.i1z.symm zr1);refine wpAny_pure ⟨_,rfl,?_⟩
 change Q (.ref g3.objs.size) { s with heap:=g3.push { cls:=.type "tuple",data:=.seq #[u,v] } }
 have last:=hQ (g3.push { cls:=.type "tuple",data:=.seq #[u,v] }) (Heap.get?_push_of_some _ zr3) ((j1a.extBut sb3.extBut D.i12).at λo e=>Heap.get?_push_of_some _ e) (j2a.at λo e=>Heap.get?_push_of_some _ e)
  (by rw[<- sz];exact Heap.get?_push_size _ rfl) λc o c1 c2 c3 e=>Heap.get?_push_of_some _ (up c o c1 c2 c3 e)
 rw[sz];exact last
theorem Lq {z TI TO T i1 i2 l1 l2:Addr} (hh:A.handled=none) (D:ZipApart z TI TO i1 i2 l1 l2) (zr:Ar s.heap z TI TO (rawInt T) (.bool b1)) (al:s.heap.get? T=some o)
  (pt:IsPair s.heap TI (.ref i1) (.ref i2)) (j1:s.heap.IsListIter i1 l1 k1) (m1:s.heap.IsList l1 us) (eu:us[k1]?=none)
  (hE:∀h' e,(∀c o,c≠z->c≠i1->c≠i2->s.heap.get? c=some o->h'.get? c=some o)->(∃o,h'.get? e=some o/\o.cls=.type "StopIteration")->E (.ref e) { s with heap:=h' }) :
  wpAny (model prog w) A (Builtin.«zip.__next__» ⟨[.ref z],[]⟩) Q E s:=by
 change wpAny _ _ (field (Value.ref z) 2 >>= _) _ _ s
 refine wpAny_bind (wpAny_field zr rfl (x:=.bool false) rfl ?_)
 change wpAny _ _ (field (Value.ref z) 3 >>= _) _ _ s
 refine wpAny_bind (wpAny_field zr rfl (x:=.ref TI) rfl (wpAny_bind (wpAny_seqItems pt rfl ?_)))
 change wpAny _ _ (Builtin.SmallTypes.ownedTupleIsFree (Value.ref z) >>= _) _ _ s
 refine wpAny_bind (zb zr al λg1 zr1 sb1=>?_);simp only[iE,if_false];refine wpAny_bind ?_;rw[<- Array.forIn_toList];simp only[qo,mR];refine wpAny_bind (wpAny_bind (wpAny_holding ?_))
 change wpAny _ _ (Builtin.SmallTypes.nextOf (Value.ref i1) >>= _) _ _ _
 exact wpAny_bind (wpAny_nextOf_list_end hh (j1.extBut sb1.extBut D.i1z) (m1.extBut sb1.extBut D.l1z) eu λg2 e xb he=>hE g2 e (λc o c1 c2 _ q=>xb _ _ c2 (sb1.extBut _ _ c1 q)) he)
theorem JE {z TI TO T i1 i2 l1 l2:Addr} (D:ZipApart z TI TO i1 i2 l1 l2) (zr:Ar s.heap z TI TO (rawInt T) (.bool b1)) (al:s.heap.get? T=some o)
  (pt:IsPair s.heap TI (.ref i1) (.ref i2)) (j1:s.heap.IsListIter i1 l1 k1) (j2:s.heap.IsListIter i2 l2 k2) (m1:s.heap.IsList l1 us) (m2:s.heap.IsList l2 ws) (eu:us[k1]?=some u) (ev:ws[k2]?=some v)
  (hQ:∀h',Ar h' z TI TO (rawInt T) (.bool true)->h'.IsListIter i1 l1 (k1+1)->h'.IsListIter i2 l2 (k2+1)->IsPair h' s.heap.objs.size u v->(∀c o,c≠z->c≠i1->c≠i2->s.heap.get? c=some o->h'.get? c=some o)->Q (some (.ref s.heap.objs.size)) { s with heap:=h' }) :
  wpAny (model prog w) A (pyNext (.ref z)) Q E s:=by
 have ty:s.TypeIs (.ref z) "zip":=⟨_,zr,rfl⟩;unfold pyNext;refine wpAny_bind (wpAny_attempt (wpAny_callSpecial?_slot (name:=Str.ofString "__next__") ty oo (wpAny_call_entry oo ty PySem.F.entry_zip_next ?_ (SK _))));exact JI D zr al pt j1 j2 m1 m2 eu ev λh' a1 a2 a3 a4 a5=>wpAny_pure (hQ h' a1 a2 a3 a4 a5)
theorem JD {z TI TO T i1 i2 l1 l2:Addr} (hh:A.handled=none) (D:ZipApart z TI TO i1 i2 l1 l2) (zr:Ar s.heap z TI TO (rawInt T) (.bool b1)) (al:s.heap.get? T=some o)
  (pt:IsPair s.heap TI (.ref i1) (.ref i2)) (j1:s.heap.IsListIter i1 l1 k1) (m1:s.heap.IsList l1 us) (eu:us[k1]?=none)
  (hQ:∀h',(∀c o,c≠z->c≠i1->c≠i2->s.heap.get? c=some o->h'.get? c=some o)->Q none { s with heap:=h' }):wpAny (model prog w) A (pyNext (.ref z)) Q E s:=by
 have ty:s.TypeIs (.ref z) "zip":=⟨_,zr,rfl⟩;unfold pyNext;refine wpAny_bind (wpAny_attempt (wpAny_callSpecial?_slot (name:=Str.ofString "__next__") ty oo (wpAny_call_entry oo ty PySem.F.entry_zip_next ?_ (SK _))));refine Lq hh D zr al pt j1 m1 eu λh' e kk ⟨oe,he,hc⟩=>?_
 exact wpAny_bind (wpAny_isInstance (T:="StopIteration") (b:=true) ⟨oe,he,hc⟩ isSubtype_stop (wpAny_pure (hQ _ kk)))
end
section
variable {X:Cx} {pins:List (Addr×Obj)} {σ:St} {H:Hp} {s:Shared}
theorem Inv.moved {ch:List Addr} (I:Inv X pins σ H s) (fx:∀b∈ch,jv X pins H b) (up:∀b o,b∉ch->s.heap.get? b=some o->h'.get? b=some o) (hg:AllBare g') :
  Inv X pins σ H { s with heap:=h',gens:=g',drawn:=d',toks:=t' }:=by
 have nx:∀b o,H b=some o->b∉ch:=λb o e hb=>by have:=(fx b hb).1;rw[this] at e;cases e
 refine I.step (ch:=ch) (λb hb=>?_) (λb o _ _ hb e _=>up b o hb e) (λb o _ _ hb e _=>⟨o.slots,up b o hb e⟩) (λb o hb e n=>n) (λb o hb e=>⟨o,up b o hb e⟩) (λb q e=>e) (λb o q e=>e) (λb q e=>⟨#[],by rw[e];simp⟩) (λm hm=>?_) (λb o e=>?_) hg
 ·obtain ⟨_,f1,_,f3,f4,f5⟩:=fx b hb;exact ⟨f3,f1,f4,f5⟩
 ·obtain ⟨o,es,ep,ho,r⟩:=hm;exact ⟨o,es,ep,up _ o (λz=>(fx _ z).2.1 rfl) ho,r⟩
 ·refine (I.hok b o e).stay (λc v' hc q=>up c v' ?_ q) (λc q=>q) λc xs q=>q
  rcases hc with rfl | hc
  ·exact nx _ _ e
  ·exact nx _ _ hc
theorem Inv.track (I:Inv X pins σ H s) (fp:jv X pins H p) (new:fO X.prog X.w (upd H p o) s.heap p o):Inv X pins σ (upd H p o) s:=by
 have nt:∀{b:Addr} {u:HO},H b=some u->b≠p:=λe z=>by rw[z,fp.1] at e;cases e
 refine I.step (h':=s.heap) (g':=s.gens) (d':=s.drawn) (t':=s.toks) (ch:=[p]) (λb hb=>?_) (λb o _ _ _ e _=>e) (λb o _ _ _ e _=>⟨o.slots,e⟩) (λb o hb e n=>?_) (λb o _ e=>⟨o,e⟩) (λb q e=>by rw[aU (nt e)];exact e) (λb o q e=>by rw[aU (nt e)];exact e)
  (λb q e=>⟨#[],by rw[aU (nt e),e];simp⟩) (λm hm=>hm) (λb u e=>?_) I.bare
 ·have e:b=p:=by simpa using hb
  subst e;obtain ⟨_,f1,_,f3,f4,f5⟩:=fp;exact ⟨f3,f1,f4,f5⟩
 ·rw[aU λz=>hb (by simp [z])];exact n
 ·by_cases hb:b=p
  ·subst hb;rw[aH] at e;cases e;exact new
  ·rw[aU hb] at e;exact (I.hok b u e).stay (λc v _ q=>q) (λc q=>by rw[aU (nt q)];exact q) λc xs q=>by rw[aU (nt q)];exact q
end
def O2 (H:Hp) (p:V×V) (x:V):Prop:=∃T,x=.ref T/\H T=some (.tup [p.1,p.2])
theorem O2.same (h:O2 H p x) (e:aI H H'):O2 H' p x:=by obtain ⟨T,q,g⟩:=h;exact ⟨T,q,e _ _ g⟩
def Zst (h:Heap) (z TI TO:Addr) (base:Nat):Prop:=(∃a b,IsPair h TO a b)/\(IsZip h z TI TO .none\/∃(T:Addr) (b1:Bool) (o:Obj),Ar h z TI TO (rawInt T) (.bool b1)/\h.get? T=some o/\@LE.le Nat instLENat base T)
theorem Cs {z TI TO i1 i2 l1 l2:Addr} (hz:Ar h z TI TO f0 f1) (hTI:IsPair h TI (.ref i1) (.ref i2)) (hTO:IsPair h TO a b) (h1:h.IsListIter i1 l1 k1) (h2:h.IsListIter i2 l2 k2) (hl1:h.IsList l1 xs) (hl2:h.IsList l2 ys) (hT:TI≠TO) (hi:i1≠i2):ZipApart z TI TO i1 i2 l1 l2:=by
 obtain ⟨o1,g1,c1,_⟩:=h1;obtain ⟨o2,g2,c2,_⟩:=h2;obtain ⟨p1,q1,d1,_⟩:=hl1;obtain ⟨p2,q2,d2,_⟩:=hl2;have zt:Value.type "zip"≠.type "tuple":=kv (by decide);have it:Value.type "list_iterator"≠.type "tuple":=kv (by decide);have iz:Value.type "list_iterator"≠.type "zip":=kv (by decide);have lz:Value.type "list"≠.type "zip":=kv (by decide);have lt:Value.type "list"≠.type "tuple":=kv (by decide);have li:Value.type "list"≠.type "list_iterator":=kv (by decide)
 exact ⟨cX hTI hz zt.symm,cX hTO hz zt.symm,cX g1 hz (by rw[c1];exact iz),cX g2 hz (by rw[c2];exact iz),hT,cX hTI g1 (by rw[c1];exact it.symm),cX hTI g2 (by rw[c2];exact it.symm),cX hTO g1 (by rw[c1];exact it.symm),cX hTO g2 (by rw[c2];exact it.symm),hi,
  cX q1 hz (by rw[d1];exact lz),cX q1 hTO (by rw[d1];exact lt),cX q1 g1 (by rw[d1,c1];exact li),cX q1 g2 (by rw[d1,c2];exact li),cX q2 hz (by rw[d2];exact lz),cX q2 hTO (by rw[d2];exact lt),cX q2 g1 (by rw[d2,c1];exact li),cX q2 g2 (by rw[d2,c2];exact li)⟩
section
variable {X:Cx} {pins:List (Addr×Obj)} {σ:St}
theorem jv.heap (f:jv X pins H b) (e:H' b=none):jv X pins H' b:=⟨e,f.2⟩
structure DF where
 z:Addr
 TI:Addr
 TO:Addr
 i1:Addr
 i2:Addr
 S:Addr
 base:Nat
def DF.all (a:DF):List Addr:=[a.z,a.TI,a.TO,a.i1,a.i2,a.S]
structure DF.Ok (a:DF):Prop where
 tt:a.TI≠a.TO
 ii:a.i1≠a.i2
 Sz:a.S≠a.z
 STI:a.S≠a.TI
 STO:a.S≠a.TO
 Si1:a.S≠a.i1
 Si2:a.S≠a.i2
 lt:∀b∈a.all,@LT.lt Nat instLTNat b a.base
structure Oh (X:Cx) (pins:List (Addr×Obj)) (σ:St) (H1:Hp) (a:DF) (l1 l2:Addr) (i:Nat) (H:Hp) (s:Shared):Prop where
 inv:Inv X pins σ H s
 same:aI H1 H
 fps:∀b∈a.all,jv X pins H b
 sz:a.base<=s.heap.objs.size
 zst:Zst s.heap a.z a.TI a.TO a.base
 pt:IsPair s.heap a.TI (.ref a.i1) (.ref a.i2)
 j1:s.heap.IsListIter a.i1 l1 i
 j2:s.heap.IsListIter a.i2 l2 i
variable {a:DF} {l1 l2:Addr} {H1 H:Hp} {s:Shared} {i:Nat} {xs ys:List V}
theorem Oh.push (L:Oh X pins σ H1 a l1 l2 i H s) (O:a.Ok) (k:∀b o,b≠a.S->s.heap.get? b=some o->h'.get? b=some o) (hz:h'.objs.size=s.heap.objs.size):Oh X pins σ H1 a l1 l2 i H { s with heap:=h' }:=by
 refine ⟨L.inv.moved (g':=s.gens) (d':=s.drawn) (t':=s.toks) (ch:=[a.S]) (λb hb=>?_) (λb o hb e=>k b o (λz=>hb (by simp [z])) e) L.inv.bare,L.same,L.fps,by show a.base<=h'.objs.size;rw[hz];exact L.sz,?_,k _ _ O.STI.symm L.pt,L.j1.at λo e=>k _ o O.Si1.symm e,L.j2.at λo e=>k _ o O.Si2.symm e⟩
 ·have e:b=a.S:=by simpa using hb
  rw[e];exact L.fps _ (by simp [DF.all])
 ·obtain ⟨⟨c,d,z0⟩,z4⟩:=L.zst;refine ⟨⟨c,d,k _ _ O.STO.symm z0⟩,?_⟩;rcases z4 with z1 | ⟨T,b1,o,z1,z2,z3⟩
  ·exact .inl (k _ _ O.Sz.symm z1)
  ·refine .inr ⟨T,b1,o,k _ _ O.Sz.symm z1,k _ _ (λe=>?_) z2,z3⟩;have:=O.lt a.S (by simp [DF.all]);rw[<- e] at this;exact absurd this (Nat.not_lt.mpr z3)
theorem Ki (O:a.Ok) (q1:bE X.K H1 l1 xs) (q2:bE X.K H1 l2 ys) (ex:xs[i]?=some x) (ey:ys[i]?=some y) (L:Oh X pins σ H1 a l1 l2 i H s)
  (hQ:∀s',Oh X pins σ H1 a l1 l2 (i+1) (upd H s.heap.objs.size (.tup [x,y])) s'->(∀c o,c∉[a.z,a.TO,a.i1,a.i2]->s.heap.get? c=some o->s'.heap.get? c=some o)->H s.heap.objs.size=none->Q (some (.ref s.heap.objs.size)) s'):wpAny (model X.prog X.w) A' (pyNext (.ref a.z)) Q E s:=by
 obtain ⟨I,sm,fps,sz,zst,pt,j1,j2⟩:=id L;obtain ⟨us,ru,pu,_⟩:=I.list (sm.seq q1);obtain ⟨ws,rw',pw,_⟩:=I.list (sm.seq q2);obtain ⟨u,eu,r1⟩:=ru.get ex;obtain ⟨v,ev,r2⟩:=rw'.get ey;have fx:∀b∈[a.z,a.TO,a.i1,a.i2],jv X pins H b:=λb hb=>fps b (by simp only[DF.all,ay,aG,or_false] at hb ⊢;rcases hb with e | e | e | e <;> simp [e])
 have hT0:H s.heap.objs.size=none:=I.hok.fresh (aj _);have fT:jv X pins H s.heap.objs.size:=I.fpOk (aj _) hT0;have lt:∀b∈a.all,b≠s.heap.objs.size:=λb hb e=>by have:=O.lt b hb;rw[e] at this;exact absurd this (Nat.not_lt.mpr sz)
 have fin:∀h',(∀c o,c∉[a.z,a.TO,a.i1,a.i2]->s.heap.get? c=some o->h'.get? c=some o)->IsPair h' s.heap.objs.size u v->IsPair h' a.TI (.ref a.i1) (.ref a.i2)->h'.IsListIter a.i1 l1 (i+1)->h'.IsListIter a.i2 l2 (i+1)->Zst h' a.z a.TI a.TO a.base →
   Q (some (.ref s.heap.objs.size)) { s with heap:=h' }:=λh' up pr pt' j1' j2' zst'=>by
  have I2:Inv X pins σ H { s with heap:=h' }:=I.moved (g':=s.gens) (d':=s.drawn) (t':=s.toks) fx up I.bare;have I3:Inv X pins σ (upd H s.heap.objs.size (.tup [x,y])) { s with heap:=h' }:=I2.track fT ⟨il rfl,[u,v],.cons r1 (.cons r2 .nil),⟨_,pr,rfl,_,rfl⟩⟩;refine hQ _ ⟨I3,sm.trans (aI.new hT0),λb hb=>(fps b hb).heap (by rw[aU (lt b hb)];exact (fps b hb).1),?_,zst',pt',j1',j2'⟩ up hT0;exact ag sz (aQ (Heap.lt_size pr))
 obtain ⟨⟨c,d,z0⟩,z4⟩:=zst;rcases z4 with z1 | ⟨T,b1,o,z1,z2,z3⟩
 ·have D:=Cs z1 pt z0 j1 j2 pu.isList pw.isList O.tt O.ii;refine wpAny_pyNext_zip_item D z1 pt z0 j1 j2 pu.isList pw.isList (x:=u) (y:=v) (by simpa using eu) (by simpa using ev) λh' a1 a2 a3 a4 a5 a6 hk=>?_
  have up:∀c o,c∉[a.z,a.TO,a.i1,a.i2]->s.heap.get? c=some o->h'.get? c=some o:=λc o hc e=>by
   simp only[ay,aG,or_false,not_or] at hc;exact hk c o hc.1 hc.2.1 hc.2.2.1 hc.2.2.2 e
  exact fin h' up a5 (hk _ _ D.TIz D.TITO D.TIi1 D.TIi2 pt) a3 a4 ⟨⟨_,_,a2⟩,.inr ⟨s.heap.objs.size,false,_,a1,a5,sz⟩⟩
 ·have D:=Cs z1 pt z0 j1 j2 pu.isList pw.isList O.tt O.ii;refine JE D z1 z2 pt j1 j2 pu.isList pw.isList (u:=u) (v:=v) (by simpa using eu) (by simpa using ev) λh' a1 a3 a4 a5 hk=>?_
  have up:∀c o,c∉[a.z,a.TO,a.i1,a.i2]->s.heap.get? c=some o->h'.get? c=some o:=λc o hc e=>by
   simp only[ay,aG,or_false,not_or] at hc;exact hk c o hc.1 hc.2.2.1 hc.2.2.2 e
  have Tn:∀b∈a.all,T≠b:=λb hb e=>by have:=O.lt b hb;rw[<- e] at this;exact absurd this (Nat.not_lt.mpr z3)
  exact fin h' up a5 (hk _ _ D.TIz D.TIi1 D.TIi2 pt) a3 a4 ⟨⟨_,_,hk _ _ D.TOz D.TOi1 D.TOi2 z0⟩,.inr ⟨T,true,o,a1,hk _ _ (Tn _ (by simp [DF.all])) (Tn _ (by simp [DF.all])) (Tn _ (by simp [DF.all])) z2,z3⟩⟩
theorem Kh (hh:A'.handled=none) (O:a.Ok) (q1:bE X.K H1 l1 xs) (q2:bE X.K H1 l2 ys) (hi:xs.length<=i) (L:Oh X pins σ H1 a l1 l2 i H s)
  (hQ:∀s',Inv X pins σ H s'->(∀c o,c∉[a.z,a.TO,a.i1,a.i2]->s.heap.get? c=some o->s'.heap.get? c=some o)->Q none s'):wpAny (model X.prog X.w) A' (pyNext (.ref a.z)) Q E s:=by
 obtain ⟨I,sm,fps,sz,zst,pt,j1,j2⟩:=id L;obtain ⟨us,ru,pu,_⟩:=I.list (sm.seq q1);obtain ⟨ws,rw',pw,_⟩:=I.list (sm.seq q2);have lx:=ru.length;have none1:us.toArray[i]?=none:=by simp;lia
 have fx:∀b∈[a.z,a.TO,a.i1,a.i2],jv X pins H b:=λb hb=>fps b (by simp only[DF.all,ay,aG,or_false] at hb ⊢;rcases hb with e | e | e | e <;> simp [e])
 have fin:∀h',(∀c o,c∉[a.z,a.TO,a.i1,a.i2]->s.heap.get? c=some o->h'.get? c=some o)->Q none { s with heap:=h' }:=λh' up=>hQ _ (I.moved (g':=s.gens) (d':=s.drawn) (t':=s.toks) fx up I.bare) up
 obtain ⟨⟨c,d,z0⟩,z4⟩:=zst;rcases z4 with z1 | ⟨T,b1,o,z1,z2,z3⟩
 ·have D:=Cs z1 pt z0 j1 j2 pu.isList pw.isList O.tt O.ii;refine wpAny_pyNext_zip_end hh D z1 pt z0 j1 j2 pu.isList pw.isList (.inl none1) λh' hk=>fin h' λc o hc e=>?_
  simp only[ay,aG,or_false,not_or] at hc;exact hk c o hc.1 hc.2.1 hc.2.2.1 hc.2.2.2 e
 ·have D:=Cs z1 pt z0 j1 j2 pu.isList pw.isList O.tt O.ii;refine JD hh D z1 z2 pt j1 pu.isList none1 λh' hk=>fin h' λc o hc e=>?_
  simp only[ay,aG,or_false,not_or] at hc;exact hk c o hc.1 hc.2.2.1 hc.2.2.2 e
theorem Kl (hh:A'.handled=none) (O:a.Ok) (hz:xs.length<=sizeLine) (hl:ys.length=xs.length) (q1:bE X.K H1 l1 xs) (q2:bE X.K H1 l2 ys)
  (fin:∀s' H' ts acc c,Inv X pins σ H' s'->aI H1 H'->jv X pins H' a.S->s'.heap.get? a.S=some (lobj acc c)->cM ts acc->Paired (O2 H') (xs.zip ys) ts->R (.ok (.ret .none)) s') :
  ∀(k i:Nat) (s:Shared) (H:Hp) (ts:List V) (acc:List Value) (c:Nat),xs.length - i=k->i<=xs.length->Oh X pins σ H1 a l1 l2 i H s->s.heap.get? a.S=some (lobj acc c)->cM ts acc->Paired (O2 H) ((xs.zip ys).take i) ts →
   codeAny (model X.prog X.w) A' (.builtin "list.extend.loop" ⟨[.ref a.S,.ref a.z,.none],[]⟩) R s:=by
 have Sn:a.S∉[a.z,a.TO,a.i1,a.i2]:=λh=>by
  simp only[ay,aG,or_false] at h;rcases h with e | e | e | e
  ·exact O.Sz e
  ·exact O.STO e
  ·exact O.Si1 e
  ·exact O.Si2 e
 intro k
 induction k with
 | zero =>
  intro i s H ts acc c hk hi L gS rv prs;have e:i=xs.length:=by lia
  refine codeAny_builtin Q0 ?_;rw[Around.under_plainId kh _]
  change wpAny _ A'.in1 (pyNext (Value.ref a.z) >>= _) _ _ s
  refine wpAny_bind (Kh hh O q1 q2 (by lia) L λs' I' up=>wpAny_pure (fin s' H ts acc c I' L.same (L.fps _ (by simp [DF.all])) (up _ _ Sn gS) rv ?_));rwa [aE (by rw[qj];lia)] at prs
 | succ k ih =>
  intro i s H ts acc c hk hi L gS rv prs;have hlt:i < xs.length:=by lia
  have lt:=prs.length;have la:=rv.length;refine codeAny_builtin Q0 ?_;rw[Around.under_plainId kh _]
  change wpAny _ A'.in1 (pyNext (Value.ref a.z) >>= _) _ _ s
  refine wpAny_bind (Ki O q1 q2 (x:=xs[i]) (y:=ys[i]'(by lia)) (by simp [hlt]) (by simp) L λs' L' up hT=>?_);have gS':=up _ _ Sn gS
  change wpAny _ A'.in1 (updateSeq a.S (·.push (Value.ref s.heap.objs.size)) >>= _) _ _ s'
  have small:acc.length<=sizeLine:=by
   rw[bZ,qj] at lt
   lia
  refine wpAny_bind (wpAny_updateSeq gS' rfl (wpAny_pure ⟨plainId_quiet kh _,?_⟩) (by rw[aZ];exact small) (by
   show (acc.toArray.push (Value.ref s.heap.objs.size)).size<=sizeLine+1
   rw[Array.size_push,aZ]
   lia))
  have gS2:=j6 gS' (λb=>b.push (Value.ref s.heap.objs.size));have e2:(acc.toArray.push (Value.ref s.heap.objs.size))=(acc++[Value.ref s.heap.objs.size]).toArray:=by simp
  rw[e2] at gS2;refine ih (i+1) _ (upd H s.heap.objs.size (.tup [xs[i],ys[i]'(by lia)])) (ts++[.ref s.heap.objs.size]) (acc++[.ref s.heap.objs.size]) _ (by lia) hlt (L'.push O (λb o hb e=>(Heap.get?_update_other _ _ (Ne.symm hb)).trans e) (Heap.size_update ..)) gS2 (rv.append (show cM [V.ref s.heap.objs.size] [Value.ref s.heap.objs.size] from .cons rfl .nil)) ?_;have zp:(xs.zip ys)[i]?=some (xs[i],ys[i]'(by lia)):=by simp [Q1,hlt]
  rw[take_snoc zp];exact (Paired.imp' (λ_ _ z=>z.same (aI.new hT)) prs).snoc ⟨_,rfl,aH⟩
theorem Fz:typeLookup (.type "zip") "__len__"=pure Option.none:=by rw[typeLookup_type,builtinLookup_eq_fast];kernel_rfl
theorem DX:typeLookup (.type "zip") "__length_hint__"=pure Option.none:=by rw[typeLookup_type,builtinLookup_eq_fast];kernel_rfl
theorem Kj (hh:A'.handled=none) (O:a.Ok) (hz:xs.length<=sizeLine) (hl:ys.length=xs.length) (q1:bE X.K H1 l1 xs) (q2:bE X.K H1 l2 ys) (L:Oh X pins σ H1 a l1 l2 0 H s) (gS:s.heap.get? a.S=some (lobj [] 0)) (z0:IsZip s.heap a.z a.TI a.TO .none)
  (fin:∀s' H' ts acc c,Inv X pins σ H' s'->aI H1 H'->jv X pins H' a.S->s'.heap.get? a.S=some (lobj acc c)->cM ts acc->Paired (O2 H') (xs.zip ys) ts->R (.ok (.ret .none)) s') :
  wpAny (model X.prog X.w) A'.in1 (Builtin.«list.__init__» ⟨[.ref a.S,.ref a.z],[]⟩) (λfl s'=>match fl with | .done f=>R (.ok f) s' | .again c'=>c'.quiet=true/\codeAny (model X.prog X.w) A' c' R s') (λe s'=>R (.error e) s') s:=by
 change wpAny _ A'.in1 (do let old <- Builtin.List.listItems (Value.ref a.S);Builtin.List.listUpdate (Value.ref a.S) (λ_=>#[]);letGo old.toList.reverse;Builtin.List.listExtendWith (Value.ref a.S) (Value.ref a.z) Value.none) _ _ s
 refine wpAny_bind ?_;unfold Builtin.List.listItems;refine wpAny_bind (wpAny_seqItems gS rfl (wpAny_pure ?_))
 change wpAny _ A'.in1 (updateSeq a.S (λ_=>#[]) >>= λ_=>letGo (#[]:Array Value).toList.reverse >>= λ_=>Builtin.List.listExtendWith (Value.ref a.S) (Value.ref a.z) Value.none) _ _ s
 refine wpAny_bind (wpAny_updateSeq gS rfl ?_);have g1:=j6 gS (λ_=>(#[]:Array Value));obtain ⟨n1,g1⟩:∃n1,(s.heap.update a.S (Obj.mapSeq λ_=>(#[]:Array Value))).get? a.S=some (lobj [] n1):=⟨_,g1⟩;have L1:=L.push (h':=s.heap.update a.S (Obj.mapSeq λ_=>(#[]:Array Value))) O (λb o hb e=>(Heap.get?_update_other _ _ (Ne.symm hb)).trans e) (Heap.size_update ..);have z1:IsZip (s.heap.update a.S (Obj.mapSeq λ_=>(#[]:Array Value))) a.z a.TI a.TO .none:=(Heap.get?_update_other _ _ O.Sz).trans z0;refine wpAny_bind (wpAny_letGo ?_);unfold Builtin.List.listExtendWith;have ty:Shared.TypeIs { s with heap:=s.heap.update a.S (Obj.mapSeq λ_=>(#[]:Array Value)) } (.ref a.z) "zip":=⟨_,z1,rfl⟩;refine wpAny_bind (wpAny_typeOf ty ?_);have h1:Builtin.List.listSameRef (.ref a.S) (.ref a.z)=false:=by simp [Builtin.List.listSameRef,O.Sz]
 have h2:(Value.type "zip" == Value.type "list")=false:=by decide
 have h3:(Value.type "zip" == Value.type "tuple")=false:=by decide
 simp only[h1,h2,h3,Bool.or_false,iE,if_false];refine wpAny_bind (wpAny_pyIter_zip z1 (wpAny_bind (wpAny_holding ?_)));unfold Builtin.List.listLengthHint;refine wpAny_bind (wpAny_specialOf ty Fz ?_)
 change wpAny _ A'.in1 (specialOf (Value.ref a.z) (Str.ofString "__length_hint__") >>= _) _ _ _
 refine wpAny_bind (wpAny_specialOf ty DX (wpAny_pure ?_))
 change wpAny _ A'.in1 (rule "list.extend.makes-room" >>= λ_=>Builtin.List.listTouch (Value.ref a.S) >>= λ_=>again (.builtin "list.extend.loop" ⟨[Value.ref a.S,Value.ref a.z,Value.none],[]⟩)) _ _ _
 refine wpAny_bind (wpAny_rule (wpAny_bind ?_))
 change wpAny _ A'.in1 (updateSeq a.S (·.push Value.none) >>= λ_=>updateSeq a.S (·.pop)) _ _ _
 refine wpAny_bind (wpAny_updateSeq g1 rfl ?_);have g2:=j6 g1 (λb=>b.push Value.none);obtain ⟨n2,g2⟩:∃n2,((s.heap.update a.S (Obj.mapSeq λ_=>(#[]:Array Value))).update a.S (Obj.mapSeq λb=>b.push Value.none)).get? a.S=some (lobj [Value.none] n2):=⟨_,g2⟩;have L2:=L1.push (h':=(s.heap.update a.S (Obj.mapSeq λ_=>(#[]:Array Value))).update a.S (Obj.mapSeq λb=>b.push Value.none)) O (λb o hb e=>(Heap.get?_update_other _ _ (Ne.symm hb)).trans e) (Heap.size_update ..);refine wpAny_updateSeq g2 rfl ?_ (il rfl);have g3:=j6 g2 (λb=>b.pop);have L3:=L2.push (h':=((s.heap.update a.S (Obj.mapSeq λ_=>(#[]:Array Value))).update a.S (Obj.mapSeq λb=>b.push Value.none)).update a.S (Obj.mapSeq λb=>b.pop)) O (λb o hb e=>(Heap.get?_update_other _ _ (Ne.symm hb)).trans e) (Heap.size_update ..);exact wpAny_pure ⟨plainId_quiet kh _,Kl hh O hz hl q1 q2 fin _ 0 _ H [] [] _ rfl (aW _) L3 g3 .nil .nil⟩
end
section
variable {X:Cx}
theorem O9 (n:Nat):DF.Ok ⟨n+4,n+2,n+3,n,n+1,n+5,n+5+1⟩:=by
 have ne:∀p q:Nat,p≠q->@Ne Addr p q:=λ_ _ h=>h
 refine ⟨ne (n+2) (n+3) (by lia),ne n (n+1) (by lia),ne (n+5) (n+4) (by lia),ne (n+5) (n+2) (by lia),ne (n+5) (n+3) (by lia),ne (n+5) n (by lia),ne (n+5) (n+1) (by lia),λb hb=>?_⟩;have hb':b∈[n+4,n+2,n+3,n,n+1,n+5]:=hb;show @LT.lt Nat instLTNat b (n+5+1)
 simp only[ay,aG,or_false] at hb';rcases hb' with e | e | e | e | e | e <;> (rw[e];exact bA (fL _) (by lia))
def D1 (K:FG9) (ta:TA):TE:=λσ H Q=>ta σ H λvs H1=>∃(l1 l2:Addr) (xs ys:List V),vs=[.ref l1,.ref l2]/\bE K H1 l1 xs/\bE K H1 l2 ys/\ys.length=xs.length /\
 ∀L ts H',aI H1 H'->H1 L=none->H' L=some (.lst ts)->Paired (O2 H') (xs.zip ys) ts->Q (.ref L) H'
theorem yZ {e1 e2:Expr} {ta:TA} {p p2 pos pos2:Pos} (hg:Gl X "list") (hm:X.mg "list"=none) (hg2:Gl X "zip") (hm2:X.mg "zip"=none) (ha:PA X [e1,e2] ta) (hc:X.calm=true:=by rfl)
  (hs:starEach [e1,e2] X.env=[(false,eval e1 X.env),(false,eval e2 X.env)]:=by rfl) (hs2:starEach [e2] X.env=[(false,eval e2 X.env)]:=by rfl)
  (hs3:starEach [Expr.Call (.Name "zip" p2) [e1,e2] [] pos2] X.env=[(false,eval (.Call (.Name "zip" p2) [e1,e2] [] pos2) X.env)]:=by rfl) :
  PE X (.Call (.Name "list" p) [.Call (.Name "zip" p2) [e1,e2] [] pos2] [] pos) (D1 X.K ta):=by
 intro pins s σ H Q I h;refine wpAny_Call_Name_kw (jR I hg hm boot_list ?_);refine PyProof.Rows.callWith_type1 ?_ (by rw[hs3];rfl) rfl;rw[hs3];show wpAny _ _ (spliced ((false,eval (.Call (.Name "zip" p2) [e1,e2] [] pos2) X.env) :: [])) _ _ s
 refine Calls.spliced_cons ?_;refine Call_ (jR I hg2 hm2 boot_zip (PyProof.Rows.callWith_type1 (fz (ha pos2 pins s σ H _ I h) λus s1 ⟨vs,H1,I1,r1,q1⟩=>?_) (by rw[hs,hs2]) (by rw[hs2];rfl)));obtain ⟨l1,l2,xs,ys,e,qx,qy,hl,q⟩:=q1;subst e;obtain ⟨u,v,rfl,ru,rv⟩:=vals2 r1;cases ru;cases rv;obtain ⟨us,rx,px,hz⟩:=I1.list qx;obtain ⟨ws,ry,py,_⟩:=I1.list qy;refine call_zip_2 px.isList py.isList λh' a1 a2 a3 a4 a5 a6 hk=>?_
 refine Calls.spliced_nil ?_;have I2:Inv X pins σ H1 { s1 with heap:=h' }:=I1.kept (t':=s1.toks) hk;have up:∀b o,h'.get? b=some o->(h'.push { cls:=.type "list",data:=.seq #[] }).get? b=some o:=λb o e=>Heap.get?_push_of_some _ e
 have O:DF.Ok ⟨s1.heap.objs.size+4,s1.heap.objs.size+2,s1.heap.objs.size+3,s1.heap.objs.size,s1.heap.objs.size+1,h'.objs.size,h'.objs.size+1⟩:=by
  rw[a6];exact O9 s1.heap.objs.size
 have old:∀b∈(DF.mk (s1.heap.objs.size+4) (s1.heap.objs.size+2) (s1.heap.objs.size+3) s1.heap.objs.size (s1.heap.objs.size+1) h'.objs.size (h'.objs.size+1)).all,s1.heap.objs.size<=b:=λb hb=>by
  rw[a6] at hb;simp only[DF.all,ay,aG,or_false] at hb;rcases hb with rfl | rfl | rfl | rfl | rfl | rfl <;> first | exact ot _ _ | exact aj _
 have gS:(h'.push { cls:=.type "list",data:=.seq #[] }).get? h'.objs.size=some (lobj [] 0):=Heap.get?_push_size _ rfl;refine callType_codes (Q₁:=λob t=>ob=.ref h'.objs.size/\t={ s1 with heap:=h'.push { cls:=.type "list",data:=.seq #[] } }) PySem.F.called_list (PySem.F.typeCall_list_1 _) PySem.F.entry_list_init (code_list_new _ ⟨rfl,rfl⟩) λob t ht=>?_
 obtain ⟨rfl,rfl⟩:=ht;refine ⟨⟨_,gS,rfl⟩,PySem.F.args_list_init_2 _ _,?_⟩
 have L:Oh X pins σ H1 ⟨s1.heap.objs.size+4,s1.heap.objs.size+2,s1.heap.objs.size+3,s1.heap.objs.size,s1.heap.objs.size+1,h'.objs.size,h'.objs.size+1⟩ l1 l2 0 H1 { s1 with heap:=h'.push { cls:=.type "list",data:=.seq #[] } } :=
  ⟨I2.kept (t':=s1.toks) up,aI.refl _,λb hb=>I1.fpOk (old b hb) (I1.hok.fresh (old b hb)),by rw[Heap.size_push];exact aj _,⟨⟨_,_,up _ _ a3⟩,.inl (up _ _ a1)⟩,up _ _ a2,a4.at λo e=>up _ o e,a5.at λo e=>up _ o e⟩
 refine Kj (A':=X.A.in1) (I.ok.hd hc) O hz hl qx qy L gS (up _ _ a1) λs' H' ts acc c I' sm fS gS' vs' prs=>⟨rfl,?_⟩
 have nS:H1 h'.objs.size=none:=I1.hok.fresh (old _ (by simp [DF.all]));have lt:=prs.length;rw[qj] at lt;exact ⟨.ref h'.objs.size,_,I'.track (o:=.lst ts) fS ⟨by lia,acc,c,vs',gS'⟩,rfl,q _ ts _ (sm.trans (aI.new fS.1)) nS aH (Paired.imp' (λ_ _ z=>z.same (aI.new fS.1)) prs)⟩
end
end L2
namespace Nm
def wt:List Int->Int->Int
 | [],m=>m
 | b :: r,m=>wt r (m*(b / g m b))
theorem uC (hm:0 < m) (hb:0 < b):0 < m*(b / g m b):=iw hm (Dm (t:=m) hb)
theorem Dj:b∣m*(b / g m b):=by
 have h1:=zL m b;refine ⟨lo m b,?_⟩;have h2:b / g m b*g m b=b:=wx m b
 calc m*(b / g m b)=lo m b*g m b*(b / g m b):=by rw[h1]
  _=lo m b*(b / g m b*g m b):=by rw[dA,fH (g m b)]
  _=b*lo m b:=by rw[h2,fH]
theorem zN:∀{bs:List Int} {m:Int},0 < m->(∀b∈bs,0 < b)->0 < wt bs m
 | [],_,hm,_=>hm
 | b :: r,m,hm,h=>zN (bs:=r) (uC hm (h b cJ)) λc hc=>h c (bP _ hc)
theorem EM:∀{bs:List Int} {m:Int},m∣wt bs m
 | [],_=>Jb _
 | b :: r,m=>Int.dvd_trans (Int.dvd_mul_right m _) (EM (bs:=r))
theorem EL:∀{bs:List Int} {m b:Int},b∈bs->b∣wt bs m
 | c :: r,m,b,h=>by
  rcases ay.mp h with rfl | h
  ·exact Int.dvd_trans Dj (EM (bs:=r))
  ·exact EL (bs:=r) h
end Nm
namespace L2
open PySem PySem.Spec PyProof.Rows Nm
def DG (K:FG9) (H:Hp) (p:Addr) (ns:List (Int×Int)):Prop:=∃xs,H p=some (.lst xs)/\Paired (λn x=>Fe K H x n) ns xs
theorem DG.same {K:FG9} (h:DG K H p ns) (e:aI H H'):DG K H' p ns:=by obtain ⟨xs,g,q⟩:=h;exact ⟨xs,e _ _ g,Paired.imp' (λ_ _ z=>e.num z) q⟩
def Ex (K:FG9) (T:String):V->Hp->VK->Prop:=λx H Q=>Js K T x H Q\/∃a xs b,x=.ref a/\pZ K H a xs/\PySem.W.kitOne K (.type "tuple") (.type T)=some b/\Q (.bl b) H
theorem BE:∀{bs:List Int} {m b:Int},wt (bs++[b]) m=wt bs m*(b / g (wt bs m) b)
 | [],_,_=>rfl
 | c :: r,m,b=>BE (bs:=r)
def dy (ns:List (Int×Int)) (B:Int):List Int:=ns.map λn=>n.1*(B / n.2)
def eE (ns:List (Int×Int)):Int:=wt (ns.map (·.2)) 1
def Gx (ns ms:List (Int×Int)):Int:=(List.zipWith (λx y=>x*y) (dy ns (eE ns)) (dy ms (eE ms))).sum
theorem rF (h:n∈ns):n.2∣eE ns:=EL (ax.mpr ⟨n,h,rfl⟩)
theorem FP {K:FG9} (h:ta σ H λvs H1=>∃(l1 l2:Addr) (xs ys:List V),vs=[.ref l1,.ref l2]/\bE K H1 l1 xs/\bE K H1 l2 ys/\ys.length=xs.length /\
 ∀L ts H',aI H1 H'->H1 L=none->H' L=some (.lst ts)->Paired (O2 H') (xs.zip ys) ts->Q (.ref L) H'):D1 K ta σ H Q:=h
theorem Tg (hb:0 < b) (h:Sz k b):Sz k (g m b):=h.le (by
 have h1:(g m b).natAbs=Int.gcd m b:=by unfold g;simp
 rw[h1];exact kB (by lia) (by have:=fj (a:=m) (b:=b);exact fY.mpr this |> λz=>by simpa using z))
theorem GV {ts us:List Int} {i:Nat} (h:((ts.map V.int).zip (us.map V.int))[i]?=some pq):∃t u,ts[i]?=some t/\us[i]?=some u/\pq=(.int t,.int u):=by
 rw[Q1,az,az] at h;obtain ⟨h1,h2⟩:=h;cases e1:ts[i]? with
 | none=>rw[e1] at h1;cases h1
 | some t =>
  cases e2:us[i]? with
  | none=>rw[e2] at h2;cases h2
  | some u =>
   rw[e1] at h1;rw[e2] at h2;refine ⟨t,u,rfl,rfl,?_⟩;cases pq;simp at h1 h2;rw[h1,h2]
def Jm (K:FG9):Sp:=λvs H Q _=>∃x n,vs=[x]/\Fe K H x n/\xQ n/\∀H',aI H H'->Q (.bl true) H'
inductive vH (K:FG9) (vs:List V) (H:Hp) (Q:VK) (E9:XK):Prop
 | mk (p:Addr) (ns:List (Int×Int)):vs=[.ref p,.int ns.length]->DG K H p ns->ns.length<=1000->(∀n∈ns,xQ n)->(∀H',aI H H'->Q (.bl true) H')->vH K vs H Q E9
theorem yh {X:Cx} {a:Expr} {ta:TE} {pos:Pos} {c:Str} {T:String} {p p2:Pos} (hg:Gl X "isinstance") (hm:X.mg "isinstance"=none) (hb:bootBuiltins c=some (.type T)) (hmc:X.mg c=none) (ha:PE X a ta) (hgc:Gl X c:=by rfl) (hn:c≠"__name__":=by decide)
  (hd:(c == ("__debug__":Str))=false:=by decide) (he:starEach [a,.Name c p2] X.env=[(false,eval a X.env),(false,eval (.Name c p2) X.env)]:=by rfl)
  (hpl:(backTo pos (starEach [.Name c p2] X.env)).any (·.1)=false:=by rfl) (he2:starEach [.Name c p2] X.env=[(false,eval (.Name c p2) X.env)]:=by rfl):PE X (.Call (.Name "isinstance" p) [a,.Name c p2] [] pos) (SV (Ex X.K T) ta):=by
 intro pins s σ H Q I h;refine wpAny_Call_Name_kw (jR I hg hm PyProof.Rows.boot_isinstance ?_);have hA:PA X [a,.Name c p2] (qB ta (qB (tC (.ty T)) Jg)):=ae ha (ae (HP hgc hmc hb rfl hn hd) ai he2) (by rw[he,he2])
 have hq:qB ta (qB (tC (.ty T)) Jg) σ H (λvs H1=>∃x,vs=[x,.ty T]/\Ex X.K T x H1 Q):=by
  show ta σ H λx H1=>∃x',[x,V.ty T]=[x',V.ty T]/\Ex X.K T x' H1 Q
  have e:(λx H1=>∃x',[x,V.ty T]=[x',V.ty T]/\Ex X.K T x' H1 Q)=λx H1=>Ex X.K T x H1 Q:=by
   funext x H1;apply propext;constructor
   ·rintro ⟨x',e,q⟩;cases e;exact q
   ·intro q;exact ⟨x,rfl,q⟩
  rw[e];exact h
 refine PyProof.Rows.callWith_builtin1 (fz (hA pos pins s σ H _ I hq) λus s1 ⟨vs,H1,I1,r1,x,e,q1⟩=>?_) (by rw[he,he2]) hpl;subst e;obtain ⟨u,w',rfl,ru,rt⟩:=vals2 r1;cases rt;rcases q1 with ⟨t,bb,ty,ek,q⟩ | ⟨ad,xs,bb,rfl,hs,ek,q⟩
 ·exact BG I1 ru ty ek λtk=>⟨.bl bb,H1,I1.tok tk,rfl,q⟩
 ·cases ru;obtain ⟨its,_,⟨o,g1,g2,_⟩,_⟩:=I1.tuple hs;exact dm PySem.W.kitx_tuple I1.kIn ⟨o,g1,g2⟩ ek (λz=>nomatch z) λtk=>⟨.bl bb,H1,I1.tok tk,rfl,q⟩
theorem yU (h:H l=some (.lst [x])) (hk:k<=1000) (q:∀p H',aI H H'->H p=none->H' p=some (.lst (List.replicate k x))->Q (.ref p) H'):RO (.ref l) (.int k) H Q :=
 ⟨l,k,[x],rfl,rfl,h,by lia,by lia,aQ (bx (by simp;lia)),λp hp=>q p _ (aI.new hp) hp (by rw[aH];simp)⟩
theorem QJ {k:Nat} (h:k<=xs.length):nW xs none (some (k:Int))=xs.take k:=by
 unfold nW;rw[HT.qS,HT.CW,Nat.min_eq_left h];simp
theorem Aa {k:Nat}:nW xs (some (k:Int)) none=xs.drop k:=by
 unfold nW;rw[HT.qS,HT.CW];by_cases h:k<=xs.length
 ·rw[Nat.min_eq_left h,aE (by simp)]
 ·rw[Nat.min_eq_right (by lia),yu (by lia),yu (by lia)];simp
theorem k6 {α β:Type} {F:α->β->Prop} {x:α} {y:β} (h:F x y):∀m:Nat,Paired F (List.replicate m x) (List.replicate m y)
 | 0=>.nil
 | m+1=>.cons h (k6 h m)
theorem fX (h:a < n):Ke n (a:Int)=some a:=by
 unfold Ke;rw[if_pos (by lia),if_pos (by lia),Int.toNat_natCast]
theorem Mh {k:Nat}:nW xs none (some (k:Int))=xs.take k:=by
 by_cases h:k<=xs.length
 ·exact QJ h
 ·unfold nW;rw[HT.qS,HT.CW,Nat.min_eq_right (by lia),aE (by simp),aE (by lia)];rfl
theorem qV {α β:Type} {F:α->β->Prop}:∀{l1:List α} {l2:List β} (_:Paired F l1 l2) (k:Nat),Paired F (l1.take k) (l2.take k)
 | _,_,.nil,k=>by simp;exact .nil
 | _,_,.cons h r,0=>.nil
 | _,_,.cons h r,k+1=>.cons h (qV r k)
def Nk (K:FG9):List V->Hp->VK->Prop:=λxs H Q=>∃p ys,xs=[.ref p]/\(bE K H p ys\/pZ K H p ys)/\∀l,H l=none->Q (.ref l) (upd H l (.lst ys))
theorem sN (K:FG9) (hK:X.K=K):oj X (.type "list") (Nk K):=by subst hK;exact uY
theorem aI.none (s:aI H H') (h:H' l=Option.none):H l=Option.none:=by
 cases e:H l with
 | none=>rfl
 | some o=>have:=s _ _ e;rw[h] at this;cases this
def O4 (K:FG9) (H:Hp) (p:Addr) (rows:List (List (Int×Int))):Prop:=∃xs,H p=some (.lst xs)/\Paired (λns x=>∃q,x=V.ref q/\DG K H q ns) rows xs
theorem Kt (h:b.natAbs<=1000000):Sz 20 b:=bc h (by decide)
theorem cZ.none (u:cZ b H H') (B:jx H' b) (h:H' l=Option.none):H l=Option.none:=by
 cases e:H l with
 | none=>rfl
 | some o =>
  by_cases z:l=b
  ·obtain ⟨_,_,_,_,_,e2,_⟩:=B;rw[<- z,h] at e2;cases e2
  ·have:=u.1 l o e z;rw[h] at this;cases this
inductive yG (K:FG9) (vs:List V) (H:Hp) (Q:VK) (E9:XK):Prop
 | mk (p:Addr) (rows:List (List (Int×Int))) (m:Nat):vs=[.ref p,.int rows.length,.int m]->O4 K H p rows->rows.length<=1000->m<=1000->((∀ns∈rows,ns.length=m/\∀n∈ns,xQ n))->(∀H',aI H H'->Q (.bl true) H')->yG K vs H Q E9
end L2
namespace Nm
def nm (q:Rat):Int×Int:=(q.num,(q.den:Int))
theorem ij (q:Rat):0 < (nm q).2:=by have:=q.den_pos;show 0 < (q.den:Int);lia
theorem Dd (q:Rat):Int.gcd (nm q).1 (nm q).2=1:=q.reduced
theorem Qh (h:nm p=nm q):p=q:=by
 have h1:p.num=q.num:=congrArg Prod.fst h;have h2:(p.den:Int)=q.den:=congrArg Prod.snd h;exact Rat.ext h1 (by lia)
theorem mH (q:Rat):(q.num:Rat)=q*(q.den:Rat):=by
 have h:=Rat.num_divInt_den q;rw[Rat.divInt_eq_div] at h
 have hd:((q.den:Int):Rat)≠0:=by
  intro z;have z:=xS.mp z;have:=q.den_pos
  lia
 have e:((q.den:Int):Rat)=(q.den:Rat):=bV _
 calc (q.num:Rat)=(q.num:Rat) / ((q.den:Int):Rat)*((q.den:Int):Rat):=(Fq hd).symm
  _=q*(q.den:Rat):=by rw[h,e]
theorem RX (hb:0 < b) (hg:Int.gcd a b=1) (e:q*(b:Rat)=(a:Rat)):(a,b)=nm q:=by
 have h1:a*(q.den:Int)=q.num*b:=by
  apply dD.mp;rw[a8,a8,<- e,mH,bV];grind
 obtain ⟨e1,e2⟩:=uniq hb (ij q) hg (Dd q) h1;exact Prod.ext e1 e2
theorem uB {t b:Int} (hb:0 < b) (e:q*(b:Rat)=(t:Rat)):(lo t b,hi t b)=nm q:=by
 refine RX (Dm hb) (zJ (by lia)) ?_;have h:=zK t b;have hb':(b:Rat)≠0:=λz=>by have:=xS.mp z;lia
 have h2:((lo t b:Int):Rat)*(b:Rat)=(t:Rat)*((hi t b:Int):Rat):=by rw[<- a8,h,a8]
 rw[<- e] at h2;have h3:(q*((hi t b:Int):Rat) - ((lo t b:Int):Rat))*(b:Rat)=0:=by grind
 rcases Rat.mul_eq_zero.mp h3 with h4 | h4
 ·grind
 ·exact absurd h4 hb'
def Fr (M V:Nat) (q:Rat):Prop:=∃z:Int,q*(M:Rat)=(z:Rat)/\z.natAbs<=V*M
theorem Fr.mono (h:Fr M V q) (l:V<=V'):Fr M V' q:=by obtain ⟨z,e,b⟩:=h;exact ⟨z,e,ag b (aw _ l)⟩
theorem Fr.scale (h:Fr M V q) (k:Nat):Fr (M*k) V q:=by
 obtain ⟨z,e,b⟩:=h;refine ⟨z*k,?_,?_⟩
 ·rw[qi,a8,<- e,bV,Rat.mul_assoc]
 ·rw[fQ,dj,<- cC];exact aw _ b
theorem Fr.scaleL (h:Fr M V q) (k:Nat):Fr (k*M) V q:=by rw[bH];exact h.scale k
theorem Fr.dvd (h:Fr M V q) (d:M∣N):Fr N V q:=by obtain ⟨k,rfl⟩:=d;exact h.scale k
theorem Fr.add (h:Fr M V p) (h':Fr M W q):Fr M (V+W) (p+q):=by
 obtain ⟨z,e,b⟩:=h;obtain ⟨z',e',b'⟩:=h';refine ⟨z+z',by rw[Az,<- e,<- e',Rat.add_mul],?_⟩;rw[Cq];have:=Int.natAbs_add_le z z'
 lia
theorem Fr.neg (h:Fr M V q):Fr M V (-q):=by
 obtain ⟨z,e,b⟩:=h;exact ⟨-z,by rw[fk,<- e,Rat.neg_mul],by rw[mU];exact b⟩
theorem Fr.sub (h:Fr M V p) (h':Fr M W q):Fr M (V+W) (p - q):=by rw[Fp];exact h.add h'.neg
theorem Fr.mul (h:Fr M V p) (h':Fr N W q):Fr (M*N) (V*W) (p*q):=by
 obtain ⟨z,e,b⟩:=h;obtain ⟨z',e',b'⟩:=h';refine ⟨z*z',?_,?_⟩
 ·rw[qi,a8,<- e,<- e'];grind
 ·rw[fQ]
  calc z.natAbs*z'.natAbs<=(V*M)*(W*N):=aX b b'
   _=V*W*(M*N):=by rw[cC,Nat.mul_left_comm M,<- cC]
theorem Fr.zero:Fr M V 0:=⟨0,by simp,by simp⟩
theorem Fr.int {i:Int} (h:i.natAbs<=V):Fr M V (i:Rat):=⟨i*M,by rw[a8,bV],by rw[fQ,dj];exact aw _ h⟩
theorem Fr.den (h:Fr M V q):(q.den:Int)∣(M:Int):=by
 obtain ⟨z,e,b⟩:=h
 have h1:q.num*(M:Int)=z*(q.den:Int):=by
  apply dD.mp;rw[a8,a8,<- e,mH,bV,bV];grind
 have h2:(q.den:Int)∣q.num*(M:Int):=⟨z,by rw[h1,fH]⟩;exact pG (by rw[j8];exact Dd q) h2
theorem Fr.den_le (h:Fr M V q) (hM:0 < M):q.den<=M:=kB hM (xT.mp h.den)
theorem Fr.num_le (h:Fr M V q) (hM:0 < M):q.num.natAbs<=V*M:=by
 have hd:=h.den;obtain ⟨z,e,b⟩:=h;obtain ⟨k,hk⟩:=xT.mp hd;have hk0:k≠0:=λz=>by rw[z,Nat.mul_zero] at hk;lia
 have h1:z=q.num*(k:Int):=by
  apply dD.mp;rw[a8,<- e,mH,bV,hk,qi];grind
 rw[h1] at b;exact ag (nk (by lia)) b
theorem Fr.own (q:Rat) (h:q.num.natAbs<=V):Fr q.den V q:=⟨q.num,(mH q).symm,ag h (dM _ q.den_pos)⟩
theorem Fr.sz (h:Fr M V q) (hM:0 < M) (h1:M<=2^k) (h2:V<=2^j):Sz (j+k+1) (nm q).1/\Sz (k+1) (nm q).2:=by
 constructor
 ·show q.num.natAbs < 2^(j+k+1)
  have h3:=h.num_le hM;have h4:V*M<=2^j*2^k:=aX h2 h1;rw[cY,bh];have:=Nat.two_pow_pos (j+k);rw[bh] at this
  lia
 ·show (q.den:Int).natAbs < 2^(k+1)
  have h3:=h.den_le hM;rw[dj,cY];have:=Nat.two_pow_pos k
  lia
theorem Fr.sum {M V:Nat}:∀{l:List Rat},(∀x∈l,Fr M V x)->Fr M (l.length*V) l.sum
 | [],_=>by simp;exact Fr.zero
 | x :: r,h=>by
  rw[List.sum_cons,bR,dZ,fE];exact (h x (.head _)).add (Fr.sum λy hy=>h y (.tail _ hy))
def eT (xs ys:List Rat):Rat:=(List.zipWith (λx y=>x*y) xs ys).sum
theorem Fr.dot (h:∀x∈xs,Fr M V x) (h':∀y∈ys,Fr N W y):Fr (M*N) (xs.length*(V*W)) (eT xs ys):=by
 have q:=Fr.sum (M:=M*N) (V:=V*W) (l:=List.zipWith (λx y=>x*y) xs ys) λz hz=>by
  obtain ⟨i,hi,e⟩:=bO hz;rw[dh] at e;rw[<- e];exact (h _ (aB _)).mul (h' _ (aB _))
 exact q.mono (aw _ (by rw[aP];lia))
theorem yj:∀{bs:List Int} {m M:Int},0 < m->m∣M->(∀b∈bs,0 < b/\b∣M)->wt bs m∣M
 | [],_,_,_,h,_=>h
 | b :: r,m,M,hm,h,hb=>by
  have b1:=hb b cJ;refine yj (bs:=r) (uC hm b1.1) ?_ λc hc=>hb c (bP _ hc)
  have gp:0 < g m b:=zP (by lia);have e1:=zL m b;have e2:=wx m b;obtain ⟨u,hu⟩:=h;obtain ⟨v,hv⟩:=b1.2
  have h3:lo m b*u=hi m b*v:=by
   apply sX (show g m b≠0 by lia)
   calc lo m b*u*g m b=lo m b*g m b*u:=by rw[dA,fH u,<- dA]
    _=m*u:=by rw[e1]
    _=M:=hu.symm
    _=b*v:=hv
    _=hi m b*g m b*v:=by rw[e2]
    _=hi m b*v*g m b:=by rw[dA,fH (g m b),<- dA]
  have h4:hi m b∣lo m b*u:=⟨v,h3⟩;have h5:hi m b∣u:=pG (by rw[j8];exact zJ (by lia)) h4;obtain ⟨w,hw⟩:=h5;refine ⟨w,?_⟩;show M=m*hi m b*w
  rw[hu,hw,dA]
theorem Dv (hb:0 < b) (d:a∣b) (h:Sz k b):Sz k a:=h.le (kB (by lia) (fY.mpr d))
end Nm
namespace Nm
def Dr (W:Nat) (x:Rat):Prop:=x.num.natAbs<=W/\x.den<=W
def ur:List Nat->Nat
 | []=>1
 | a :: r=>a*ur r
theorem vX:∀{l:List Nat},(∀a∈l,0 < a)->0 < ur l
 | [],_=>Nat.one_pos
 | a :: r,h=>cv (h a (.head _)) (vX λb hb=>h b (.tail _ hb))
theorem vY:∀{l:List Nat} {a:Nat},a∈l->a∣ur l
 | b :: r,a,h=>by
  rcases ay.mp h with rfl | h
  ·exact mQ ..
  ·exact kC (vY h) (cS ..)
theorem yW {k:Nat}:∀{l:List Nat},(∀a∈l,a<=2^k)->ur l<=2^(k*l.length)
 | [],_=>by simp [ur]
 | a :: r,h=>by
  rw[bR,Nat.mul_succ,bh,bH (2^(k*r.length))];exact aX (h a (.head _)) (yW λb hb=>h b (.tail _ hb))
def GF (M V:Nat) (rows:LR9):Prop:=∀xs∈rows,∀x∈xs,Fr M V x
def QX (c n i:Nat) (rows:LR9):Prop:=∃M,0 < M/\M<=2^(i*(c*n+2))/\GF M (2^(20+2*i)) rows
theorem Qv:QX c n 0 []:=⟨1,by decide,by simp,λ_ h=>nomatch h⟩
theorem Qw (c n i:Nat):(i+1)*(c*n+2)=i*(c*n+2)+(c*n+2):=dZ ..
theorem NS (h:QX c n i rows) (hl:xs.length=n) (hd:∀x∈xs,Dr (2^c) x) (hc:c<=20):QX c n (i+1) (rows++[xs]):=by
 obtain ⟨M,h0,h1,h2⟩:=h
 have dp:0 < ur (xs.map (·.den)):=vX λa ha=>by
  obtain ⟨x,_,rfl⟩:=ax.mp ha;exact x.den_pos
 have dl:ur (xs.map (·.den))<=2^(c*n):=by
  have:=yW (k:=c) (l:=xs.map (·.den)) λa ha=>by
   obtain ⟨x,hx,rfl⟩:=ax.mp ha;exact (hd x hx).2
  rwa [ah,hl] at this
 refine ⟨M*ur (xs.map (·.den)),cv h0 dp,?_,λys hy x hx=>?_⟩
 ·rw[Qw,bh];exact aX h1 (ag dl (av (by decide) (by lia)))
 ·rcases aD.mp hy with hy | hy
  ·exact ((h2 ys hy x hx).scale _).mono (av (by decide) (by lia))
  ·have e:ys=xs:=by simpa using hy
   subst e;have f:Fr x.den (2^c) x:=Fr.own x (hd x hx).1;have g:=(f.dvd (vY (ax.mpr ⟨x,hx,rfl⟩))).scaleL M;exact g.mono (av (by decide) (by lia))
def cm (rows:LR9) (w:Nat):LR9:=(List.range w).map λj=>rows.map λxs=>xs.getD j 0
def gH (one other:LR9) (w:Nat):LR9:=one.map λxs=>(cm other w).map λys=>eT ys xs
theorem dz:(cm rows w).length=w:=by simp [cm]
theorem iL:∀ys∈cm rows w,ys.length=rows.length:=λys hy=>by
 obtain ⟨j,_,rfl⟩:=ax.mp hy;exact ah ..
theorem getD_map {α:Type} {l:List α} {f:α->Rat} (h:i < l.length):(l.map f).getD i 0=f l[i]:=by
 rw[aa,az,af h];rfl
end Nm
namespace L2
open PySem PySem.Spec PyProof.Rows Nm
theorem cZ.sqt {K:FG9} (u:cZ b H H') (B:jx H b) (h:pZ K H a xs):pZ K H' a xs:=by
 rcases h with (h | ⟨o,h⟩) | h
 ·exact .inl (.inl (u.tup B h))
 ·exact .inl (.inr ⟨o,u.other (λz=>by obtain ⟨_,_,_,_,_,e,_⟩:=B;rw[z,e] at h;cases h) h⟩)
 ·exact .inr h
theorem Kv {K:FG9} (h:pZ K H a xs) (hl:H l=some (.lst ys)):pZ K (upd H l o) a xs:=by
 rcases h with (h | ⟨o,h⟩) | h
 ·exact .inl (.inl (by rw[aU λz=>by rw[z,hl] at h;cases h];exact h))
 ·exact .inl (.inr ⟨o,by rw[aU λz=>by rw[z,hl] at h;cases h];exact h⟩)
 ·exact .inr h
def cA (K:FG9) (H:Hp) (q:Rat) (x:V):Prop:=Fe K H x (nm q)
section
variable {K:FG9} {H H':Hp} {q:Rat} {x:V} {b l p:Addr} {qs:List Rat}
theorem cA.same (h:cA K H q x) (e:aI H H'):cA K H' q x:=e.num h
theorem cA.upto (h:cA K H q x) (u:cZ b H H') (B:jx H b):cA K H' q x:=by obtain ⟨p,e,s⟩:=h;exact ⟨p,e,u.sqt B s⟩
theorem cA.updL (h:cA K H q x) (hl:H l=some (.lst ys)):cA K (upd H l o) q x:=by obtain ⟨p,e,s⟩:=h;exact ⟨p,e,Kv s hl⟩
theorem cA.mk (h:H r=some (.tup [.int a,.int c])) (e:(a,c)=nm q):cA K H q (.ref r):=⟨r,rfl,by rw[<- e];exact pZ.of h⟩
def cP (K:FG9) (H:Hp) (p:Addr) (qs:List Rat):Prop:=∃xs,H p=some (.lst xs)/\Paired (cA K H) qs xs
theorem cP.same (h:cP K H p qs) (e:aI H H'):cP K H' p qs:=by obtain ⟨xs,g,r⟩:=h;exact ⟨xs,e _ _ g,Paired.imp' (λ_ _ z=>z.same e) r⟩
theorem cP.upto (h:cP K H p qs) (u:cZ b H H') (B:jx H b) (n:p≠b):cP K H' p qs:=by obtain ⟨xs,g,r⟩:=h;exact ⟨xs,u.other n g,Paired.imp' (λ_ _ z=>z.upto u B) r⟩
theorem cP.updL (h:cP K H p qs) (hl:H l=some (.lst ys)) (n:p≠l):cP K (upd H l o) p qs:=by obtain ⟨xs,g,r⟩:=h;exact ⟨xs,by rw[aU n];exact g,Paired.imp' (λ_ _ z=>z.updL hl) r⟩
theorem qW {α β γ:Type} {F:α->β->Prop} {f:γ->α}:∀{l:List γ} {l2:List β},Paired (λc x=>F (f c) x) l l2->Paired F (l.map f) l2
 | _,_,.nil=>.nil
 | _,_,.cons r t=>.cons r (qW t)
theorem cP.rowK (h:cP K H p qs):DG K H p (qs.map nm):=by obtain ⟨xs,g,r⟩:=h;exact ⟨xs,g,qW (F:=λn x=>Fe K H x n) r⟩
def cU (K:FG9) (H0 H:Hp) (qs:List Rat) (x:V):Prop:=∃q,x=V.ref q/\H0 q=none/\cP K H q qs
def bG (K:FG9) (H0 H:Hp) (p:Addr) (rows:LR9):Prop:=∃xs,H p=some (.lst xs)/\Paired (cU K H0 H) rows xs/\V.ref p∉xs
theorem jg {rows:LR9} (h:∃H2,H2 p=none/\Paired (cU K H0 H2) rows ys):V.ref p∉ys:=λhm=>by
 obtain ⟨H2,e,pr⟩:=h;obtain ⟨qs,_,q,z,_,xs,g,_⟩:=eI pr hm;cases z;rw[e] at g;cases g
variable {H0:Hp} {rows:LR9}
theorem cU.same (h:cU K H0 H qs x) (e:aI H H'):cU K H0 H' qs x:=by obtain ⟨q,a,b,c⟩:=h;exact ⟨q,a,b,c.same e⟩
theorem cU.upto (h:cU K H0 H qs x) (u:cZ b H H') (B:jx H b) (nb:H0 b≠none):cU K H0 H' qs x:=by obtain ⟨q,a,c,d⟩:=h;exact ⟨q,a,c,d.upto u B λz=>nb (by rw[<- z];exact c)⟩
theorem cU.weak (h:cU K H0 H qs x) (e:aI H1 H0):cU K H1 H qs x:=by obtain ⟨q,a,b,c⟩:=h;exact ⟨q,a,e.none b,c⟩
theorem bG.same (h:bG K H0 H p rows) (e:aI H H'):bG K H0 H' p rows:=by obtain ⟨xs,g,r,n⟩:=h;exact ⟨xs,e _ _ g,Paired.imp' (λ_ _ z=>z.same e) r,n⟩
theorem bG.upto (h:bG K H0 H p rows) (u:cZ b H H') (B:jx H b) (n:p≠b) (nb:H0 b≠none):bG K H0 H' p rows:=by obtain ⟨xs,g,r,nn⟩:=h;exact ⟨xs,u.other n g,Paired.imp' (λ_ _ z=>z.upto u B nb) r,nn⟩
theorem bG.weak (h:bG K H0 H p rows) (e:aI H1 H0):bG K H1 H p rows:=by obtain ⟨xs,g,r,n⟩:=h;exact ⟨xs,g,Paired.imp' (λ_ _ z=>z.weak e) r,n⟩
theorem bG.gridK (h:bG K H0 H p rows):O4 K H p (rows.map (List.map nm)):=by obtain ⟨xs,g,r,_⟩:=h;exact ⟨xs,g,qW (F:=λns x=>∃q,x=V.ref q/\DG K H q ns) (Paired.imp' (λ_ _ ⟨q,a,_,c⟩=>⟨q,a,c.rowK⟩) r)⟩
end
def OP:Kind Rat:=Sa.via nm (λ_ _ e=>Qh e) (λK H x q=>cA K H q x) id
def uE:Kind (List Rat):=Sb OP
def Gf:Kind (LR9):=Sb uE
theorem cP.kind {K:FG9} (h:cP K H p qs):uE.R K H (.ref p) qs:=by obtain ⟨xs,g,q⟩:=h;exact ⟨p,xs,rfl,bE.of g,q⟩
def j4 (x:Rat):Prop:=Sz 200000 (nm x).1/\Sz 200000 (nm x).2
def Fits (l:List Rat):Prop:=∃M V:Nat,0 < M/\M<=2^900/\V<=2^900/\∀x∈l,Fr M V x
theorem Fits.szn (h:Fits l) (hx:x∈l):j4 x:=by
 obtain ⟨M,V,h0,h1,h2,h3⟩:=h;obtain ⟨a,b⟩:=(h3 x hx).sz h0 h1 h2;exact ⟨a.mono (by decide),b.mono (by decide)⟩
theorem Fits.ok (h:Fits l) (hx:x∈l):xQ (nm x):=⟨ij x,Dd x,(h.szn hx).1.mono (by decide),(h.szn hx).2.mono (by decide)⟩
theorem Dq {M V:Nat} (h0:0 < M) (h1:M<=2^1800) (h2:V<=2^1810) (h:Fr M V x):j4 x:=by
 obtain ⟨a,b⟩:=h.sz h0 h1 h2;exact ⟨a.mono (by decide),b.mono (by decide)⟩
theorem CA (h:j4 x):xQ (nm x):=⟨ij x,Dd x,h.1.mono (by decide),h.2.mono (by decide)⟩
inductive mV (K:FG9) (f:Rat->Rat->Rat) (vs:List V) (H:Hp) (Q:VK) (E9:XK):Prop
 | mk (u v:V) (x y:Rat):vs=[u,v]->cA K H x u->cA K H y v->j4 x->j4 y->(∀r H',aI H H'->cA K H' (f x y) (.ref r)->Q (.ref r) H')->mV K f vs H Q E9
section
variable {K:FG9} {vs:List V} {H:Hp} {Q:VK} {E:XK}
theorem FW (hf:∀x y:Rat,(f x y)*(((nm x).2*(nm y).2:Int):Rat)=((F (nm x).1 (nm x).2 (nm y).1 (nm y).2:Int):Rat)) (h:mV K f vs H Q E):HH K F vs H Q E:=by
 obtain ⟨u,v,x,y,rfl,⟨p,rfl,hp⟩,⟨q,rfl,hq⟩,⟨s1,s2⟩,⟨s3,s4⟩,k⟩:=h;refine ⟨p,q,_,_,_,_,rfl,hp,hq,ij x,ij y,s1,s2,s3,s4,λr H' s g=>k r H' s (cA.mk g ?_)⟩;exact uB (iw (ij x) (ij y)) (hf x y)
theorem tL (x:Rat):(((nm x).1:Int):Rat)=x*(((nm x).2:Int):Rat):=by
 show (x.num:Rat)=x*(((x.den:Nat):Int):Rat)
 rw[mH,bV]
theorem yo (h:mV K (λx y=>x+y) vs H Q E):HH K OX vs H Q E:=FW (λx y=>by
 unfold OX;rw[Az,a8,a8,a8,tL,tL];grind) h
theorem Hq (h:mV K (λx y=>x - y) vs H Q E):HH K LU vs H Q E:=FW (λx y=>by
 unfold LU;rw[Rat.intCast_sub,a8,a8,a8,tL,tL];grind) h
theorem yi (h:mV K (λx y=>x*y) vs H Q E):HH K LS vs H Q E:=FW (λx y=>by
 unfold LS;rw[a8,a8,tL,tL];grind) h
end
def Fd (M:Int) (ns:List (Int×Int)):Prop:=0 < M/\Sz 220000 M/\∀n∈ns,0 < n.2/\n.2∣M/\Sz 220000 n.1
theorem Fd.bot (h:Fd M ns):0 < eE ns/\Sz 220000 (eE ns):=by
 have hb:∀b∈ns.map (·.2),0 < b/\b∣M:=λb hb=>by
  obtain ⟨n,hn,rfl⟩:=ax.mp hb;exact ⟨(h.2.2 n hn).1,(h.2.2 n hn).2.1⟩
 exact ⟨zN (by decide) λb q=>(hb b q).1,Dv h.1 (yj (by decide) (Int.one_dvd _) hb) h.2.1⟩
inductive Ky (K:FG9) (vs:List V) (H:Hp) (Q:VK) (E9:XK):Prop
 | mk (p:Addr) (bs:List Int) (M:Int):vs=[.ref p]->bE K H p (bs.map V.int)->0 < M->Sz 220000 M->((∀b∈bs,0 < b/\b∣M))->Q (.int (wt bs 1)) H->Ky K vs H Q E9
inductive Kz (K:FG9) (vs:List V) (H:Hp) (Q:VK) (E9:XK):Prop
 | mk (p:Addr) (ns:List (Int×Int)) (M:Int):vs=[.ref p]->DG K H p ns->ns.length<=1000->Fd M ns->(∀H',aI H H'->Q (.int (eE ns)) H')->Kz K vs H Q E9
inductive D5 (K:FG9) (vs:List V) (H:Hp) (Q:VK) (E9:XK):Prop
 | mk (p:Addr) (ns:List (Int×Int)) (M:Int) (B:Int):vs=[.ref p,.int B]->DG K H p ns->ns.length<=1000->Fd M ns->0 < B->Sz 220000 B->(∀r H',H r=none->aI H H'->H' r=some (.lst ((dy ns B).map V.int))->Q (.ref r) H')->D5 K vs H Q E9
theorem t8 (h:Fd M ns) (hB:0 < B) (sB:Sz 220000 B) (ht:t∈dy ns B):Sz 440000 t:=by
 obtain ⟨n,hn,rfl⟩:=ax.mp ht;have hp:=h.2.2 n hn
 have sq:Sz 220000 (B / n.2):=sB.le (by
  rw[Q2 (by lia)];exact Nat.div_le_self ..)
 exact (hp.2.2.mul sq).mono (by lia)
theorem qr (h:(nm x).2∣B):(((nm x).1*(B / (nm x).2):Int):Rat)=x*(B:Rat):=by
 obtain ⟨k,rfl⟩:=h;have hp:=ij x;rw[Int.mul_ediv_cancel_left _ (by lia),a8,a8,tL];grind
theorem ES {B C:Int}:∀{xs ys:List Rat},(∀x∈xs,(nm x).2∣B)->(∀y∈ys,(nm y).2∣C)->(((List.zipWith (λx y=>x*y) (dy (xs.map nm) B) (dy (ys.map nm) C)).sum:Int):Rat)=eT xs ys*((B:Rat)*(C:Rat))
 | [],ys,_,_=>by simp [dy,eT]
 | x :: xs,[],_,_=>by simp [dy,eT]
 | x :: xs,y :: ys,h1,h2=>by
  have ih:=ES (B:=B) (C:=C) (xs:=xs) (ys:=ys) (λz hz=>h1 z (.tail _ hz)) (λz hz=>h2 z (.tail _ hz));have e1:=qr (h1 x (.head _));have e2:=qr (h2 y (.head _));have e3:(List.zipWith (λx y=>x*y) (dy ((x :: xs).map nm) B) (dy ((y :: ys).map nm) C)).sum=((nm x).1*(B / (nm x).2))*((nm y).1*(C / (nm y).2))+(List.zipWith (λx y=>x*y) (dy (xs.map nm) B) (dy (ys.map nm) C)).sum:=rfl;have e4:eT (x :: xs) (y :: ys)=x*y+eT xs ys:=rfl;rw[e3,e4,Az,a8,ih,e1,e2];grind
theorem Io (h1:0 < eE (xs.map nm)) (h2:0 < eE (ys.map nm)):(lo (Gx (xs.map nm) (ys.map nm)) (eE (xs.map nm)*eE (ys.map nm)),hi (Gx (xs.map nm) (ys.map nm)) (eE (xs.map nm)*eE (ys.map nm)))=nm (eT xs ys):=by
 refine uB (iw h1 h2) ?_;unfold Gx;rw[ES (λx hx=>rF (ax.mpr ⟨x,hx,rfl⟩)) (λx hx=>rF (ax.mpr ⟨x,hx,rfl⟩)),a8]
inductive D4 (K:FG9) (vs:List V) (H:Hp) (Q:VK) (E9:XK):Prop
 | mk (p:Addr) (w:Nat) (H0:Hp) (rows:LR9):vs=[.ref p,.int w]->bG K H0 H p rows->rows.length<=1000->w<=1000->(∀xs∈rows,xs.length=w)->(∀r H',H r=none->aI H H'->bG K H H' r (cm rows w)->Q (.ref r) H')->D4 K vs H Q E9
def DZ (m:Nat) (a:Int):List Rat:=(List.range m).map λ(i:Nat)=>if ((i:Nat):Int)=a then 1 else 0
inductive D3 (K:FG9) (vs:List V) (H:Hp) (Q:VK) (E9:XK):Prop
 | mk (m:Nat) (a:Int):vs=[.int m,.int a]->m<=1000->(∀r H',H r=none->aI H H'->cP K H' r (DZ m a)->Q (.ref r) H')->D3 K vs H Q E9
inductive yD (K:FG9) (vs:List V) (H:Hp) (Q:VK) (E9:XK):Prop
 | mk (b:Addr) (w:Nat):vs=[.ref b,.int w]->jx H b->1<=w->w<=1000000->(∀r x H',Dr (max w 6) x->cA K H' x (.ref r)->jx H' b->cZ b H H'->Q (.ref r) H')->yD K vs H Q E9
inductive Ef (K:FG9) (vs:List V) (H:Hp) (Q:VK) (E9:XK):Prop
 | mk (b:Addr) (m w:Nat):vs=[.ref b,.int m,.int w]->jx H b->m<=1000->1<=w->w<=1000000->(∀r xs H',H r=none->cP K H' r xs->xs.length=m->(∀x∈xs,Dr (max w 6) x)->jx H' b->cZ b H H'->Q (.ref r) H')->Ef K vs H Q E9
inductive yC (K:FG9) (vs:List V) (H:Hp) (Q:VK) (E9:XK):Prop
 | mk (p q:Addr) (xs ys:List Rat):vs=[.ref p,.ref q]->cP K H p xs->cP K H q ys->ys.length=xs.length->xs.length<=1000->(∀x∈xs,j4 x)->(∀y∈ys,j4 y)->(∀r H',H r=none->aI H H'->cP K H' r (List.zipWith (λx y=>x+y) xs ys)->Q (.ref r) H')->yC K vs H Q E9
inductive FE (K:FG9) (vs:List V) (H:Hp) (Q:VK) (E9:XK):Prop
 | mk (u:V) (q:Addr) (c:Rat) (ys:List Rat):vs=[u,.ref q]->cA K H c u->j4 c->cP K H q ys->ys.length<=1000->(∀y∈ys,j4 y)->(∀r H',H r=none->aI H H'->cP K H' r (ys.map λy=>c*y)->Q (.ref r) H')->FE K vs H Q E9
inductive yJ (K:FG9) (vs:List V) (H:Hp) (Q:VK) (E9:XK):Prop
 | mk (p:Addr) (H0:Hp) (rows:LR9):vs=[.ref p]->bG K H0 H p rows->rows.length<=1000->(∀xs∈rows,xs.length<=1000)->(∀r H',H r=none->aI H H'->bG K H H' r rows->Q (.ref r) H')->yJ K vs H Q E9
section
variable {K:FG9} {a:Addr} {xs:List V} {g:TG} {tf:TT} {te:TE} {Q:VK} {σ₀:St} {H:Hp} {α β:Type}
theorem eD {F:Hp->α->V->Prop} (G:Hp->β->V->Prop) (f:α->β) (hx:H a=some (.lst xs)) (pf:Paired (F H) as xs) (hl:as.length<=1000)
  (hF:∀{H H' c x},F H c x->aI H H'->F H' c x) (hG:∀{H H' c x},G H c x->aI H H'->G H' c x)
  (hs:∀(i:Nat) c x H' NY NN,as[i]?=some c->aI H H'->F H' c x->(∀y H2,aI H' H2->G H2 (f c) y->NY y H2)->qv σ₀ g tf te x H' NY NN)
  (hd:∀ys H' p,H p=none->aI H H'->H' p=some (.lst ys)->Paired (G H') (as.map f) ys->(∃H2,H2 p=none/\Paired (G H2) (as.map f) ys)->Q (.ref p) H'):rP (O3 K a) σ₀ g tf te Q H:=by
 have lx:=pf.length;refine dY (K:=K) (xs:=xs) (λi ys H'=>aI H H'/\Paired (G H') ((as.take i).map f) ys) (aQ (bx (by lia))) ⟨aI.refl _,.nil⟩ (λi ys H' _ ⟨s,_⟩=>bE.of (s _ _ hx)) ?_ ?_
 ·rintro i x ys H' hx' hlen ⟨s,pr⟩;obtain ⟨c,ec,hc⟩:=bK pf hx';refine hs i c x H' _ _ ec s (hF hc s) λy H2 s2 gy=>⟨s.trans s2,?_⟩
  rw[take_snoc ec,dE];exact b9 (Paired.imp' (λ_ _ z=>hG z s2) pr) (.cons gy .nil)
 ·rintro ys H' hy ⟨s,pr⟩ p hp;rw[aE (by lia)] at pr;exact hd ys _ p (s.none hp) (s.trans (aI.new hp)) aH (Paired.imp' (λ_ _ z=>hG z (aI.new hp)) pr) ⟨H',hp,pr⟩
theorem iS (G:Hp->β->V->Prop) (f:Nat->β) (hl:n<=1000) (hG:∀{H H' c x},G H c x->aI H H'->G H' c x)
  (hs:∀(i:Nat) H' NY NN,i < n->aI H H'->(∀y H2,aI H' H2->G H2 (f i) y->NY y H2)->qv σ₀ g tf te (.int i) H' NY NN)
  (hd:∀ys H' p,H p=none->aI H H'->H' p=some (.lst ys)->Paired (G H') ((List.range n).map f) ys->(∃H2,H2 p=none/\Paired (G H2) ((List.range n).map f) ys)->Q (.ref p) H'):rP (Fn 0 n) σ₀ g tf te Q H:=by
 refine pI (λi ys H'=>aI H H'/\Paired (G H') ((List.range i).map f) ys) (aQ (bx (by lia))) ⟨aI.refl _,.nil⟩ ?_ ?_
 ·rintro i ys H' hi hlen ⟨s,pr⟩;rw[yv];refine hs i H' _ _ hi s λy H2 s2 gy=>⟨s.trans s2,?_⟩
  rw[AB,dE];exact b9 (Paired.imp' (λ_ _ z=>hG z s2) pr) (.cons gy .nil)
 ·rintro ys H' hy ⟨s,pr⟩ p hp;exact hd ys _ p (s.none hp) (s.trans (aI.new hp)) aH (Paired.imp' (λ_ _ z=>hG z (aI.new hp)) pr) ⟨H',hp,pr⟩
theorem JV (G:Hp->β->V->Prop) (C:β->Prop) (hB:jx H b) (hl:n<=1000) (hG:∀{H' H'' c x},G H' c x->cZ b H' H''->jx H' b->G H'' c x)
  (hs:∀(i:Nat) H' NY NN,i < n->cZ b H H'->jx H' b->(∀y c H2,cZ b H' H2->jx H2 b->C c->G H2 c y->NY y H2)->qv σ₀ g tf te (.int i) H' NY NN)
  (hd:∀ys cs H' p,H p=none->cZ b H H'->jx H' b->H' p=some (.lst ys)->cs.length=n->(∀c∈cs,C c)->Paired (G H') cs ys->(∃H2,H2 p=none/\Paired (G H2) cs ys)->Q (.ref p) H'):rP (Fn 0 n) σ₀ g tf te Q H:=by
 refine pI (λi ys H'=>cZ b H H'/\jx H' b/\∃cs,cs.length=i/\(∀c∈cs,C c)/\Paired (G H') cs ys) (aQ (bx (by lia))) ⟨(aI.refl _).upto,hB,[],rfl,(λ_ z=>nomatch z),.nil⟩ ?_ ?_
 ·rintro i ys H' hi hlen ⟨u,B,cs,lc,hc,pr⟩;rw[yv];refine hs i H' _ _ hi u B λy c H2 u2 B2 cc gy=>⟨u.trans u2,B2,cs++[c],by simp [lc],IL hc cc,b9 (Paired.imp' (λ_ _ z=>hG z u2 B) pr) (.cons gy .nil)⟩
 ·rintro ys H' hy ⟨u,B,cs,lc,hc,pr⟩ p hp;have s:aI H' (upd H' p (.lst ys)):=aI.new hp;exact hd ys cs _ p (u.none B hp) (u.same s) (B.same s) aH lc hc (Paired.imp' (λ_ _ z=>hG z s.upto B) pr) ⟨H',hp,pr⟩
end
section
variable {X:Cx}
theorem eK {g:TG} {tb:TS} {D:Ends} (Pv:Nat->St->Hp->Prop) (h0:Pv 0 σ H)
  (hs:∀(i:Nat) σ H,i < n->Pv i σ H->g (.int i) σ H λσ2 H2=>tb { D with nx:=Pv (i+1),ct:=Pv (i+1),bk:=D.nx } σ2 H2) (hd:∀σ H,Pv n σ H->D.nx σ H) :
  ∃W:Nat->Nat->St->Hp->Prop,(∃m,W 0 m σ H)/\∀i m σ H,W i m σ H →
   ((Fn 0 n).stop i H/\D.nx σ H)\/((Fn 0 n).go i H/\∃N:St->Hp->Prop,(∀σ' H',N σ' H'->∃m',m' < m/\W (i+1) m' σ' H')/\∀x H',(Fn 0 n).yld i H x H'->g x σ H' λσ2 H2=>tb { D with nx:=N,ct:=N,bk:=D.nx } σ2 H2) :=
 BI (lo:=0) Pv h0 (λi σ H hi p=>by rw[yv];exact hs i σ H hi p) hd
theorem nX:oj X (.type "int") (λxs H Q=>∃b:Bool,xs=[.bl b]/\Q (.int (if b=true then 1 else 0)) H):=by
 intro pins s σ H xs us Q I r h;obtain ⟨b,rfl,q⟩:=h;obtain ⟨u,rfl,ru⟩:=vals1 r;cases ru;exact call_int_bool ⟨.int _,H,I.tok _,⟨_,rfl⟩,q⟩
theorem A0 (K:FG9) (hK:X.K=K):oj X (.builtin "len") (λxs H Q=>∃p ys,xs=[.ref p]/\(bE K H p ys\/pZ K H p ys)/\Q (.int ys.length) H):=by subst hK;exact bw
theorem K8 {st:Stmt}:PS X st (λ_ _ _=>False):=λ_ _ _ _ _ _ h=>h.elim
end
theorem Lx {t b:Int} (hb:0 < b) (h1:t.natAbs<=W) (h2:b.natAbs<=W):∃q:Rat,(lo t b,hi t b)=nm q/\Dr W q/\q*(b:Rat)=(t:Rat):=by
 have hb':(b:Rat)≠0:=λz=>by have:=xS.mp z;lia
 have e:(t:Rat) / (b:Rat)*(b:Rat)=t:=Fq hb';have h:=uB hb e;refine ⟨_,h,⟨?_,?_⟩,e⟩
 ·have:=congrArg Prod.fst h;have z:=lo_le (t:=t) (b:=b) (by lia);show ((nm ((t:Rat) / (b:Rat))).1).natAbs<=W
  rw[<- this];exact ag z h1
 ·have:=congrArg Prod.snd h;have z:=OU (t:=t) (b:=b) (by lia);have hd:(((t:Rat) / (b:Rat)).den:Int)=hi t b:=this.symm;have hp:=Dm (t:=t) hb
  lia
theorem Kd {K:FG9} (h:Paired (cA K H) qs xs) (hj:j < qs.length):∃v,E6 xs (j:Int)=some v/\cA K H (qs.getD j 0) v:=by
 have hl:=h.length;refine ⟨xs[j]'(by lia),ff (by simp),?_⟩;have:=jL h (i:=j) hj (by lia);rwa [aa,af hj]
theorem BN {xs ys:List Rat} (h1:i < xs.length) (h2:i < ys.length):eT (xs.take (i+1)) (ys.take (i+1))=eT (xs.take i) (ys.take i)+xs.getD i 0*ys.getD i 0:=by
 have e1:xs[i]?=some (xs.getD i 0):=by rw[aa,af h1];rfl
 have e2:ys[i]?=some (ys.getD i 0):=by rw[aa,af h2];rfl
 unfold eT;rw[take_snoc e1,take_snoc e2,List.zipWith_append (by simp;lia),List.sum_append];simp [rX]
theorem getD_mem {xs:List Rat} (h:i < xs.length):xs.getD i 0∈xs:=by
 rw[aa,af h];exact aB h
theorem Bc {xs ys:List Rat} (h:ys.length=xs.length):List.zipWith (λx y=>x+y) xs ys=(List.range xs.length).map λi=>xs.getD i 0+ys.getD i 0:=by
 apply mT;intro i;rw[bF,az];by_cases hi:i < xs.length
 ·rw[bo hi,af hi,af (show i < ys.length by lia)];simp [aa,af hi,af (show i < ys.length by lia)]
 ·rw[aJ (show (List.range xs.length).length<=i by simp;lia),aJ (show xs.length<=i by lia)];rfl
theorem cU.updL {K:FG9} (h:cU K H0 H qs x) (hl:H l=some (.lst ys)) (nl:H0 l≠none):cU K H0 (upd H l o) qs x:=by obtain ⟨q,a,b,c⟩:=h;exact ⟨q,a,b,c.updL hl λz=>nl (by rw[<- z];exact b)⟩
theorem jx.at (B:jx H b):H b≠none:=by obtain ⟨_,_,_,_,_,e,_⟩:=B;rw[e];simp
theorem Inner.at (B:jx H b) (i:Inner H b q):H q≠none:=by
 obtain ⟨q',i',xs,e⟩:=B.inner;rw[<- Inner.inj i' i,e];simp
theorem Pl {M V:Nat} (h:Fr M V x) (h0:0 < M) (h1:M<=2^300) (h2:V<=2^100):j4 x:=Dq h0 (ag h1 (av (by decide) (by decide))) (ag h2 (av (by decide) (by decide))) h
theorem jM {F:α->β->Prop} {l1:List α} {l2:List β} (h:Paired F l1 l2) (hi:i < l1.length):∃x y,l1[i]?=some x/\l2[i]?=some y/\x∈l1/\F x y:=by
 have hl:=h.length;exact ⟨l1[i],l2[i]'(by lia),by simp,by simp,aB _,jL h hi (by lia)⟩
theorem IF (h1:-(2^64) < i) (h2:i < 2^64):fP i j:=.inl (.inl ⟨h1,h2⟩)
theorem N8 (h1:-(2^64) < j) (h2:j < 2^64):fP i j:=.inl (.inr ⟨h1,h2⟩)
def QV (K : FG9) (l : Addr) : It :=
  ⟨λi H => ∃ xs x, bE K H l xs /\ xs[i]? = some x,
   λi H v H' => ∃ p x, v = .ref p /\ H p = none /\ H' = upd H p (.tup [.int i, x]) /\ ∀ xs, bE K H l xs → xs[i]? = some x,
   λi H => ∃ xs, bE K H l xs /\ xs.length ≤ i⟩
def tnE (e it l:Addr) (i:Nat) (h:Heap):Prop:=(∃old,IsEnum h e it i old)/\h.IsListIter it l i
theorem Jf {P:Program} {w:World} {K:FG9} {elts:List Expr} {kk:Nat} {tpos:Pos} (e it l:Addr) (hei:e≠it):Turn P w K (.Tuple elts kk tpos) (QV K l) [e,it] e (tnE e it l) where
 mem:=by simp
 obj:=λi h st b hb=>by
  obtain ⟨⟨old,he⟩,⟨o1,g1,c1,d1⟩⟩:=st;simp only[ay,aG,or_false] at hb;rcases hb with rfl | rfl
  ·exact ⟨_,he,λv q=>nomatch q⟩
  ·exact ⟨o1,g1,λv q=>by rw[d1] at q;cases q⟩
 keep:=λi h h' st k=>by
  obtain ⟨⟨old,he⟩,h1⟩:=st;exact ⟨⟨old,k e (by simp) _ he⟩,h1.at λo q=>k it (by simp) o q⟩
 item:=by
  intro X hP hw hK hc i pins s σ H E I hf st hg;subst hP hw hK;obtain ⟨⟨old,he⟩,h1⟩:=st;obtain ⟨xs,x,qx,ex⟩:=hg;obtain ⟨us,rx,px,_⟩:=I.list qx;obtain ⟨u,eu,ru⟩:=rx.get ex;refine wpAny_pyNext_enum_item he h1 px.isList (x:=u) (by simpa using eu) hei λh' a1 a2 a3 a4 hk=>?_
  refine ⟨_,rfl,wpAny_letOwnedTupleGo_enum a1 λh'' he'' hs=>?_⟩;have hT0:H s.heap.objs.size=none:=I.hok.fresh (aj _);have ene:s.heap.objs.size≠e:=mO (Heap.lt_size he)
  have up:∀b o,b∉[e,it]->s.heap.get? b=some o->h''.get? b=some o:=λb o hb q=>by
   simp only[ay,aG,or_false,not_or] at hb;exact (hs.2 b hb.1).trans (hk b o hb.1 hb.2 q)
  have tup:h''.get? s.heap.objs.size=some { cls:=.type "tuple",data:=.seq #[.int i s.toks,u] }:=(hs.2 _ ene).trans a3;have I1:Inv X pins σ H { s with heap:=h'',toks:=s.toks+1 }:=I.moved (g':=s.gens) (d':=s.drawn) (t':=s.toks+1) (ch:=[e,it]) hf up I.bare;have fT:jv X pins H s.heap.objs.size:=I.fpOk (aj _) hT0;have I2:=I1.track (o:=.tup [.int i,x]) fT ⟨il rfl,[.int i s.toks,u],.cons ⟨_,rfl⟩ (.cons ru .nil),⟨_,tup,rfl,_,rfl⟩⟩;refine ⟨.ref s.heap.objs.size,_,I2,rfl,⟨_,x,rfl,hT0,rfl,λxs' q=>by rw[I.list_inj q qx];exact ex⟩,?_,λb hb=>?_⟩
  ·exact ⟨⟨_,by simpa using he''⟩,a2.at λo q=>(hs.2 _ hei.symm).trans q⟩
  ·rw[aU]
   ·exact (hf b hb).1
   ·obtain ⟨o1,g1,_⟩:=h1;simp only[ay,aG,or_false] at hb;rcases hb with rfl | rfl
    ·exact ene.symm
    ·exact bN (Heap.lt_size g1)
 done:=by
  intro X hP hw hK hc i pins s σ H E I hf st hg;subst hP hw hK;obtain ⟨⟨old,he⟩,h1⟩:=st;obtain ⟨xs,qx,hend⟩:=hg;obtain ⟨us,rx,px,_⟩:=I.list qx;have lx:=rx.length;refine wpAny_pyNext_enum_end (I.ok.hd hc) he h1 px.isList (by simp;lia) λh' hk=>⟨rfl,?_⟩
  exact I.moved (g':=s.gens) (d':=s.drawn) (t':=s.toks) (ch:=[e,it]) hf (λb o hb q=>hk b o (λz=>hb (by simp [z])) q) I.bare
 self:=λ_ _ _ _ _ st h=>let ⟨⟨_,he⟩,_⟩:=st;wpAny_pyIter_enum he h
section
variable {X:Cx}
def OT (K:FG9) (ta:TA):TI:=λσ H R=>ta σ H λvs H1=>∃l,vs=[.ref l]/\(∃xs,bE K H1 l xs)/\R (QV K l) H1
theorem HL {a:Expr} {ta:TA} {p pos tpos:Pos} {elts:List Expr} {kk:Nat} (hg:Gl X "enumerate") (hm:X.mg "enumerate"=none) (ha:PA X [a] ta) (hs:starEach [a] X.env=[(false,eval a X.env)]:=by rfl) :
  PI X (.Tuple elts kk tpos) (.Call (.Name "enumerate" p) [a] [] pos) (OT X.K ta):=by
 intro pins s σ H R I h;refine Call_ (jR I hg hm boot_enumerate (PyProof.Rows.callWith_type1 (fz (ha pos pins s σ H _ I h) λus s1 ⟨vs,H1,I1,r1,q1⟩=>?_) (by rw[hs];rfl) rfl));obtain ⟨l,e,⟨xs,qx⟩,q⟩:=q1;subst e;obtain ⟨u,rfl,ru⟩:=vals1 r1;cases ru;obtain ⟨us,rx,px,_⟩:=I1.list qx;refine call_enumerate_list px.isList λh' a1 a2 a3 hk=>wpAny_pyIter_enum a1 ?_
 have I2:Inv X pins σ H1 { s1 with heap:=h' }:=I1.kept (t':=s1.toks) hk;refine ⟨_,[s1.heap.objs.size+1,s1.heap.objs.size],_,_,H1,rfl,I2,Jf (s1.heap.objs.size+1) s1.heap.objs.size l (Nat.succ_ne_self _),⟨⟨_,a1⟩,a2⟩,λb hb=>?_,q⟩
 have hb':s1.heap.objs.size<=b:=by
  simp only[ay,aG,or_false] at hb;rcases hb with rfl | rfl <;> first | exact Cp _ | exact aj _
 exact I1.fpOk hb' (I1.hok.fresh hb')
end
theorem K2 {K:FG9} (h:ta σ H λvs H1=>∃l,vs=[.ref l]/\(∃xs,bE K H1 l xs)/\R (QV K l) H1):OT K ta σ H R:=h
theorem LQ {K:FG9} {g:TG} {tb:TS} {D:Ends} (Pv:Nat->St->Hp->Prop) (h0:Pv 0 σ H) (hl:∀i σ H,i<=xs.length->Pv i σ H->bE K H l xs)
  (hs:∀i x σ H p,xs[i]?=some x->Pv i σ H->H p=none->g (.ref p) σ (upd H p (.tup [.int i,x])) λσ2 H2=>tb { D with nx:=Pv (i+1),ct:=Pv (i+1),bk:=D.nx } σ2 H2) (hd:∀σ H,Pv xs.length σ H->D.nx σ H) :
  ∃W:Nat->Nat->St->Hp->Prop,(∃m,W 0 m σ H)/\∀i m σ H,W i m σ H →
   ((QV K l).stop i H/\D.nx σ H)\/((QV K l).go i H/\∃N:St->Hp->Prop,(∀σ' H',N σ' H'->∃m',m' < m/\W (i+1) m' σ' H')/\∀x H',(QV K l).yld i H x H'->g x σ H' λσ2 H2=>tb { D with nx:=N,ct:=N,bk:=D.nx } σ2 H2):=by
 refine ⟨λi m σ H=>m=xs.length - i/\i<=xs.length/\Pv i σ H,⟨xs.length,by simp,aW _,h0⟩,?_⟩;rintro i m σ H ⟨rfl,hi,p⟩;have q1:=hl i σ H hi p;by_cases hlt:i < xs.length
 ·refine .inr ⟨⟨xs,xs[i],q1,by simp [hlt]⟩,Pv (i+1),λσ' H' p'=>⟨xs.length - (i+1),by lia,rfl,hlt,p'⟩,λx H' y=>?_⟩;obtain ⟨r,x',rfl,hr,rfl,e1⟩:=y;exact hs i x' σ _ r (e1 xs q1) p hr
 ·have e:i=xs.length:=by lia
  subst e;exact .inl ⟨⟨xs,q1,aj _⟩,hd σ H p⟩
section
variable {X:Cx}
theorem NA (K:FG9) {e:Expr} {f:Str} {pos:Pos} {ta:TE} (he:PE X e ta) (hb:attributeBase e f X.env (eval e X.env)=eval e X.env) (hK:X.K=K:=by rfl):PE X (.Attribute e f pos) (Pk K ta f):=by subst hK;exact c7 he hb
end
theorem PY {K:FG9} (h:ta σ H λx H1=>∃a C dx fs v,x=.ref a/\H1 a=some (.ins C dx fs)/\Kg K C/\jt K C f/\fs.lookup f=some v/\Q v H1):Pk K ta f σ H Q:=h
theorem MV {K:FG9} (h:tv σ H λy H1=>ta σ H1 λx H2=>∃a C dx fs,x=.ref a/\H2 a=some (.ins C dx fs)/\Kg K C/\jt K C f/\fs.length < 1000 /\
 D.nx σ (upd H2 a (.ins C dx (cx f y fs)))):RE K ta tv f D σ H:=h
theorem M4 (h:ta σ H λx H1=>∃a dx fs,x=.ref a/\H1 a=some (.ins C dx fs)/\fs.lookup m=none /\
 t σ H1 λvs H2=>sp (x :: vs) H2 Q E):OB C m sp [] E ta t σ H Q:=by
 have e:(λ(x:V) H1=>∃a dx fs,x=.ref a/\H1 a=some (.ins C dx fs)/\fs.lookup m=none/\t σ H1 λvs H2=>sp (x :: (vs++[])) H2 Q E)=λx H1=>∃a dx fs,x=.ref a/\H1 a=some (.ins C dx fs)/\fs.lookup m=none/\t σ H1 λvs H2=>sp (x :: vs) H2 Q E:=by
  funext x H1;simp only[iW]
 show ta σ H (λ(x:V) H1=>∃a dx fs,x=.ref a/\H1 a=some (.ins C dx fs)/\fs.lookup m=none/\t σ H1 λvs H2=>sp (x :: (vs++[])) H2 Q E)
 rw[e];exact h
theorem M5 (h:t σ H λvs H1=>∀x dx,H1 x=none->H1 dx=none->dx≠x →
 sp (.ref x :: vs) (upd (upd H1 dx (.own x)) x (.ins C dx [])) (λv H2=>v=.non/\Q (.ref x) H2) E):OC C sp [] E t σ H Q:=by
 have e:(λvs (H1:Hp)=>∀x dx,H1 x=none->H1 dx=none->dx≠x->sp (.ref x :: (vs++[])) (upd (upd H1 dx (.own x)) x (.ins C dx [])) (λv H2=>v=.non/\Q (.ref x) H2) E)=λvs H1=>∀x dx,H1 x=none->H1 dx=none->dx≠x->sp (.ref x :: vs) (upd (upd H1 dx (.own x)) x (.ins C dx [])) (λv H2=>v=.non/\Q (.ref x) H2) E:=by
  funext vs H1;simp only[iW]
 show t σ H (λvs (H1:Hp)=>∀x dx,H1 x=none->H1 dx=none->dx≠x->sp (.ref x :: (vs++[])) (upd (upd H1 dx (.own x)) x (.ins C dx [])) (λv H2=>v=.non/\Q (.ref x) H2) E)
 rw[e];exact h
def DT (x:Addr) (H H':Hp):Prop:=∀b o,H b=some o->b≠x->H' b=some o
theorem DT.upd:DT x H (L2.upd H x o):=λb u h n=>by rw[aU n];exact h
def sW (H:Hp) (x:Addr):Prop:=∃C dx fs,H x=some (.ins C dx fs)
section
variable {K:FG9} {H H' H0:Hp} {q:Rat} {v:V} {x p:Addr} {qs:List Rat} {rows:LR9}
theorem cA.exc (h:cA K H q v) (e:DT x H H') (hx:sW H x):cA K H' q v:=by
 obtain ⟨C,dx,fs,hx⟩:=hx;obtain ⟨r,er,s⟩:=h;refine ⟨r,er,?_⟩;rcases s with (h | ⟨o,h⟩) | h
 ·exact .inl (.inl (e _ _ h λz=>by rw[z,hx] at h;cases h))
 ·exact .inl (.inr ⟨o,e _ _ h λz=>by rw[z,hx] at h;cases h⟩)
 ·exact .inr h
theorem cP.exc (h:cP K H p qs) (e:DT x H H') (hx:sW H x):cP K H' p qs:=by
 obtain ⟨xs,g,r⟩:=h;have hx':=hx;obtain ⟨C,dx,fs,hx⟩:=hx;exact ⟨xs,e _ _ g (λz=>by rw[z,hx] at g;cases g),Paired.imp' (λ_ _ z=>z.exc e hx') r⟩
theorem cU.exc (h:cU K H0 H qs v) (e:DT x H H') (hx:sW H x):cU K H0 H' qs v:=by obtain ⟨q,a,b,c⟩:=h;exact ⟨q,a,b,c.exc e hx⟩
theorem bG.exc (h:bG K H0 H p rows) (e:DT x H H') (hx:sW H x):bG K H0 H' p rows:=by
 obtain ⟨xs,g,r,n⟩:=h;have hx':=hx;obtain ⟨C,dx,fs,hx⟩:=hx;exact ⟨xs,e _ _ g (λz=>by rw[z,hx] at g;cases g),Paired.imp' (λ_ _ z=>z.exc e hx') r,n⟩
end
def mh (a b c:Addr) (n i o:Nat):List (Str×V):=cx "outs" (.int o) (cx "look" (.ref c) (cx "ins" (.int i) (cx "put" (.ref b) (cx "states" (.int n) (cx "move" (.ref a) [])))))
section
variable {a b c:Addr} {n i o:Nat}
theorem Ku:(mh a b c n i o).lookup ("look":Str)=some (.ref c):=by
 unfold mh;rw[br,if_neg (by decide +kernel),br,if_pos rfl]
theorem uf:(mh a b c n i o).lookup ("ins":Str)=some (.int i):=by
 unfold mh;rw[br,if_neg (by decide +kernel),br,if_neg (by decide +kernel),br,if_pos rfl]
theorem uc:(mh a b c n i o).lookup ("put":Str)=some (.ref b):=by
 unfold mh;rw[br,if_neg (by decide +kernel),br,if_neg (by decide +kernel),br,if_neg (by decide +kernel),br,if_pos rfl]
theorem d5:(mh a b c n i o).lookup ("states":Str)=some (.int n):=by
 unfold mh;rw[br,if_neg (by decide +kernel),br,if_neg (by decide +kernel),br,if_neg (by decide +kernel),br,if_neg (by decide +kernel),br,if_pos rfl]
theorem ue:(mh a b c n i o).lookup ("move":Str)=some (.ref a):=by
 unfold mh;rw[br,if_neg (by decide +kernel),br,if_neg (by decide +kernel),br,if_neg (by decide +kernel),br,if_neg (by decide +kernel),br,if_neg (by decide +kernel),br,if_pos rfl]
theorem Po {m:Str} (h1:¬m="outs") (h2:¬m="look") (h3:¬m="ins") (h4:¬m="put") (h5:¬m="states") (h6:¬m="move"):(mh a b c n i o).lookup m=none:=by
 unfold mh;rw[br,if_neg h1,br,if_neg h2,br,if_neg h3,br,if_neg h4,br,if_neg h5,br,if_neg h6];rfl
theorem Jh:(mh a b c n i o).lookup ("moved":Str)=none:=Po (by decide +kernel) (by decide +kernel) (by decide +kernel) (by decide +kernel) (by decide +kernel) (by decide +kernel)
end
theorem d7 {k:Str} {v:V}:∀{l:List (Str×V)},(cx k v l).length<=l.length+1
 | []=>aj _
 | (x,y) :: r=>by
  unfold cx
  split
  ·simp
  ·have:=d7 (k:=k) (v:=v) (l:=r);simp only[bR]
   lia
structure gF (mv pt lk:LR9):Prop where
 n8:mv.length<=8
 i4:pt.length<=4
 o4:lk.length<=4
 mw:∀xs∈mv,xs.length=mv.length
 pw:∀xs∈pt,xs.length=mv.length
 lw:∀xs∈lk,xs.length=mv.length
def Cm (mv pt lk:LR9):Prop:=∃M V:Nat,0 < M/\M<=2^800/\V<=2^400/\GF M V mv/\GF M V pt/\GF M V lk
def kH (K:FG9) (H0 H:Hp) (C p:Addr) (mv pt lk:LR9):Prop:=∃dx a b c,H p=some (.ins C dx (mh a b c mv.length pt.length lk.length))/\H0 a=none/\H0 b=none/\H0 c=none/\bG K H0 H a mv/\bG K H0 H b pt/\bG K H0 H c lk
section
variable {K:FG9} {H H' H0 H1:Hp} {C p b:Addr} {mv pt lk:LR9}
theorem kH.same (h:kH K H0 H C p mv pt lk) (e:aI H H'):kH K H0 H' C p mv pt lk:=by obtain ⟨dx,a,b,c,g,n1,n2,n3,g1,g2,g3⟩:=h;exact ⟨dx,a,b,c,e _ _ g,n1,n2,n3,g1.same e,g2.same e,g3.same e⟩
theorem kH.upto (h:kH K H0 H C p mv pt lk) (u:cZ b H H') (B:jx H b) (nb:H0 b≠none):kH K H0 H' C p mv pt lk:=by
 obtain ⟨dx,a,b',c,g,n1,n2,n3,g1,g2,g3⟩:=h;refine ⟨dx,a,b',c,u.other (λz=>by obtain ⟨_,_,_,_,_,e,_⟩:=B;rw[z,e] at g;cases g) g,n1,n2,n3,g1.upto u B (λz=>nb (by rw[<- z];exact n1)) nb,g2.upto u B (λz=>nb (by rw[<- z];exact n2)) nb,g3.upto u B (λz=>nb (by rw[<- z];exact n3)) nb⟩
theorem kH.weak (h:kH K H0 H C p mv pt lk) (e:aI H1 H0):kH K H1 H C p mv pt lk:=by obtain ⟨dx,a,b,c,g,n1,n2,n3,g1,g2,g3⟩:=h;exact ⟨dx,a,b,c,g,e.none n1,e.none n2,e.none n3,g1.weak e,g2.weak e,g3.weak e⟩
theorem Cm.fits (h:Cm mv pt lk) (hl:∀x∈l,(∃xs∈mv,x∈xs)\/(∃xs∈pt,x∈xs)\/(∃xs∈lk,x∈xs)\/x=0):Fits l:=by
 obtain ⟨M,V,h0,h1,h2,h3,h4,h5⟩:=h;refine ⟨M,V,h0,ag h1 (av (by decide) (by decide)),ag h2 (av (by decide) (by decide)),λx hx=>?_⟩;rcases hl x hx with ⟨xs,a,b⟩ | ⟨xs,a,b⟩ | ⟨xs,a,b⟩ | rfl
 ·exact h3 xs a x b
 ·exact h4 xs a x b
 ·exact h5 xs a x b
 ·exact Fr.zero
theorem gF.turn (h:gF mv pt lk):gF (cm mv mv.length) lk pt:=⟨by rw[dz];exact h.n8,h.o4,h.i4,λxs hx=>by rw[iL xs hx,dz],λxs hx=>by rw[dz];exact h.lw xs hx,λxs hx=>by rw[dz];exact h.pw xs hx⟩
end
def Ji:Sp:=λvs H Q _=>∃i:Int,vs=[.int i]/\Q (.bl true) H
def Jl (K:FG9):Sp:=λvs H Q _=>∃x n,vs=[x]/\Fe K H x n/\xQ n/\∀H',aI H H'->Q (.bl true) H'
inductive Ht (vs:List V) (H:Hp) (Q:VK) (E9:XK):Prop
 | mk (p:Addr) (xs:List V) (a m:Int):vs=[.ref p,.int a,.int m]->H p=some (.lst xs)->(xs.length:Int)<=m->Q .non H->Ht  vs H Q E9
inductive HG (K:FG9) (vs:List V) (H:Hp) (Q:VK) (E9:XK):Prop
 | mk (p:Addr) (H0:Hp) (rows:LR9) (w:Nat):vs=[.ref p,.int w]->bG K H0 H p rows->rows.length<=1000->w<=1000->((∀xs∈rows,xs.length=w/\∀x∈xs,xQ (nm x)))->(∀r H',H r=none->aI H H'->bG K H H' r rows->Q (.ref r) H')->HG K vs H Q E9
def Kf (rows:LR9):Prop:=∀xs∈rows,∀x∈xs,xQ (nm x)
inductive Hw (K:FG9) (C:Addr) (vs:List V) (H:Hp) (Q:VK) (E9:XK):Prop
 | mk (x dx p q r:Addr) (Hb H0 H1 H2:Hp) (mv pt lk:LR9):vs=[.ref x,.ref p,.ref q,.ref r]->Hb x=none->Hb dx=none->dx≠x->H=upd (upd Hb dx (.own x)) x (.ins C dx [])->bG K H0 Hb p mv->bG K H1 Hb q pt->bG K H2 Hb r lk->gF mv pt lk->Kf mv->Kf pt->Kf lk->(∀H',aI Hb H'->kH K Hb H' C x mv pt lk->Q .non H')->Hw K C vs H Q E9
def ft (mv pt:LR9) (st pu:List Rat):List Rat:=List.zipWith (λline col=>eT (line++col) (st++pu)) mv (cm pt mv.length)
theorem Cm.ok (h:Cm mv pt lk):Kf mv/\Kf pt/\Kf lk :=
 ⟨λxs hx x hx'=>(h.fits (l:=xs) λy hy=>.inl ⟨xs,hx,hy⟩).ok hx',λxs hx x hx'=>(h.fits (l:=xs) λy hy=>.inr (.inl ⟨xs,hx,hy⟩)).ok hx',λxs hx x hx'=>(h.fits (l:=xs) λy hy=>.inr (.inr (.inl ⟨xs,hx,hy⟩))).ok hx'⟩
def gh (K:FG9) (A:Addr->Prop) (H:Hp) (n:Nat) (C:Rat->Prop) (x:V):Prop:=∃q qs,x=V.ref q/\A q/\cP K H q qs/\qs.length=n/\∀y∈qs,C y
section
variable {K:FG9} {A A':Addr->Prop} {H H' H0:Hp} {n:Nat} {C C':Rat->Prop} {x v:V} {q b l p:Addr} {xs zs:List V} {y:Rat} {o:HO}
theorem gh.same (h:gh K A H n C x) (e:aI H H'):gh K A H' n C x:=by obtain ⟨q,qs,a,c,r,z⟩:=h;exact ⟨q,qs,a,c,r.same e,z⟩
theorem gh.upto (h:gh K A H n C x) (u:cZ b H H') (B:jx H b) (nb:¬A b):gh K A H' n C x:=by obtain ⟨q,qs,a,c,r,z⟩:=h;exact ⟨q,qs,a,c,r.upto u B (λe=>nb (by rw[<- e];exact c)),z⟩
theorem gh.other (h:gh K A H n C x) (hl:H l=some (.lst zs)) (nl:¬A l):gh K A (upd H l o) n C x:=by obtain ⟨q,qs,a,c,r,z⟩:=h;exact ⟨q,qs,a,c,r.updL hl (λe=>nl (by rw[<- e];exact c)),z⟩
theorem gh.weak (h:gh K A H n C x) (w:∀q,A q->A' q) (wc:∀y,C y->C' y):gh K A' H n C' x:=by obtain ⟨q,qs,a,c,r,l,z⟩:=h;exact ⟨q,qs,a,w q c,r,l,λy hy=>wc y (z y hy)⟩
theorem za {α β:Type} {F:α->β->Prop} {a:α} {b:β} (h:F a b):∀{l1:List α} {l2:List β} (j:Nat),Paired F l1 l2->Paired F (l1.set j a) (l2.set j b)
 | _,_,_,.nil=>.nil
 | _,_,0,.cons _ t=>.cons h t
 | _,_,j+1,.cons r t=>.cons r (za h j t)
theorem gh.put (h:gh K A H n C x) (hq:H q=some (.lst zs)) (hv:cA K H y v) (hc:C y) (j:Nat):gh K A (upd H q (.lst (zs.set j v))) n C x:=by
 obtain ⟨q1,qs,rfl,a,⟨zs1,g1,pr⟩,l1,c1⟩:=h;by_cases e:q1=q
 ·subst e;rw[hq] at g1;cases g1;refine ⟨q1,qs.set j y,rfl,a,⟨_,aH,za (hv.updL hq) j (Paired.imp' (λ_ _ z=>z.updL hq) pr)⟩,by rw[fo];exact l1,λz hz=>?_⟩;rcases cG hz with hz | rfl
  ·exact c1 z hz
  ·exact hc
 ·exact ⟨q1,qs,rfl,a,⟨zs1,by rw[aU e];exact g1,Paired.imp' (λ_ _ z=>z.updL hq) pr⟩,l1,c1⟩
theorem gh.at (h:gh K A H n C x):∃q zs qs,x=V.ref q/\A q/\H q=some (.lst zs)/\zs.length=n/\Paired (cA K H) qs zs/\qs.length=n/\∀y∈qs,C y:=by obtain ⟨q,qs,a,c,⟨zs,g,pr⟩,l,z⟩:=h;exact ⟨q,zs,qs,a,c,g,by rw[<- pr.length];exact l,pr,l,z⟩
end
theorem rA {i:Int} (h:i.natAbs<=W) (hW:1<=W):Dr W (i:Rat):=⟨h,hW⟩
def SJ (K:FG9) (A:Addr->Prop) (H:Hp) (n:Nat) (C:Rat->Prop) (p:Addr) (m:Nat):Prop:=∃us,H p=some (.lst us)/\us.length=m/\¬A p/\∀x∈us,gh K A H n C x
structure GK (A:Addr->Prop) (m p l b q0:Addr):Prop where
 am:¬A m
 ap:¬A p
 al:¬A l
 ab:¬A b
 aq:¬A q0
 mb:m≠b
 pb:p≠b
 lb:l≠b
 mp:m≠p
 ml:m≠l
 mq:m≠q0
theorem Ii {M:Nat} {z:Int} (h:z.natAbs<=2):Fr 1 2 (z:Rat):=Fr.int h
theorem Ds {z:Int} (hz:z.natAbs<=2) (ha:Fr M W a) (hc:Fr M W c):Fr M (3*W) (a+(z:Rat)*c):=by
 have h:=(Ii (M:=M) hz).mul hc;rw[vz] at h;exact (ha.add h).mono (by lia)
theorem CB {z:Int} (h:z.natAbs<=1000):j4 (z:Rat):=Dq (M:=1) (V:=1000) (by decide) (b8) (ag (show 1000<=2^10 by decide) (av (by decide) (by decide))) (Fr.int h)
theorem yy {z:Int} (hz:z.natAbs<=2) (hc:Fr M W c) (h0:0 < M) (h1:M<=2^800) (hW:W<=2^140):j4 ((z:Rat)*c):=by
 have h:=(Ii (M:=M) hz).mul hc;rw[vz] at h;refine Dq h0 (ag h1 (av (by decide) (by decide))) (ag (cN 2 hW) ?_) h;rw[show 2*2^140=2^141 by rw[cY,bH]];exact av (by decide) (by decide)
def ia (A:Addr->Prop) (b m:Addr) (H H':Hp):Prop:=∀c u,H c=some u->c≠b->¬A c->c≠m->H' c=some u
theorem ia.same (h:ia A b m H H1) (s:aI H1 H2):ia A b m H H2:=λc u e n1 n2 n3=>s _ _ (h c u e n1 n2 n3)
theorem ia.upto (h:ia A b m H H1) (s:cZ b H1 H2):ia A b m H H2:=λc u e n1 n2 n3=>s.1 _ _ (h c u e n1 n2 n3) n1
theorem ia.upd (h:ia A b m H H1) (hq:A q\/q=m):ia A b m H (L2.upd H1 q o):=λc u e n1 n2 n3=>by
 rw[aU]
 ·exact h c u e n1 n2 n3
 ·rintro rfl;rcases hq with hq | hq
  ·exact n2 hq
  ·exact n3 hq
theorem ia.new (h:ia A b m H H1) (hA:∀q,H q=none->A q) (B:jx H1 b) (hm:H1 m≠none) (hr:H1 r=none):A r:=by
 by_cases z:A r
 ·exact z
 ·cases e:H r with
  | none=>exact hA r e
  | some u =>
   have:=h r u e (λy=>B.at (by rw[<- y];exact hr)) z (λy=>hm (by rw[<- y];exact hr));rw[hr] at this;cases this
structure IY (K:FG9) (A:Addr->Prop) (n:Nat) (C:Rat->Prop) (r p b q0:Addr) (us:List V) (H0 H:Hp):Prop where
 gr:H r=some (.lst us)
 ru:∀x∈us,gh K A H n C x
 rp:gh K A H n C (.ref p)
 bag:jx H b
 inn:Inner H b q0
 up:cZ b H0 H
section
variable {K:FG9} {A:Addr->Prop} {n:Nat} {C:Rat->Prop} {r p b q0:Addr} {us:List V} {H0 H H':Hp} {y:Rat} {v:V}
theorem IY.same (h:IY K A n C r p b q0 us H0 H) (e:aI H H'):IY K A n C r p b q0 us H0 H':=⟨e _ _ h.gr,λx hx=>(h.ru x hx).same e,h.rp.same e,h.bag.same e,(e.upto (p:=b)).2 _ h.inn,h.up.same e⟩
theorem IY.upto (h:IY K A n C r p b q0 us H0 H) (u:cZ b H H') (B:jx H' b) (nb:¬A b) (rb:r≠b):IY K A n C r p b q0 us H0 H':=⟨u.other rb h.gr,λx hx=>(h.ru x hx).upto u h.bag nb,h.rp.upto u h.bag nb,B,u.2 _ h.inn,h.up.trans u⟩
theorem IY.put (h:IY K A n C r p b q0 us H0 H) (ap:A p) (nr:¬A r) (nb:¬A b) (nq:¬A q0) (hp:H0 p=none) (hv:cA K H y v) (hc:C y) (j:Nat):∃zs,H p=some (.lst zs)/\zs.length=n/\IY K A n C r p b q0 us H0 (upd H p (.lst (zs.set j v))):=by
 obtain ⟨q,zs,qs,e,a,g,l,_⟩:=h.rp.at;cases e;have ne:∀{z},¬A z->z≠p:=λh e=>h (by rw[e];exact ap)
 exact ⟨zs,g,l,by rw[aU (ne nr)];exact h.gr,λx hx=>(h.ru x hx).put g hv hc j,h.rp.put g hv hc j,h.bag.upd h.inn (ne nb).symm (ne nq).symm,h.inn.upd (ne nb).symm,h.up.after hp⟩
end
theorem yT {K:FG9} (h:∀x∈us,gh K A H n C x):∃rows:LR9,Paired (λqs x=>∃q,x=V.ref q/\A q/\cP K H q qs) rows us/\rows.length=us.length/\∀qs∈rows,qs.length=n/\∀y∈qs,C y:=by
 induction us with
 | nil=>exact ⟨[],.nil,rfl,λ_ z=>nomatch z⟩
 | cons u us ih =>
  obtain ⟨rows,pr,l,hr⟩:=ih λx hx=>h x (.tail _ hx)
  obtain ⟨q,qs,e,a,r,l1,c⟩:=h u (.head _);refine ⟨qs :: rows,.cons ⟨q,e,a,r⟩ pr,by simp [l],λzs hz=>?_⟩;rcases ay.mp hz with rfl | hz
  ·exact ⟨l1,c⟩
  ·exact hr zs hz
theorem FL {K:FG9} {rows:LR9} (pr:Paired (λqs x=>∃q,x=V.ref q/\A q/\cP K H q qs) rows us) (h:∀qs∈rows,qs.length=n/\∀y∈qs,C y):∀x∈us,gh K A H n C x:=λx hx=>by
 obtain ⟨qs,hq,q,e,a,r⟩:=eI pr hx;exact ⟨q,qs,e,a,r,(h qs hq).1,(h qs hq).2⟩
theorem BJ {n:Nat}:∀{rows:LR9},(∀xs∈rows,xs.length=n)->rows.flatten.length=rows.length*n
 | [],_=>by simp
 | xs :: rows,h=>by
  rw[mS,au,h xs (.head _),BJ λys hy=>h ys (.tail _ hy),bR,dZ,fE]
theorem MS {rows:LR9} (h:∀qs∈rows,qs.length=n/\∀y∈qs,Dr (2^c) y):∃M:Nat,0 < M/\M<=2^(c*(rows.length*n))/\∀qs∈rows,∀y∈qs,Fr M (2^c) y:=by
 have fl:rows.flatten.length=rows.length*n:=BJ λys hy=>(h ys hy).1
 have hm:∀a∈rows.flatten.map (·.den),0 < a/\a<=2^c:=λa ha=>by
  obtain ⟨y,hy,rfl⟩:=ax.mp ha;obtain ⟨qs,hq,hy⟩:=List.mem_flatten.mp hy;exact ⟨y.den_pos,((h qs hq).2 y hy).2⟩
 refine ⟨ur (rows.flatten.map (·.den)),vX λa ha=>(hm a ha).1,?_,λqs hq y hy=>?_⟩
 ·have:=yW (k:=c) (l:=rows.flatten.map (·.den)) λa ha=>(hm a ha).2
  rwa [ah,fl] at this
 ·exact (Fr.own y ((h qs hq).2 y hy).1).dvd (vY (ax.mpr ⟨y,List.mem_flatten.mpr ⟨qs,hq,hy⟩,rfl⟩))
theorem tQ {K:FG9} (h:SJ K A H n C p m) (w:∀q,A q->H0 q=none):∃rows,bG K H0 H p rows/\rows.length=m/\∀qs∈rows,qs.length=n/\∀y∈qs,C y:=by
 obtain ⟨us,g,l,a,r⟩:=h;obtain ⟨rows,pr,lr,hr⟩:=yT r;refine ⟨rows,⟨us,g,Paired.imp' (λ_ _ ⟨q,e,aq,rq⟩=>⟨q,e,w q aq,rq⟩) pr,λhm=>?_⟩,by rw[lr,l],hr⟩;obtain ⟨q,_,e,aq,_⟩:=r _ hm;cases e;exact a aq
theorem ia.trans (h:ia A b m H H1) (h':ia A b m H1 H2):ia A b m H H2:=λc u e n1 n2 n3=>h' c u (h c u e n1 n2 n3) n1 n2 n3
theorem KO {K:FG9} {rows:LR9} (pr:Paired (cU K H0 H) rows us) (h:∀qs∈rows,qs.length=n/\∀y∈qs,C y) (w:∀q,V.ref q∈us->H0 q=none->H q≠none->A q):∀x∈us,gh K A H n C x:=λx hx=>by
 obtain ⟨qs,hq,q,e,a,r⟩:=eI pr hx;subst e;exact ⟨q,qs,rfl,w q hx a (by obtain ⟨_,g,_⟩:=r;rw[g];simp),r,(h qs hq).1,(h qs hq).2⟩
def lY (K:FG9) (H0 H:Hp) (r:Addr) (mv pt lk:LR9):Prop:=∃m p l,H r=some (.tup [.ref m,.ref p,.ref l])/\H0 m=none/\H0 p=none/\H0 l=none/\bG K H0 H m mv/\bG K H0 H p pt/\bG K H0 H l lk
section
variable {K:FG9} {H H' H0 H1:Hp} {r b:Addr} {mv pt lk:LR9}
theorem lY.same (h:lY K H0 H r mv pt lk) (e:aI H H'):lY K H0 H' r mv pt lk:=by obtain ⟨m,p,l,g,n1,n2,n3,g1,g2,g3⟩:=h;exact ⟨m,p,l,e _ _ g,n1,n2,n3,g1.same e,g2.same e,g3.same e⟩
theorem lY.upto (h:lY K H0 H r mv pt lk) (u:cZ b H H') (B:jx H b) (nb:H0 b≠none):lY K H0 H' r mv pt lk:=by
 obtain ⟨m,p,l,g,n1,n2,n3,g1,g2,g3⟩:=h;exact ⟨m,p,l,u.tup B g,n1,n2,n3,g1.upto u B (λz=>nb (by rw[<- z];exact n1)) nb,g2.upto u B (λz=>nb (by rw[<- z];exact n2)) nb,g3.upto u B (λz=>nb (by rw[<- z];exact n3)) nb⟩
end
inductive yB (K:FG9) (C:Addr) (vs:List V) (H:Hp) (Q:VK) (E9:XK):Prop
 | mk (r:Addr) (H0:Hp) (mv pt lk:LR9):vs=[.ref r]->lY K H0 H r mv pt lk->gF mv pt lk->Cm mv pt lk->(∀x H',H x=none->aI H H'->kH K H H' C x mv pt lk->Q (.ref x) H')->yB K C vs H Q E9
def nextK (mv pt:LR9) (st pu:List Rat) (k:Nat):List Rat:=List.zipWith (λline col=>eT (line++col.take k) (st++pu.take k)) mv (cm pt mv.length)
theorem iO {st pu:List Rat}:(nextK mv pt st pu k).length=mv.length:=by unfold nextK;rw[aP,dz];lia
theorem rT {st pu:List Rat} (h1:pt.length<=k) (h2:pu.length<=k):nextK mv pt st pu k=ft mv pt st pu:=by
 unfold nextK ft;apply mT;intro i;rw[bF,bF];cases e1:mv[i]? with
 | none=>rfl
 | some line =>
  cases e2:(cm pt mv.length)[i]? with
  | none=>rfl
  | some col =>
   have:=iL col (ak e2);show some _=some _
   rw[aE (by lia),aE h2]
theorem Cv (h:i < w):(cm rows w)[i]?=some (rows.map λxs=>xs.getD i 0):=by
 unfold cm;rw[az,bo h];rfl
theorem F3 {st pu:List Rat}:nextK mv pt st pu 0=mv.map λxs=>eT xs st:=by
 unfold nextK;apply mT;intro i;rw[bF,az];by_cases hi:i < mv.length
 ·rw[Cv hi,af hi];simp
 ·rw[aJ (by lia)];rfl
theorem zB {st pu:List Rat} (hi:i < mv.length):(nextK mv pt st pu k).getD i 0=eT (mv[i]++(pt.map λxs=>xs.getD i 0).take k) (st++pu.take k):=by
 rw[aa];unfold nextK;rw[bF,af hi,Cv hi];rfl
theorem rB (h:as.length=xs.length):eT (as++bs) (xs++ys)=eT as xs+eT bs ys:=by
 unfold eT;rw[List.zipWith_append h,List.sum_append]
theorem F4 {st pu:List Rat} (hm:∀xs∈mv,xs.length=st.length) (h1:k < pt.length) (h2:k < pu.length) (hw:(pt[k]).length=mv.length) :
  List.zipWith (λx y=>x+y) (nextK mv pt st pu k) ((pt[k]).map λy=>pu[k]*y)=nextK mv pt st pu (k+1):=by
 have l1:((pt[k]).map λy=>pu[k]*y).length=mv.length:=by rw[ah,hw]
 rw[Bc (by rw[l1,iO])];apply mT;intro i;rw[az,iO];by_cases hi:i < mv.length
 ·have e0:(nextK mv pt st pu (k+1))[i]?=some ((nextK mv pt st pu (k+1)).getD i 0):=by
   rw[aa,af (by rw[iO];exact hi)];rfl
  rw[bo hi,e0,zB hi];have ll:=hm mv[i] (aB hi);have ec:(pt.map λxs=>xs.getD i 0)[k]?=some ((pt[k]).getD i 0):=by rw[az,af h1];rfl
  have ep:pu[k]?=some pu[k]:=af h2
  have e3:((pt[k]).map λy=>pu[k]*y).getD i 0=pu[k]*(pt[k]).getD i 0:=by
   rw[getD_map (by rw[hw];exact hi),aa,af (by rw[hw];exact hi)];rfl
  show some ((nextK mv pt st pu k).getD i 0+((pt[k]).map λy=>pu[k]*y).getD i 0)=some _
  rw[zB hi,e3,take_snoc ec,take_snoc ep,rB ll,rB ll,rB (by rw[bZ,bZ,ah];lia)];have:eT [(pt[k]).getD i 0] [pu[k]]=(pt[k]).getD i 0*pu[k]:=by simp [eT,rX]
  rw[this];congr 1;grind
 ·rw[aJ (by simpa using hi),aJ (by rw[iO];lia)];rfl
def qg (k j:Nat) (l:List Rat):Prop:=∃M V:Nat,0 < M/\M<=2^k/\V<=2^j/\∀x∈l,Fr M V x
section
variable {k j k' j':Nat} {l xs ys:List Rat} {x y:Rat}
theorem qg.szn (h:qg k j l) (hx:x∈l) (hk:k+j<=197500:=by decide):j4 x:=by
 obtain ⟨M,V,h0,h1,h2,h3⟩:=h;obtain ⟨a,b⟩:=(h3 x hx).sz h0 h1 h2;exact ⟨a.mono (by lia),b.mono (by lia)⟩
theorem qg.rowM (h:qg k j l) (hk:k+j<=210000:=by decide):∃M,Fd M (l.map nm):=by
 obtain ⟨M,V,h0,h1,h2,h3⟩:=h;refine ⟨M,by lia,?_,λn hn=>?_⟩
 ·show ((M:Nat):Int).natAbs < 2^220000
  rw[dj];exact bc h1 (df (by decide) (by lia))
 ·obtain ⟨x,hx,rfl⟩:=ax.mp hn;obtain ⟨a,_⟩:=(h3 x hx).sz h0 h1 h2;exact ⟨ij x,(h3 x hx).den,a.mono (by lia)⟩
theorem qg.one (h:qg k j l) (hx:x∈l):qg k j [x]:=by
 obtain ⟨M,V,h0,h1,h2,h3⟩:=h;exact ⟨M,V,h0,h1,h2,λy hy=>by rw[bB.mp hy];exact h3 x hx⟩
theorem LZ (h:qg k j xs) (h':qg k' j' ys) (hl:xs.length<=1000) (i:Nat) (hk:(k+k')+(j+j')<=196500:=by decide):j4 (eT (xs.take i) (ys.take i)):=by
 obtain ⟨M,V,h0,h1,h2,h3⟩:=h;obtain ⟨N,W,k0,k1,k2,k3⟩:=h'
 have e:1000*(V*W)<=2^(10+(j+j')):=by
  rw[bh 2 10];exact aX (by decide) (ag (aX h2 k2) (by rw[<- bh];exact aj _))
 obtain ⟨a,b⟩:=((Fr.dot (λx hx=>h3 x (bW hx)) (λy hy=>k3 y (bW hy))).mono (aw _ (show (xs.take i).length<=1000 by rw[bZ];lia))).sz (cv h0 k0) (ag (aX h1 k1) (by rw[<- bh];exact aj _)) e;exact ⟨a.mono (by lia),b.mono (by lia)⟩
theorem Lo (hx:qg k j [x]) (hy:qg k' j' [y]) (hk:(k+k')+(j+j')<=196500:=by decide):j4 (x*y):=by
 obtain ⟨M,V,h0,h1,h2,h3⟩:=hx;obtain ⟨N,W,k0,k1,k2,k3⟩:=hy;obtain ⟨a,b⟩:=((h3 x (.head _)).mul (k3 y (.head _))).sz (cv h0 k0) (ag (aX h1 k1) (by rw[<- bh];exact aj _)) (ag (aX h2 k2) (by rw[<- bh];exact aj _));exact ⟨a.mono (by lia),b.mono (by lia)⟩
def vw (xs ys:List Rat):Prop:=∃k j k' j':Nat,qg k j xs/\qg k' j' ys/\(k+k')+(j+j')<=196500
theorem vw.sys (h:qg 400 120 xs) (h':qg 1500 1800 ys):vw xs ys:=⟨_,_,_,_,h,h',by decide⟩
end
def MB (mv pt lk:LR9):Prop:=∃M V:Nat,0 < M/\M<=2^400/\V<=2^120/\GF M V mv/\GF M V pt/\GF M V lk
section
variable {mv pt lk:LR9}
theorem MB.fits (h:MB mv pt lk) (hl:∀x∈l,(∃xs∈mv,x∈xs)\/(∃xs∈pt,x∈xs)\/(∃xs∈lk,x∈xs)\/x=0):qg 400 120 l:=by
 obtain ⟨M,V,h0,h1,h2,g1,g2,g3⟩:=h;refine ⟨M,V,h0,h1,h2,λx hx=>?_⟩;rcases hl x hx with ⟨xs,a,b⟩ | ⟨xs,a,b⟩ | ⟨xs,a,b⟩ | rfl
 ·exact g1 xs a x b
 ·exact g2 xs a x b
 ·exact g3 xs a x b
 ·exact Fr.zero
theorem MB.sf (h:MB mv pt lk):Cm mv pt lk:=by obtain ⟨M,V,a,b,c,d⟩:=h;exact ⟨M,V,a,ag b (av (by decide) (by decide)),ag c (av (by decide) (by decide)),d⟩
end
inductive CD (K:FG9) (vs:List V) (H:Hp) (Q:VK) (E9:XK):Prop
 | mk (p q:Addr) (xs ys:List Rat):vs=[.ref p,.ref q]->cP K H p xs->cP K H q ys->ys.length=xs.length->xs.length<=1000->vw xs ys->(∀r H',aI H H'->cA K H' (eT xs ys) (.ref r)->Q (.ref r) H')->CD K vs H Q E9
inductive CC (K:FG9) (vs:List V) (H:Hp) (Q:VK) (E9:XK):Prop
 | mk (p q:Addr) (H0:Hp) (rows:LR9) (ys:List Rat):vs=[.ref p,.ref q]->bG K H0 H p rows->cP K H q ys->rows.length<=1000->ys.length<=1000->((∀xs∈rows,xs.length=ys.length/\vw xs ys))->(∀r H',H r=none->aI H H'->cP K H' r (rows.map λxs=>eT xs ys)->Q (.ref r) H')->CC K vs H Q E9
inductive Bs (K:FG9) (C:Addr) (vs:List V) (H:Hp) (Q:VK) (E9:XK):Prop
 | mk (x p q:Addr) (H0:Hp) (mv pt lk:LR9) (st pu:List Rat):vs=[.ref x,.ref p,.ref q]->kH K H0 H C x mv pt lk->gF mv pt lk->MB mv pt lk->cP K H p st->cP K H q pu->st.length=mv.length->pu.length=pt.length->qg 1500 1800 (st++pu)->(∀r H',H r=none->aI H H'->cP K H' r (ft mv pt st pu)->Q (.ref r) H')->Bs K C vs H Q E9
section
variable {mv pt lk pus:LR9} {st:List Rat} {k:Nat}
theorem Cu (h:GF M W rows):GF M W (cm rows w):=λys hy y hy'=>by
 obtain ⟨j,_,rfl⟩:=ax.mp hy;obtain ⟨xs,hx,rfl⟩:=ax.mp hy';rw[aa];cases e:xs[j]? with
 | none=>exact Fr.zero
 | some z=>exact h xs hx z (ak e)
end
theorem BM {l:List Rat} (h:∀x∈l,Dr (2^c) x) (hc:c<=20):∃B:Nat,0 < B/\B<=2^(c*l.length+2)/\∀x∈l,Fr B (2^22) x:=by
 obtain ⟨M,h0,h1,h2⟩:=NS (c:=c) (n:=l.length) (i:=0) (rows:=[]) Qv rfl h hc;refine ⟨M,h0,?_,h2 l (by simp)⟩;rw[Nat.zero_add,vz] at h1;exact h1
theorem ip {α β:Type} {F:α->β->Prop}:∀{l1:List α} {l2:List β} (_:Paired F l1 l2) (k:Nat),Paired F (l1.drop k) (l2.drop k)
 | _,_,h,0=>h
 | _,_,.nil,_+1=>.nil
 | _,_,.cons _ r,k+1=>ip r k
end L2
namespace L2
abbrev iU:=Nat->Rat
def AD (F:List iU->Rat) (r:Nat):List iU->List iU->Rat->Rat
 | _,[],_=>0
 | pre,v :: post,s=>s*v r*F (pre++post)+AD F r (pre++[v]) post (-s)
def qh:List Nat->List iU->Rat
 | [],[]=>1
 | [],_ :: _=>0
 | r :: rs,vs=>AD (λws=>qh rs ws) r [] vs 1
theorem Dw:qh [] (a++x :: b)=0:=by
 cases a <;> rfl
theorem Di {F:List iU->Rat} {r:Nat} {f g h:iU} {x y:Rat} (hF:∀a b,F (a++h :: b)=x*F (a++f :: b)+y*F (a++g :: b)):∀(b p q:List iU) (s:Rat),AD F r (p++h :: q) b s=x*AD F r (p++f :: q) b s+y*AD F r (p++g :: q) b s
 | [],p,q,s=>by simp only[AD,iB,rX]
 | v :: b,p,q,s=>by
  have i1:=hF p (q++b);have i2:=Di (r:=r) hF b p (q++[v]) (-s);simp only[AD,cz,eF] at i1 i2 ⊢;rw[i1,i2];grind
theorem HW {F:List iU->Rat} {r:Nat} {f g h:iU} {x y:Rat} (hF:∀a b,F (a++h :: b)=x*F (a++f :: b)+y*F (a++g :: b)) (hr:h r=x*f r+y*g r):∀(a pre b:List iU) (s:Rat),AD F r pre (a++h :: b) s=x*AD F r pre (a++f :: b) s+y*AD F r pre (a++g :: b) s
 | [],pre,b,s=>by
  have i2:=Di (r:=r) hF b pre [] (-s);simp only[AD,cV] at i2 ⊢;rw[i2,hr];grind
 | v :: a,pre,b,s=>by
  have i1:=hF (pre++a) b;have i2:=HW hF hr a (pre++[v]) b (-s);simp only[AD,cz,eF] at i1 i2 ⊢;rw[i1,i2];grind
theorem tU {f g h:iU} {x y:Rat}:∀{rs:List Nat},(∀r∈rs,h r=x*f r+y*g r)->∀a b,qh rs (a++h :: b)=x*qh rs (a++f :: b)+y*qh rs (a++g :: b)
 | [],_,a,b=>by rw[Dw,Dw,Dw];grind
 | r :: rs,hr,a,b=>HW (λa b=>tU (λr' h'=>hr r' (.tail _ h')) a b) (hr r (.head _)) a [] b 1
theorem Im (hr:∀r∈rs,h r=0) (a b:List iU):qh rs (a++h :: b)=0:=by
 rw[tU (f:=h) (g:=h) (x:=0) (y:=0) (λr h'=>by rw[hr r h'];grind) a b];grind
theorem HX {F:List iU->Rat} {r:Nat} {x:iU} (hF:∀a b,F (a++x :: x :: b)=0):∀(b p q:List iU) (s:Rat),AD F r (p++x :: x :: q) b s=0
 | [],p,q,s=>rfl
 | v :: b,p,q,s=>by
  have i1:=hF p (q++b);have i2:=HX (r:=r) hF b p (q++[v]) (-s);simp only[AD,cz,eF] at i1 i2 ⊢;rw[i1,i2];grind
theorem HY {F:List iU->Rat} {r:Nat} {x:iU} (hF:∀a b,F (a++x :: x :: b)=0):∀(a pre b:List iU) (s:Rat),AD F r pre (a++x :: x :: b) s=0
 | [],pre,b,s=>by
  have i2:=HX (r:=r) hF b pre [] (- -s);simp only[AD,cV,cz,eF] at i2 ⊢;rw[i2];grind
 | v :: a,pre,b,s=>by
  have i1:=hF (pre++a) b;have i2:=HY (r:=r) hF a (pre++[v]) b (-s);simp only[AD,cz,eF] at i1 i2 ⊢;rw[i1,i2];grind
theorem zU {x:iU}:∀{rs:List Nat} (a b:List iU),qh rs (a++x :: x :: b)=0
 | [],a,b=>Dw
 | r :: rs,a,b=>HY (λa b=>zU a b) a [] b 1
theorem N4 (a b:List iU):qh rs (a++x :: y :: b)=- qh rs (a++y :: x :: b):=by
 have hr:∀r∈rs,(λr=>1*x r+1*y r) r=1*x r+1*y r:=λ_ _=>rfl
 have h0:=zU (x:=λr=>1*x r+1*y r) (rs:=rs) a b;have h1:=tU hr a ((λr=>1*x r+1*y r) :: b);have h2:=tU hr (a++[x]) b;have h3:=tU hr (a++[y]) b;have h4:=zU (x:=x) (rs:=rs) a b;have h5:=zU (x:=y) (rs:=rs) a b;simp only[cz,eF,cV] at h0 h1 h2 h3 h4 h5;rw[h1,h2,h3,h4,h5] at h0;grind
theorem Dx {x:iU} {rs:List Nat}:∀(b a c:List iU),qh rs (a++x :: (b++x :: c))=0
 | [],a,c=>zU a c
 | y :: b,a,c=>by
  have:=Dx (x:=x) (rs:=rs) b (a++[y]) c;simp only[cz,eF,cV] at this;rw[eF,N4,this];rfl
def aS:Nat->(Nat->Rat)->Rat
 | 0,_=>0
 | k+1,f=>aS k f+f k
theorem aF {f g:Nat->Rat}:∀{k:Nat},(∀j,j < k->f j=g j)->aS k f=aS k g
 | 0,_=>rfl
 | k+1,h=>by
  show aS k f+f k=aS k g+g k
  rw[aF λj hj=>h j (by lia),h k (by lia)]
theorem gg {f g:Nat->Rat}:∀{k:Nat},aS k (λj=>f j+g j)=aS k f+aS k g
 | 0=>by show (0:Rat)=0+0;grind
 | k+1=>by
  show aS k (λj=>f j+g j)+_=(aS k f+f k)+(aS k g+g k)
  rw[gg];grind
theorem cg {f:Nat->Rat} {c:Rat}:∀{k:Nat},aS k (λj=>c*f j)=c*aS k f
 | 0=>by show (0:Rat)=c*0;grind
 | k+1=>by
  show aS k (λj=>c*f j)+_=c*(aS k f+f k)
  rw[cg];grind
theorem b7 {f:Nat->Rat}:∀{k:Nat},(∀j,j < k->f j=0)->aS k f=0
 | 0,_=>rfl
 | k+1,h=>by
  show aS k f+f k=0
  rw[b7 λj hj=>h j (by lia),h k (by lia)];grind
theorem fZ {f:Nat->Rat} {i:Nat}:∀{k:Nat},i < k->(∀j,j < k->j≠i->f j=0)->aS k f=f i
 | k+1,hi,h=>by
  show aS k f+f k=f i
  by_cases e:i=k
  ·subst e;rw[b7 λj hj=>h j (by lia) (by lia)];grind
  ·rw[fZ (by lia) λj hj=>h j (by lia),h k (by lia) (λz=>e z.symm)];grind
theorem eY {f:Nat->Nat->Rat} {m:Nat}:∀{k:Nat},aS k (λi=>aS m (f i))=aS m (λj=>aS k λi=>f i j)
 | 0=>(b7 λ_ _=>rfl).symm
 | k+1=>by
  show aS k (λi=>aS m (f i))+aS m (f k)=aS m (λj=>aS k (λi=>f i j)+f k j)
  rw[eY,gg]
theorem Gu {rs:List Nat} {W:iU} {v:Nat->iU} {c:Nat->Rat} (a b:List iU):∀{k:Nat} {W:iU},(∀r∈rs,W r=aS k λj=>c j*v j r)->qh rs (a++W :: b)=aS k λj=>c j*qh rs (a++v j :: b)
 | 0,W,h=>Im h a b
 | k+1,W,h=>by
  rw[tU (f:=λr=>aS k λj=>c j*v j r) (g:=v k) (x:=1) (y:=c k) (λr hr=>by rw[h r hr];show aS k _+_=_;grind) a b,Gu a b (k:=k) (W:=λr=>aS k λj=>c j*v j r) λr _=>rfl];show _=aS k _+_
  grind
end L2
namespace L2
open Nm
def wY (f:Nat->Nat):Nat->List Nat
 | 0=>[]
 | k+1=>f k :: wY f k
def pU (v:Nat->iU):Nat->List iU
 | 0=>[]
 | k+1=>v k :: pU v k
def Mf (v:Nat->iU) (i:Nat):Nat->List iU
 | 0=>[]
 | k+1=>if k<=i then [] else v k :: Mf v i k
theorem tH {f:Nat->Nat}:∀{k:Nat},(wY f k).length=k
 | 0=>rfl
 | k+1=>by show (wY f k).length+1=_;rw[tH]
theorem cw_len {v:Nat->iU}:∀{k:Nat},(pU v k).length=k
 | 0=>rfl
 | k+1=>by show (pU v k).length+1=_;rw[cw_len]
theorem qT {f:Nat->Nat} {r:Nat}:∀{k:Nat},r∈wY f k->∃t,t < k/\r=f t
 | k+1,h=>by
  rcases ay.mp h with h | h
  ·exact ⟨k,by lia,h⟩
  ·obtain ⟨t,a,b⟩:=qT h;exact ⟨t,by lia,b⟩
theorem Es {f g:Nat->Nat}:∀{k:Nat},(∀j,j < k->f j=g j)->wY f k=wY g k
 | 0,_=>rfl
 | k+1,h=>by
  show f k :: wY f k=g k :: wY g k
  rw[h k (by lia),Es λj hj=>h j (by lia)]
theorem cw_congr {f g:Nat->iU}:∀{k:Nat},(∀j,j < k->f j=g j)->pU f k=pU g k
 | 0,_=>rfl
 | k+1,h=>by
  show f k :: pU f k=g k :: pU g k
  rw[h k (by lia),cw_congr λj hj=>h j (by lia)]
theorem cw_mem {v:Nat->iU} {j:Nat}:∀{k:Nat},j < k->v j∈pU v k
 | k+1,h=>by
  by_cases e:j=k
  ·subst e;exact .head _
  ·exact .tail _ (cw_mem (by lia))
theorem cw_in {v:Nat->iU} {x:iU}:∀{k:Nat},x∈pU v k->∃t,t < k/\x=v t
 | k+1,h=>by
  rcases ay.mp h with h | h
  ·exact ⟨k,by lia,h⟩
  ·obtain ⟨t,a,b⟩:=cw_in h;exact ⟨t,by lia,b⟩
theorem Md {v:Nat->iU} {i j:Nat} (h1:i < j):∀{k:Nat},j < k->v j∈Mf v i k
 | k+1,h=>by
  show v j∈if k<=i then [] else v k :: Mf v i k
  rw[if_neg (by lia)];by_cases e:j=k
  ·subst e;exact .head _
  ·exact .tail _ (Md h1 (by lia))
theorem ID {v:Nat->iU} {i:Nat} {x:iU}:∀{k:Nat},x∈Mf v i k->∃t,t < k/\x=v t
 | k+1,h=>by
  have h:x∈if k<=i then [] else v k :: Mf v i k:=h
  split at h
  ·cases h
  ·rcases ay.mp h with h | h
   ·exact ⟨k,by lia,h⟩
   ·obtain ⟨t,a,b⟩:=ID h;exact ⟨t,by lia,b⟩
theorem cw_split {v:Nat->iU} {i:Nat}:∀{k:Nat},i < k->pU v k=Mf v i k++v i :: pU v i
 | k+1,h=>by
  show v k :: pU v k=(if k<=i then [] else v k :: Mf v i k)++_
  by_cases e:i=k
  ·subst e;rw[if_pos (aj _)];rfl
  ·rw[if_neg (by lia),cw_split (k:=k) (i:=i) (by lia)];rfl
theorem BL {c:Nat->Rat} (hi:i < k) (hW:∀r∈rs,W r=aS k λj=>c j*v j r):qh rs (Mf v i k++W :: pU v i)=c i*qh rs (pU v k):=by
 rw[Gu (v:=v) (c:=c) (W:=W) _ _ hW,fZ hi λj hj ne=>?_,cw_split hi];rcases aT j i with h | h
 ·obtain ⟨s,t,e⟩:=Fy (cw_mem (v:=v) h);rw[e,Dx];grind
 ·obtain ⟨s,t,e⟩:=Fy (Md (v:=v) (show i < j by lia) hj);have:=Dx (x:=v j) (rs:=rs) t s (pU v i);rw[e,cz,eF,this];grind
theorem QG {c:Nat->Rat} (hW:∀r∈rs,W r=aS k λj=>c j*v j r):qh rs (W :: pU v k)=0:=by
 have:=Gu (v:=v) (c:=c) (W:=W) [] (pU v k) hW;rw[cV] at this;rw[this];refine b7 λj hj=>?_
 obtain ⟨s,t,e⟩:=Fy (cw_mem (v:=v) hj);have:=Dx (x:=v j) (rs:=rs) s [] t;rw[cV] at this;rw[e,cV,this];grind
theorem JQ {c:Nat->Rat} (hi:i∉rs) (h1:W i=aS k (λj=>c j*v j i)+s) (hW:∀r∈rs,W r=aS k λj=>c j*v j r):qh (i :: rs) (W :: pU v k)=s*qh rs (pU v k):=by
 have e:=tU (rs:=i :: rs) (h:=W) (f:=λr=>aS k λj=>c j*v j r) (g:=λr=>if r=i then 1 else 0) (x:=1) (y:=s) (λr hr=>by
  rcases ay.mp hr with rfl | hr
  ·rw[h1,if_pos rfl];grind
  ·rw[hW r hr,if_neg (λz=>hi (by rw[<- z];exact hr))];grind) [] (pU v k)
 rw[cV,cV,cV,QG (c:=c) λr _=>rfl] at e
 have e2:qh (i :: rs) ((λr=>if r=i then (1:Rat) else 0) :: pU v k)=qh rs (pU v k):=by
  show 1*(if i=i then (1:Rat) else 0)*qh rs ([]++pU v k)+AD (λws=>qh rs ws) i ([]++[λr=>if r=i then (1:Rat) else 0]) (pU v k) (-1)=_
  have hF:∀a b,(λws=>qh rs ws) (a++(λr=>if r=i then (1:Rat) else 0) :: b)=0*(λws=>qh rs ws) (a++(λr=>if r=i then (1:Rat) else 0) :: b)+0*(λws=>qh rs ws) (a++(λr=>if r=i then (1:Rat) else 0) :: b):=λa b=>by
   have:=Im (h:=λr=>if r=i then (1:Rat) else 0) (rs:=rs) (λr hr=>if_neg λz=>hi (by rw[<- z];exact hr)) a b
   dsimp only
   rw[this];grind
  have:=Di (r:=i) hF (pU v k) [] [] (-1);rw[this,if_pos rfl,cV];grind
 rw[e2] at e;rw[e];grind
theorem OM {F:List iU->Rat} {r B W:Nat}:∀{post pre:List iU} {s:Rat},(∀ws,(∀w∈ws,w∈pre++post)->ws.length+1=(pre++post).length->Fr 1 B (F ws))->(∀w∈post,Fr 1 W (w r))->Fr 1 1 s->Fr 1 (post.length*(W*B)) (AD F r pre post s)
 | [],pre,s,_,_,_=>by show Fr 1 _ 0;exact Fr.zero
 | v :: post,pre,s,hF,hw,hs=>by
  have t1:Fr 1 (W*B) (s*v r*F (pre++post)):=by
   have:=(hs.mul (hw v (.head _))).mul (hF (pre++post) (λw h=>by
    rcases aD.mp h with h | h
    ·exact jG _ h
    ·exact b6 _ (.tail _ h)) (by simp only[au,bR];lia))
   simpa using this
  have t2:=OM (F:=F) (r:=r) (B:=B) (W:=W) (post:=post) (pre:=pre++[v]) (s:=-s) (λws h h'=>hF ws (λw hw=>by simpa using h w hw) (by simpa using h')) (λw h=>hw w (.tail _ h)) (by simpa using hs.neg);exact (t1.add t2).mono (by rw[bR,dZ];lia)
theorem BK {W N:Nat}:∀{rs:List Nat} {vs:List iU},vs.length<=N->(∀v∈vs,∀r∈rs,Fr 1 W (v r))->Fr 1 ((N*W)^rs.length) (qh rs vs)
 | [],[],_,_=>by show Fr 1 1 1;exact (Fr.int (i:=1) (by decide))
 | [],_ :: _,_,_=>by show Fr 1 _ 0;exact Fr.zero
 | r :: rs,vs,hl,h=>by
  have:=OM (F:=λws=>qh rs ws) (r:=r) (B:=(N*W)^rs.length) (W:=W) (post:=vs) (pre:=[]) (s:=1) (λws h1 h2=>BK (by rw[cV] at h2;lia) λv hv r' hr'=>h v (by simpa using h1 v hv) r' (.tail _ hr')) (λw hw=>h w hw r (.head _)) (Fr.int (i:=1) (by decide));refine this.mono ?_;rw[bR,cY,bH ((N*W)^rs.length),cC N];exact aw _ hl
structure Ay (a:Nat->Nat->Rat) (m k:Nat) (pm p:Nat->Nat) (l:Nat->Nat->Rat) (d:Rat):Prop where
 inj:∀i j,i < m->j < m->pm i=pm j->i=j
 rng:∀i,i < m->pm i < m
 km:k<=m
 d0:d≠0
 det:d=qh (wY pm k) (pU (λj r=>a r (p j)) k)
 eqs:∀i,i < m->∀c,d*a (pm i) c=aS k (λj=>a (pm i) (p j)*l j c)+if i < k then 0 else l i c
 unit:∀i,i < m->∀j,j < k->l i (p j)=if i=j then d else 0
section
variable {a l:Nat->Nat->Rat} {m k:Nat} {pm p:Nat->Nat} {d:Rat}
theorem Ay.start (h:∀i,i < m->pm i=i):Ay a m 0 pm p a 1 where
 inj i j hi hj e:=by rw[h i hi,h j hj] at e;exact e
 rng i hi:=by rw[h i hi];exact hi
 km:=aW _
 d0:=by decide
 det:=rfl
 eqs i hi c:=by
  rw[h i hi,if_neg (by lia)];show 1*a i c=0+a i c
  grind
 unit i _ j hj:=absurd hj (by lia)
theorem Ay.coef (B:Ay a m k pm p l d) (hi:i < m):a (pm i) c=aS k (λj=>(l j c / d)*a (pm i) (p j))+if i < k then 0 else l i c / d:=by
 have h:=B.eqs i hi c;have d0:=B.d0
 have e:aS k (λj=>(l j c / d)*a (pm i) (p j))=(1 / d)*aS k (λj=>a (pm i) (p j)*l j c):=by
  rw[<- cg];exact aF λj _=>by grind
 rw[e]
 split at h
 ·rw[if_pos (by assumption)];grind
 ·rw[if_neg (by assumption)];grind
theorem Ay.old (B:Ay a m k pm p l d) (hi:i < k):l i c=qh (wY pm k) (Mf (λj r=>a r (p j)) i k++(λr=>a r c) :: pU (λj r=>a r (p j)) i):=by
 have km:=B.km;have d0:=B.d0;rw[BL (v:=λj r=>a r (p j)) (c:=λj=>l j c / d) hi λr hr=>?_,<- B.det]
 ·grind
 ·obtain ⟨t,ht,rfl⟩:=qT hr;have:=B.coef (i:=t) (c:=c) (by lia);rw[if_pos ht] at this;rw[this];grind
theorem Ay.new (B:Ay a m k pm p l d) (h1:k<=i) (hi:i < m):l i c=qh (pm i :: wY pm k) ((λr=>a r c) :: pU (λj r=>a r (p j)) k):=by
 have km:=B.km;have d0:=B.d0
 have hn:pm i∉wY pm k:=λhm=>by
  obtain ⟨t,ht,e⟩:=qT hm;have:=B.inj i t hi (by lia) e
  lia
 have e1:a (pm i) c=aS k (λj=>(l j c / d)*a (pm i) (p j))+l i c / d:=by
  have:=B.coef (i:=i) (c:=c) hi;rwa [if_neg (by lia)] at this
 have e2:∀r∈wY pm k,a r c=aS k (λj=>(l j c / d)*a r (p j)):=λr hr=>by
  obtain ⟨t,ht,rfl⟩:=qT hr;have:=B.coef (i:=t) (c:=c) (by lia);rw[if_pos ht] at this;rw[this];grind
 rw[JQ (v:=λj r=>a r (p j)) (c:=λj=>l j c / d) (W:=λr=>a r c) (s:=l i c / d) hn e1 e2,<- B.det];grind
theorem Ay.fr (B:Ay a m k pm p l d) (hN:k < N) (hW:1<=W) (ha:∀i,i < m->∀c,Fr 1 W (a i c)) (hi:i < m):Fr 1 ((N*W)^(k+1)) (l i c):=by
 have km:=B.km;have mono:∀t,t<=k+1->(N*W)^t<=(N*W)^(k+1):=λt ht=>av (cv (by lia) hW) ht
 have ha':∀r∈wY pm k,∀c,Fr 1 W (a r c):=λr hr c=>by
  obtain ⟨t,ht,rfl⟩:=qT hr;exact ha _ (B.rng t (by lia)) c
 by_cases h:i < k
 ·rw[B.old h];refine (BK (W:=W) (N:=N) ?_ ?_).mono (mono _ (by rw[tH];lia))
  ·have:=congrArg List.length (cw_split (v:=λj r=>a r (p j)) h);rw[au,bR,cw_len] at this;rw[au,bR]
   lia
  ·intro v hv r hr;rcases aD.mp hv with hv | hv
   ·obtain ⟨t,_,rfl⟩:=ID hv;exact ha' r hr _
   ·rcases ay.mp hv with rfl | hv
    ·exact ha' r hr _
    ·obtain ⟨t,_,rfl⟩:=cw_in hv;exact ha' r hr _
 ·rw[B.new (by lia) hi];refine (BK (W:=W) (N:=N) ?_ ?_).mono (mono _ (by rw[bR,tH];lia))
  ·rw[bR,cw_len]
   lia
  ·intro v hv r hr
   have hr':∀c,Fr 1 W (a r c):=λc=>by
    rcases ay.mp hr with rfl | hr
    ·exact ha _ (B.rng i hi) c
    ·exact ha' r hr c
   rcases ay.mp hv with rfl | hv
   ·exact hr' _
   ·obtain ⟨t,_,rfl⟩:=cw_in hv;exact hr' _
theorem Ay.dfr (B:Ay a m k pm p l d) (hN:k<=N) (ha:∀i,i < m->∀c,Fr 1 W (a i c)):Fr 1 ((N*W)^k) d:=by
 have km:=B.km;rw[B.det]
 have:=BK (W:=W) (N:=N) (rs:=wY pm k) (vs:=pU (λj r=>a r (p j)) k) (by rw[cw_len];exact hN) λv hv r hr=>by
  obtain ⟨t,ht,rfl⟩:=qT hr;obtain ⟨t',_,rfl⟩:=cw_in hv;exact ha _ (B.rng t (by lia)) _
 rwa [tH] at this
def vG (k t i:Nat):Nat:=if i=k then t else if i=t then k else i
theorem ug (hk:k < m) (ht:t < m) (hi:i < m):vG k t i < m:=by
 unfold vG
 split
 ·exact ht
 ·split
  ·exact hk
  ·exact hi
theorem Pp (h:vG k t i=vG k t j):i=j:=by
 unfold vG at h
 split at h <;> split at h <;> (try split at h) <;> (try split at h) <;> lia
theorem vE (h:k<=t) (hi:i < k):vG k t i=i:=by
 unfold vG;rw[if_neg (by lia),if_neg (by lia)]
theorem yf (h:k<=t) (hi:k<=i):k<=vG k t i:=by
 unfold vG
 split
 ·exact h
 ·split <;> lia
theorem Ay.swap (B:Ay a m k pm p l d) {t:Nat} (h:k<=t) (ht:t < m):Ay a m k (λi=>pm (vG k t i)) p (λi=>l (vG k t i)) d where
 inj i j hi hj e:=Pp (B.inj _ _ (ug (by lia) ht hi) (ug (by lia) ht hj) e)
 rng i hi:=B.rng _ (ug (by lia) ht hi)
 km:=B.km
 d0:=B.d0
 det:=by rw[B.det,Es (f:=pm) (g:=λi=>pm (vG k t i)) λj hj=>by rw[vE h hj]]
 eqs i hi c:=by
  have e:=B.eqs (vG k t i) (ug (by lia) ht hi) c;have e1:aS k (λj=>a (pm (vG k t i)) (p j)*l (vG k t j) c)=aS k (λj=>a (pm (vG k t i)) (p j)*l j c):=aF λj hj=>by rw[vE h hj]
  rw[e1];by_cases hk:i < k
  ·rw[vE h hk] at e ⊢;exact e
  ·rw[if_neg hk];rw[if_neg (by have:=yf h (show k<=i by lia);lia)] at e;exact e
 unit i hi j hj:=by
  rw[B.unit _ (ug (by lia) ht hi) j hj];by_cases hk:i < k
  ·rw[vE h hk]
  ·have:=yf h (show k<=i by lia);rw[if_neg (by lia),if_neg (by lia)]
theorem Ay.step (B:Ay a m k pm p l d) {c0:Nat} (hk:k < m) (h0:l k c0≠0):Ay a m (k+1) pm (λj=>if j=k then c0 else p j) (λi c=>if i=k then l k c else (l k c0*l i c - l i c0*l k c) / d) (l k c0) where
 inj:=B.inj
 rng:=B.rng
 km:=hk
 d0:=h0
 det:=by
  rw[B.new (aj _) hk];show _=qh (pm k :: wY pm k) ((λr=>a r (if k=k then c0 else p k)) :: pU _ k)
  rw[if_pos rfl];congr 2;exact cw_congr λj hj=>by rw[if_neg (show j≠k by lia)]
 eqs i hi c:=by
  have d0:=B.d0;have e1:=B.eqs i hi c;have e2:=B.eqs i hi c0;show l k c0*a (pm i) c=(aS k _+_)+_
  have s1:aS k (λj=>a (pm i) (if j=k then c0 else p j)*(if j=k then l k c else (l k c0*l j c - l j c0*l k c) / d))=(l k c0 / d)*aS k (λj=>a (pm i) (p j)*l j c)+(- l k c / d)*aS k (λj=>a (pm i) (p j)*l j c0):=by
   rw[<- cg,<- cg,<- gg];refine aF λj hj=>?_
   rw[if_neg (show j≠k by lia),if_neg (show j≠k by lia)];grind
  rw[s1];simp only[if_true];generalize aS k (λj=>a (pm i) (p j)*l j c)=S1 at e1 ⊢;generalize aS k (λj=>a (pm i) (p j)*l j c0)=S2 at e2 ⊢;rcases mP i k with h | h | h
  ·rw[if_pos h] at e1 e2;rw[if_pos (by lia)];grind
  ·subst h;rw[if_neg (by lia)] at e1 e2;rw[if_pos (by lia)];grind
  ·rw[if_neg (by lia)] at e1 e2;rw[if_neg (by lia),if_neg (by lia)];grind
 unit i hi j hj:=by
  have d0:=B.d0;by_cases e:j=k
  ·subst e;simp only[if_true];by_cases ei:i=j
   ·rw[if_pos ei,if_pos ei]
   ·rw[if_neg ei,if_neg ei];grind
  ·have hj':j < k:=by lia
   rw[if_neg e];by_cases ei:i=k
   ·rw[if_pos ei,B.unit k hk j hj',if_neg (by lia),if_neg (by lia)]
   ·rw[if_neg ei,B.unit i hi j hj',B.unit k hk j hj',if_neg (show k≠j by lia)]
    split
    ·grind
    ·grind
end
def de (m:Nat) (a:Nat->Nat->Rat) (x:Nat->Rat):Prop:=∃w:Nat->Rat,∀c,x c=aS m λt=>w t*a t c
section
variable {m m' k n:Nat} {a b:Nat->Nat->Rat} {x y:Nat->Rat}
theorem de.row (hi:i < m):de m a (a i):=⟨λt=>if t=i then 1 else 0,λc=>by
 rw[fZ hi λj _ ne=>by dsimp only;rw[if_neg ne];grind]
 dsimp only
 rw[if_pos rfl];grind⟩
theorem de.lin (α β:Rat) (hx:de m a x) (hy:de m a y):de m a λc=>α*x c+β*y c:=by
 obtain ⟨w,hw⟩:=hx;obtain ⟨v,hv⟩:=hy;refine ⟨λt=>α*w t+β*v t,λc=>?_⟩
 dsimp only
 rw[hw c,hv c,<- cg,<- cg,<- gg];exact aF λj _=>by grind
theorem de.congr (h:∀c,x c=y c) (hx:de m a x):de m a y:=by obtain ⟨w,hw⟩:=hx;exact ⟨w,λc=>by rw[<- h c];exact hw c⟩
theorem de.trans (h:∀t,t < m'->de m a (b t)) (hx:de m' b x):de m a x:=by
 obtain ⟨v,hv⟩:=hx
 have h2:∀t,∃w:Nat->Rat,t < m'->∀c,b t c=aS m λs=>w s*a s c:=λt=>by
  by_cases ht:t < m'
  ·obtain ⟨w,hw⟩:=h t ht;exact ⟨w,λ_=>hw⟩
  ·exact ⟨λ_=>0,λz=>absurd z ht⟩
 have hc:=Classical.axiomOfChoice h2;obtain ⟨w,hw⟩:=hc;refine ⟨λs=>aS m' λt=>v t*w t s,λc=>?_⟩;rw[hv c];have e1:aS m' (λt=>v t*b t c)=aS m' (λt=>aS m λs=>v t*(w t s*a s c)):=aF λt ht=>by rw[hw t ht c,<- cg]
 rw[e1,eY];refine aF λs _=>?_
 have:aS m' (λt=>v t*w t s)*a s c=a s c*aS m' (λt=>v t*w t s):=cT ..;rw[this,<- cg];exact aF λt _=>by grind
theorem de.zero (h:∀c,x c=0):de m a x:=⟨λ_=>0,λc=>by rw[h c,b7 λ_ _=>by grind]⟩
end
structure Fc (m n:Nat) (a:Nat->Nat->Rat) (k:Nat) (p:Nat->Nat) (R:Nat->Nat->Rat):Prop where
 inc:∀i j,i < j->j < k->p i < p j
 low:∀j,j < k->p j < n
 unit:∀i,i < k->∀j,j < k->R i (p j)=if i=j then 1 else 0
 lead:∀i,i < k->∀c,c < p i->R i c=0
 span:∀i,i < m->de k R (a i)
 back:∀i,i < k->de m a (R i)
section
variable {m m' k k' n:Nat} {a a' R R':Nat->Nat->Rat} {p p':Nat->Nat} {x:Nat->Rat}
theorem Fc.coef (h:Fc m n a k p R) (hx:de k R x) (c:Nat):x c=aS k λj=>x (p j)*R j c:=by
 obtain ⟨w,hw⟩:=hx;rw[hw c];refine aF λj hj=>?_
 rw[hw (p j),fZ hj λt ht ne=>by rw[h.unit t ht j hj,if_neg ne];grind,h.unit j hj j hj,if_pos rfl];grind
theorem Fc.lead_in (h:Fc m n a k p R) (hx:de k R x) (h1:x c≠0) (h0:∀c',c' < c->x c'=0):∃j,j < k/\p j=c:=by
 refine Classical.byContradiction λhn=>h1 ?_
 rw[h.coef hx c];refine b7 λj hj=>?_
 rcases mP (p j) c with z | z | z
 ·rw[h0 _ z];grind
 ·exact absurd ⟨j,hj,z⟩ hn
 ·rw[h.lead j hj c z];grind
theorem inc_le (h1:∀i j,i < j->j < k->p i < p j) (h2:∀i j,i < j->j < k'->p' i < p' j) (hs:∀j,j < k'->∃i,i < k/\p i=p' j):∀{j:Nat},j < k'->∀{i:Nat},i < k->p i=p' j->j<=i
 | 0,_,_,_,_=>aW _
 | j+1,hj,i,hi,e=>by
  obtain ⟨i0,hi0,e0⟩:=hs j (by lia);have:=inc_le h1 h2 hs (j:=j) (by lia) hi0 e0;have lt:=h2 j (j+1) (by lia) hj;rcases mP i0 i with z | z | z
  ·lia
  ·subst z;lia
  ·have:=h1 i i0 z hi0;lia
theorem LB (h1:∀i j,i < j->j < k->p i < p j) (h:i<=j) (hj:j < k):p i<=p j:=by
 rcases aT i j with z | z
 ·exact aQ (h1 i j z hj)
 ·have:i=j:=by lia
  rw[this];exact aj _
theorem Ic (h1:∀i j,i < j->j < k->p i < p j) (h2:∀i j,i < j->j < k'->p' i < p' j) (hs:∀j,j < k'->∃i,i < k/\p i=p' j):k'<=k/\∀j,j < k'->p j<=p' j:=by
 refine ⟨?_,λj hj=>?_⟩
 ·rcases dg k' with z | z
  ·lia
  ·obtain ⟨i,hi,e⟩:=hs (k' - 1) (by lia);have:=inc_le h1 h2 hs (j:=k' - 1) (by lia) hi e
   lia
 ·obtain ⟨i,hi,e⟩:=hs j hj;rw[<- e];exact LB h1 (inc_le h1 h2 hs hj hi e) hi
theorem Fc.uniq (h:Fc m n a k p R) (h':Fc m' n a' k' p' R') (s1:∀i,i < m->de m' a' (a i)) (s2:∀i,i < m'->de m a (a' i)):k=k'/\(∀j,j < k->p j=p' j)/\∀i,i < k->∀c,R i c=R' i c:=by
 have x1:∀i,i < k->de k' R' (R i):=λi hi=>de.trans (λt ht=>h'.span t ht) (de.trans s1 (h.back i hi))
 have x2:∀i,i < k'->de k R (R' i):=λi hi=>de.trans (λt ht=>h.span t ht) (de.trans s2 (h'.back i hi))
 have y1:∀j,j < k->∃i,i < k'/\p' i=p j:=λj hj=>h'.lead_in (x1 j hj) (by rw[h.unit j hj j hj,if_pos rfl];decide) (h.lead j hj)
 have y2:∀j,j < k'->∃i,i < k/\p i=p' j:=λj hj=>h.lead_in (x2 j hj) (by rw[h'.unit j hj j hj,if_pos rfl];decide) (h'.lead j hj)
 obtain ⟨z1,w1⟩:=Ic h'.inc h.inc y1;obtain ⟨z2,w2⟩:=Ic h.inc h'.inc y2;have ek:k=k':=AA z1 z2;subst ek;have ep:∀j,j < k->p j=p' j:=λj hj=>AA (w2 j hj) (w1 j hj)
 refine ⟨rfl,ep,λi hi c=>?_⟩;rw[h.coef (x2 i hi) c,fZ hi λj hj ne=>by rw[ep j hj,h'.unit i hi j hj,if_neg (λz=>ne z.symm)];grind,ep i hi,h'.unit i hi i hi,if_pos rfl];grind
end
structure nO (a:Nat->Nat->Rat) (m k P:Nat) (p:Nat->Nat) (l:Nat->Nat->Rat) (d:Rat):Prop where
 km:k<=m
 d0:d≠0
 unit:∀i,i < m->∀j,j < k->l i (p j)=if i=j then d else 0
 inc:∀i j,i < j->j < k->p i < p j
 low:∀j,j < k->p j < P
 zero:∀i,k<=i->i < m->∀c,c < P->l i c=0
 lead:∀j,j < k->∀c,c < p j->l j c=0
 there:∀i,i < m->de m l (a i)
 back:∀i,i < m->de m a (l i)
section
variable {m k n P:Nat} {a l l':Nat->Nat->Rat} {p:Nat->Nat} {d d':Rat}
theorem nO.start:nO a m 0 0 p a 1 where
 km:=aW _
 d0:=by decide
 unit _ _ j hj:=absurd hj (by lia)
 inc _ j _ hj:=absurd hj (by lia)
 low j hj:=absurd hj (by lia)
 zero _ _ _ c hc:=absurd hc (by lia)
 lead j hj:=absurd hj (by lia)
 there i hi:=de.row hi
 back i hi:=de.row hi
theorem nO.skip (E:nO a m k P p l d) (h:∀i,k<=i->i < m->l i P=0):nO a m k (P+1) p l d :=
 ⟨E.km,E.d0,E.unit,E.inc,λj hj=>IZ (E.low j hj),λi h1 h2 c hc=>by
  by_cases e:c=P
  ·rw[e];exact h i h1 h2
  ·exact E.zero i h1 h2 c (by lia),E.lead,E.there,E.back⟩
theorem Rz:vG k t (vG k t i)=i:=by
 unfold vG
 split
 ·split <;> (try split) <;> lia
 ·split
  ·rw[if_pos rfl];lia
  ·rfl
theorem nO.swap (E:nO a m k P p l d) {t:Nat} (h:k<=t) (ht:t < m):nO a m k P p (λi=>l (vG k t i)) d where
 km:=E.km
 d0:=E.d0
 unit i hi j hj:=by
  rw[E.unit _ (ug (by lia) ht hi) j hj];by_cases hk:i < k
  ·rw[vE h hk]
  ·have:=yf h (show k<=i by lia);rw[if_neg (by lia),if_neg (by lia)]
 inc:=E.inc
 low:=E.low
 zero i h1 h2 c hc:=E.zero _ (yf h h1) (ug (by lia) ht h2) c hc
 lead j hj c hc:=by rw[vE h hj];exact E.lead j hj c hc
 there i hi:=de.trans (λs hs=>de.congr (λc=>by rw[Rz]) (de.row (a:=λi=>l (vG k t i)) (i:=vG k t s) (ug (by lia) ht hs))) (E.there i hi)
 back i hi:=E.back _ (ug (by lia) ht hi)
theorem nO.step (E:nO a m k P p l d) (hk:k < m) (h0:d'≠0) (unit':∀i,i < m->∀j,j < k+1->l' i (if j=k then P else p j)=if i=j then d' else 0)
  (hl:∀i,i < m->∃β γ:Rat,β≠0/\(i=k->γ=0)/\∀c,l' i c=β*l i c+γ*l k c):nO a m (k+1) (P+1) (λj=>if j=k then P else p j) l' d' where
 km:=hk
 d0:=h0
 unit:=unit'
 inc i j hij hj:=by
  by_cases e:j=k
  ·rw[if_pos e,if_neg (by lia)];exact E.low i (by lia)
  ·rw[if_neg e,if_neg (by lia)];exact E.inc i j hij (by lia)
 low j hj:=by
  by_cases e:j=k
  ·rw[if_pos e];lia
  ·rw[if_neg e];exact IZ (E.low j (by lia))
 zero i h1 h2 c hc:=by
  by_cases e:c=P
  ·have:=unit' i h2 k (by lia);rw[if_pos rfl,if_neg (by lia)] at this;rw[e];exact this
  ·obtain ⟨β,γ,_,_,q⟩:=hl i h2;rw[q c,E.zero i (by lia) h2 c (by lia),E.zero k (aj _) hk c (by lia)];grind
 lead j hj c hc:=by
  have km:=E.km;obtain ⟨β,γ,_,_,q⟩:=hl j (by lia);by_cases e:j=k
  ·rw[if_pos e] at hc;rw[q c,e,E.zero k (aj _) hk c hc];grind
  ·rw[if_neg e] at hc;have:=E.low j (by lia);rw[q c,E.lead j (by lia) c hc,E.zero k (aj _) hk c (by lia)];grind
 there i hi:=by
  refine de.trans (λs hs=>?_) (E.there i hi);obtain ⟨β,γ,b0,_,q⟩:=hl s hs;obtain ⟨βk,γk,bk0,gk,qk⟩:=hl k hk;have g0:=gk rfl;refine de.congr (λc=>?_) (de.lin (1 / β) (-(γ / β) / βk) (de.row (a:=l') hs) (de.row (a:=l') hk));rw[q c,qk c,g0];grind
 back i hi:=by
  obtain ⟨β,γ,_,_,q⟩:=hl i hi;exact de.congr (λc=>(q c).symm) (de.lin β γ (E.back i hi) (E.back k hk))
theorem nO.done (E:nO a m k n p l d) (ha:∀i,i < m->∀c,n<=c->a i c=0):Fc m n a k p (λi c=>l i c / d) where
 inc:=E.inc
 low:=E.low
 unit i hi j hj:=by
  have d0:=E.d0;have km:=E.km;rw[E.unit i (by lia) j hj]
  split
  ·grind
  ·grind
 lead i hi c hc:=by
  rw[E.lead i hi c hc];grind
 span i hi:=by
  have d0:=E.d0;refine de.trans (λs hs=>?_) (E.there i hi);by_cases z:s < k
  ·refine de.congr (λc=>?_) (de.lin d 0 (de.row (a:=λi c=>l i c / d) z) (de.row (a:=λi c=>l i c / d) z));grind
  ·refine de.zero λc=>?_
   by_cases hc:c < n
   ·exact E.zero s (by lia) hs c hc
   ·obtain ⟨w,hw⟩:=E.back s hs;rw[hw c,b7 λt ht=>by rw[ha t ht c (by lia)];grind]
 back i hi:=by
  have km:=E.km;have d0:=E.d0;refine de.congr (λc=>?_) (de.lin (1 / d) 0 (E.back i (by lia)) (E.back i (by lia)));grind
end
def eL (ls:List (List Int)) (i c:Nat):Rat:=(((ls.getD i []).getD c 0:Int):Rat)
def bC (rows:LR9) (i c:Nat):Rat:=(rows.getD i []).getD c 0
def ox (ls:List (List Int)) (k t:Nat):List (List Int):=(ls.set k (ls.getD t [])).set t (ls.getD k [])
def EY (ls:List (List Int)) (k c:Nat) (b:Int):List (List Int):=(ls.map λzs=>List.zipWith (λx y=>((ls.getD k []).getD c 0*x - zs.getD c 0*y).fdiv b) zs (ls.getD k [])).set k (ls.getD k [])
section
variable {ls ls0:List (List Int)} {k t n P c:Nat} {b d:Int} {ps:List Nat}
theorem rn {α:Type} {l:List α} {x e:α} (hi:i < l.length):(l.set i x).getD j e=if j=i then x else l.getD j e:=by
 rw[aa,aa,List.getElem?_set];by_cases h:j=i
 ·subst h;rw[if_pos rfl,if_pos hi,if_pos rfl];rfl
 ·rw[if_neg (λz=>h z.symm),if_neg h]
theorem vF:(ox ls k t).length=ls.length:=by unfold ox;rw[fo,fo]
theorem Mj:(EY ls k c b).length=ls.length:=by unfold EY;rw[fo,ah]
theorem getD_in {α:Type} {l:List α} {e:α} (h:i < l.length):l.getD i e∈l:=by
 rw[aa,af h];exact aB h
theorem Ho (w:∀zs∈ls,zs.length=n) (hk:k < ls.length) (ht:t < ls.length):∀zs∈ox ls k t,zs.length=n:=λzs hz=>by
 unfold ox at hz;rcases cG hz with h | h
 ·rcases cG h with h | h
  ·exact w zs h
  ·rw[h];exact w _ (getD_in ht)
 ·rw[h];exact w _ (getD_in hk)
theorem IH (w:∀zs∈ls,zs.length=n) (hk:k < ls.length):∀zs∈EY ls k c b,zs.length=n:=λzs hz=>by
 unfold EY at hz;rcases cG hz with h | h
 ·obtain ⟨y,hy,rfl⟩:=ax.mp h;rw[aP,w y hy,w _ (getD_in hk)]
  lia
 ·rw[h];exact w _ (getD_in hk)
theorem uG (hk:k < ls.length) (ht:t < ls.length) (i c:Nat):eL (ox ls k t) i c=eL ls (vG k t i) c:=by
 unfold eL ox vG;rw[rn (by rw[fo];exact ht),rn hk];by_cases h1:i=t
 ·rw[if_pos h1];by_cases h2:i=k
  ·rw[if_pos h2,<- h1,<- h2]
  ·rw[if_neg h2,if_pos h1]
 ·rw[if_neg h1];by_cases h2:i=k
  ·rw[if_pos h2,if_pos h2]
  ·rw[if_neg h2,if_neg h2,if_neg h1]
theorem zR (w:∀zs∈ls,zs.length=n) (hc:n<=c):eL ls i c=0:=by
 unfold eL;by_cases h:i < ls.length
 ·have:=w _ (getD_in (e:=[]) h);rw[aa (l:=ls.getD i []),aJ (by lia)];rfl
 ·rw[aa (l:=ls),aJ (by lia)];rfl
theorem Ac {x:Int} (h:(x:Rat)=0):x=0:=by
 have:(x:Rat)=((0:Int):Rat):=h;exact dD.mp this
theorem Gr {x b:Int} (hb:b≠0) (hq:∃z:Int,q=(z:Rat)) (e:(x:Rat)=(b:Rat)*q):((x.fdiv b:Int):Rat)=q:=by
 obtain ⟨z,rfl⟩:=hq;rw[<- a8] at e;have:=dD.mp e;rw[this,Int.mul_fdiv_cancel_left _ hb]
theorem Ik (h:Fr 1 W q):∃z:Int,q=(z:Rat):=by
 obtain ⟨z,e,_⟩:=h;exact ⟨z,by rw[<- e];simp⟩
theorem Du {z:Int} (h:Fr 1 W (z:Rat)):z.natAbs<=W:=by
 obtain ⟨y,e,b⟩:=h;have:(z:Rat)=(y:Rat):=by rw[<- e];simp
 rw[dD.mp this];simpa using b
theorem LR (w:∀zs∈ls,zs.length=n) (hk:k < ls.length) (hb:b≠0) (hi:i < ls.length) (hz:∀c,∃z:Int,(eL ls k P*eL ls i c - eL ls i P*eL ls k c) / (b:Rat)=(z:Rat)) (c:Nat) :
  eL (EY ls k P b) i c=if i=k then eL ls k c else (eL ls k P*eL ls i c - eL ls i P*eL ls k c) / (b:Rat):=by
 by_cases e:i=k
 ·rw[if_pos e];unfold eL EY;rw[rn (by rw[ah];exact hk),if_pos e]
 ·rw[if_neg e];by_cases hc:c < n
  ·have hb':(b:Rat)≠0:=λz=>hb (Ac z)
   have lk:=w _ (getD_in (e:=[]) hk);have li:=w _ (getD_in (e:=[]) hi)
   have e1:eL (EY ls k P b) i c=(((((ls.getD k []).getD P 0*(ls.getD i []).getD c 0 - (ls.getD i []).getD P 0*(ls.getD k []).getD c 0).fdiv b:Int)):Rat):=by
    unfold EY;rw[eL,rn (by rw[ah];exact hk),if_neg e];rw[aa (l:=List.map _ ls),az,af hi];show ((((List.zipWith _ ls[i] (ls.getD k [])).getD c 0:Int)):Rat)=_
    have ei:ls.getD i []=ls[i]:=by rw[aa,af hi];rfl
    rw[<- ei];rw[aa (l:=List.zipWith _ _ _),bF,aa (l:=ls.getD i []) (i:=c),aa (l:=ls.getD k []) (i:=c),af (show c < (ls.getD i []).length by lia),af (show c < (ls.getD k []).length by lia)];rfl
   rw[e1];refine Gr hb (hz c) ?_;rw[Rat.intCast_sub,a8,a8];show _=(b:Rat)*((eL ls k P*eL ls i c - eL ls i P*eL ls k c) / (b:Rat))
   show eL ls k P*eL ls i c - eL ls i P*eL ls k c=_
   grind
  ·rw[zR (IH w hk) (show n<=c by lia),zR w (i:=i) (show n<=c by lia),zR w (i:=k) (show n<=c by lia)];grind
end
section
variable {m k n P:Nat} {a l l2:Nat->Nat->Rat} {pm p p2:Nat->Nat} {d:Rat}
theorem Ay.congr (B:Ay a m k pm p l d) (hp:∀j,j < k->p2 j=p j) (hl:∀i,i < m->∀c,l2 i c=l i c):Ay a m k pm p2 l2 d where
 inj:=B.inj
 rng:=B.rng
 km:=B.km
 d0:=B.d0
 det:=by rw[B.det,cw_congr (f:=λj r=>a r (p j)) (g:=λj r=>a r (p2 j)) λj hj=>by rw[hp j hj]]
 eqs i hi c:=by
  have km:=B.km;rw[B.eqs i hi c,hl i hi c];congr 1;exact aF λj hj=>by rw[hp j hj,hl j (by lia) c]
 unit i hi j hj:=by rw[hp j hj,hl i hi];exact B.unit i hi j hj
theorem de.rows (h:∀i,i < m->∀c,l2 i c=l i c) (hx:de m l x):de m l2 x:=by obtain ⟨w,hw⟩:=hx;exact ⟨w,λc=>by rw[hw c];exact aF λt ht=>by rw[h t ht c]⟩
theorem nO.congr (E:nO a m k P p l d) (hp:∀j,j < k->p2 j=p j) (hl:∀i,i < m->∀c,l2 i c=l i c):nO a m k P p2 l2 d where
 km:=E.km
 d0:=E.d0
 unit i hi j hj:=by rw[hp j hj,hl i hi];exact E.unit i hi j hj
 inc i j hij hj:=by rw[hp i (by lia),hp j hj];exact E.inc i j hij hj
 low j hj:=by rw[hp j hj];exact E.low j hj
 zero i h1 h2 c hc:=by rw[hl i h2];exact E.zero i h1 h2 c hc
 lead j hj c hc:=by
  have km:=E.km;rw[hp j hj] at hc;rw[hl j (by lia)];exact E.lead j hj c hc
 there i hi:=(E.there i hi).rows hl
 back i hi:=(E.back i hi).congr λc=>(hl i hi c).symm
theorem nO.kP (E:nO a m k P p l d):k<=P:=by
 have:∀j,j < k->j<=p j:=by
  intro j
  induction j with
  | zero=>intro _;exact aW _
  | succ j ih =>
   intro hj;have:=ih (by lia);have:=E.inc j (j+1) (by lia) hj
   lia
 rcases dg k with z | z
 ·lia
 ·have h1:=this (k - 1) (by lia);have h2:=E.low (k - 1) (by lia)
  lia
end
structure Ck (ls0:List (List Int)) (n P:Nat) (ls:List (List Int)) (ps:List Nat) (d:Int):Prop where
 len:ls.length=ls0.length
 wide:∀zs∈ls,zs.length=n
 bar:∃pm,Ay (eL ls0) ls0.length ps.length pm (λj=>ps.getD j 0) (eL ls) d
 el:nO (eL ls0) ls0.length ps.length P (λj=>ps.getD j 0) (eL ls) d
section
variable {ls0 ls:List (List Int)} {n P:Nat} {ps:List Nat} {d:Int}
theorem Ck.start (w:∀zs∈ls0,zs.length=n):Ck ls0 n 0 ls0 [] 1:=⟨rfl,w,⟨λi=>i,Ay.start λ_ _=>rfl⟩,nO.start⟩
theorem Ck.d0 (h:Ck ls0 n P ls ps d):d≠0:=λz=>h.el.d0 (by rw[z];rfl)
theorem Ck.skip (h:Ck ls0 n P ls ps d) (hz:∀i,ps.length<=i->i < ls.length->eL ls i P=0):Ck ls0 n (P+1) ls ps d:=⟨h.len,h.wide,h.bar,h.el.skip λi h1 h2=>hz i h1 (by rw[h.len];exact h2)⟩
theorem getD_snoc (hj:j < l.length+1):(l++[x]).getD j 0=if j=l.length then x else l.getD j 0:=by
 rw[aa,aa];by_cases e:j=l.length
 ·rw[if_pos e,e,bQ (aj _),iC];rfl
 ·rw[if_neg e,bY (by lia)]
theorem Ck.int (h:Ck ls0 n P ls ps d) (hW:1<=W) (h0:∀i,i < ls0.length->∀c,Fr 1 W (eL ls0 i c)) (ht:ps.length<=t) (ht2:t < ls.length) (hne:eL ls t P≠0) :
  ∀i,i < ls.length->i≠ps.length->∀c,∃z:Int,(eL (ox ls ps.length t) ps.length P*eL (ox ls ps.length t) i c - eL (ox ls ps.length t) i P*eL (ox ls ps.length t) ps.length c) / (d:Rat)=(z:Rat):=λi hi ne c=>by
 obtain ⟨pm,B⟩:=h.bar;have hl:=h.len;have hk:ps.length < ls.length:=by lia
 have B1:=(B.swap ht (by lia)).congr (p2:=λj=>ps.getD j 0) (l2:=eL (ox ls ps.length t)) (λ_ _=>rfl) (λi _ c=>uG hk ht2 i c)
 have h1:eL (ox ls ps.length t) ps.length P≠0:=by
  rw[uG hk ht2];unfold vG;rw[if_pos rfl];exact hne
 have B2:=B1.step (c0:=P) (by lia) h1;have:=B2.fr (W:=W) (N:=ps.length+2) (by lia) hW h0 (i:=i) (c:=c) (by lia);rw[if_neg ne] at this;exact Ik this
theorem Ck.step (h:Ck ls0 n P ls ps d) (hW:1<=W) (h0:∀i,i < ls0.length->∀c,Fr 1 W (eL ls0 i c)) (ht:ps.length<=t) (ht2:t < ls.length) (hne:eL ls t P≠0) :
  Ck ls0 n (P+1) (EY (ox ls ps.length t) ps.length P d) (ps++[P]) (((EY (ox ls ps.length t) ps.length P d).getD ps.length []).getD P 0):=by
 obtain ⟨pm,B⟩:=h.bar;have hl:=h.len;have hk:ps.length < ls.length:=by lia
 have hz:=h.int hW h0 ht ht2 hne;have w1:=Ho h.wide hk ht2;have k1:ps.length < (ox ls ps.length t).length:=by rw[vF];exact hk
 have B1:=(B.swap ht (by lia)).congr (p2:=λj=>ps.getD j 0) (l2:=eL (ox ls ps.length t)) (λ_ _=>rfl) (λi _ c=>uG hk ht2 i c);have E1:=(h.el.swap ht (by lia)).congr (p2:=λj=>ps.getD j 0) (l2:=eL (ox ls ps.length t)) (λ_ _=>rfl) (λi _ c=>uG hk ht2 i c)
 have h1:eL (ox ls ps.length t) ps.length P≠0:=by
  rw[uG hk ht2];unfold vG;rw[if_pos rfl];exact hne
 have B2:=B1.step (c0:=P) (by lia) h1
 have fc:∀i,i < ls0.length->∀c,eL (EY (ox ls ps.length t) ps.length P d) i c=if i=ps.length then eL (ox ls ps.length t) ps.length c else (eL (ox ls ps.length t) ps.length P*eL (ox ls ps.length t) i c - eL (ox ls ps.length t) i P*eL (ox ls ps.length t) ps.length c) / (d:Rat):=λi hi c=>by
  by_cases e:i=ps.length
  ·rw[if_pos e];unfold eL EY;rw[rn (by rw[ah];exact k1),if_pos e]
  ·have:=LR w1 k1 h.d0 (i:=i) (by rw[vF];lia) (hz i (by lia) e) c;rw[this]
 have ed:(((((EY (ox ls ps.length t) ps.length P d).getD ps.length []).getD P 0:Int)):Rat)=eL (ox ls ps.length t) ps.length P:=by
  have:=fc ps.length (by lia) P;rw[if_pos rfl] at this;exact this
 have lp:(ps++[P]).length=ps.length+1:=by rw[au];rfl
 have hp:∀j,j < ps.length+1->(ps++[P]).getD j 0=if j=ps.length then P else ps.getD j 0:=λj hj=>getD_snoc hj
 refine ⟨by rw[Mj,vF];exact hl,IH w1 k1,⟨λi=>pm (vG ps.length t i),?_⟩,?_⟩
 ·rw[ed,lp];exact B2.congr hp fc
 ·rw[ed,lp];refine nO.congr (E1.step (d':=eL (ox ls ps.length t) ps.length P) (l':=λi c=>if i=ps.length then eL (ox ls ps.length t) ps.length c else (eL (ox ls ps.length t) ps.length P*eL (ox ls ps.length t) i c - eL (ox ls ps.length t) i P*eL (ox ls ps.length t) ps.length c) / (d:Rat)) (by lia) h1 B2.unit λi hi=>?_) hp fc;have d0:=h.el.d0;by_cases e:i=ps.length
  ·refine ⟨1,0,by decide,λ_=>rfl,λc=>?_⟩;rw[if_pos e,e];grind
  ·refine ⟨eL (ox ls ps.length t) ps.length P / (d:Rat),-(eL (ox ls ps.length t) i P) / (d:Rat),?_,λz=>absurd z e,λc=>?_⟩
   ·intro z;apply h1;grind
   ·rw[if_neg e];grind
theorem Ck.sz (h:Ck ls0 n P ls ps d) (hW:1<=W) (h0:∀i,i < ls0.length->∀c,Fr 1 W (eL ls0 i c)) (hP:P<=n) (hr:min ls0.length n<=r) (r15:r<=15):(d.natAbs<=(16*W)^r)/\∀zs∈ls,∀z∈zs,z.natAbs<=(16*W)^r:=by
 obtain ⟨pm,B⟩:=h.bar;have kP:=h.el.kP;have km:=B.km;have hl:=h.len;have mono:∀{s t:Nat},s<=t->(16*W)^s<=(16*W)^t:=λhs=>av (cv (by decide) hW) hs
 refine ⟨ag (Du (B.dfr (W:=W) (N:=16) (by lia) h0)) (mono (by lia)),λzs hz z hz'=>?_⟩;obtain ⟨i,hi,rfl⟩:=bO hz;obtain ⟨c,hc,rfl⟩:=bO hz';have hw:=h.wide _ (aB hi)
 have ez:eL ls i c=(((ls[i])[c]:Int):Rat):=by
  unfold eL;rw[aa (l:=ls),af hi];show ((ls[i].getD c 0:Int):Rat)=_
  rw[aa,af hc];rfl
 by_cases hk:i < ps.length
 ·have:Fr 1 ((16*W)^ps.length) (eL ls i c):=by
   have hd:=B.d0;rw[B.old hk]
   have:=BK (W:=W) (N:=16) (rs:=wY pm ps.length) (vs:=Mf (λj r=>eL ls0 r (ps.getD j 0)) i ps.length++(λr=>eL ls0 r c) :: pU (λj r=>eL ls0 r (ps.getD j 0)) i) (by
    have:=congrArg List.length (cw_split (v:=λj r=>eL ls0 r (ps.getD j 0)) hk);rw[au,bR,cw_len] at this;rw[au,bR]
    lia) (by
    intro v hv r hr
    have hr':∀c,Fr 1 W (eL ls0 r c):=λc=>by
     obtain ⟨t,ht,rfl⟩:=qT hr;exact h0 _ (B.rng t (by lia)) c
    rcases aD.mp hv with hv | hv
    ·obtain ⟨t,_,rfl⟩:=ID hv;exact hr' _
    ·rcases ay.mp hv with rfl | hv
     ·exact hr' _
     ·obtain ⟨t,_,rfl⟩:=cw_in hv;exact hr' _)
   rwa [tH] at this
  rw[ez] at this;exact ag (Du this) (mono (by lia))
 ·by_cases hn:ps.length < n
  ·have:=B.fr (W:=W) (N:=16) (by lia) hW h0 (i:=i) (c:=c) (by lia);rw[ez] at this;exact ag (Du this) (mono (by lia))
  ·have:=h.el.zero i (by lia) (by lia) c (by lia);rw[ez] at this;rw[Ac this];exact aW _
end
def Tp (M W:Nat) (q:Rat):Prop:=∃z:Int,q*(M:Rat)=(z:Rat)/\z.natAbs<=W
theorem Tp.of {M V W:Nat} (h:Fr M V q) (hW:V*M<=W):Tp M W q:=by obtain ⟨z,a,b⟩:=h;exact ⟨z,a,ag b hW⟩
theorem Tp.mono (h:Tp M W q) (hW:W<=W'):Tp M W' q:=by obtain ⟨z,a,b⟩:=h;exact ⟨z,a,ag b hW⟩
theorem Tp.fr (h:Tp M W q) (h0:0 < M):Fr M W q:=by obtain ⟨z,a,b⟩:=h;exact ⟨z,a,ag b (dM _ h0)⟩
def A2 (rows:LR9) (n w:Nat):Prop:=∃M W:Nat,0 < M/\M<=2^215000/\1<=W/\W<=2^w/\(∀xs∈rows,∀x∈xs,Tp M W x)/\w<=215000/\min rows.length n<=15/\min rows.length n*(w+4)<=445000
def j9 (xs:List Rat):List Int:=dy (xs.map nm) (eE (xs.map nm))
theorem t9:(j9 xs).length=xs.length:=by unfold j9 dy;rw[ah,ah]
theorem Af {xs:List Rat}:0 < eE (xs.map nm):=zN (by decide) λb hb=>by
 obtain ⟨n,hn,rfl⟩:=ax.mp hb;obtain ⟨x,_,rfl⟩:=ax.mp hn;exact ij x
theorem MJ:(((j9 xs).getD c 0:Int):Rat)=xs.getD c 0*((eE (xs.map nm):Int):Rat):=by
 unfold j9 dy;rw[aa,aa,az,az];cases e:xs[c]? with
 | none=>show ((0:Int):Rat)=0*_;rw[dC];rfl
 | some x=>exact qr (rF (ax.mpr ⟨x,ak e,rfl⟩))
section
variable {rows:LR9} {n w i c:Nat} {xs:List Rat}
theorem GU (hi:i < rows.length):eL (rows.map j9) i c=((eE ((rows.getD i []).map nm):Int):Rat)*bC rows i c:=by
 unfold eL bC
 have e:(rows.map j9).getD i []=j9 (rows.getD i []):=by
  rw[aa,aa,az,af hi];rfl
 rw[e,MJ,cT]
theorem LO (hw:∀xs∈rows,xs.length=n) (hc:n<=c):bC rows i c=0:=by
 unfold bC;by_cases h:i < rows.length
 ·have:=hw _ (getD_in (e:=[]) h);rw[aa (l:=rows.getD i []),aJ (by lia)];rfl
 ·rw[aa (l:=rows),aJ (by lia)];rfl
theorem GS (i:Nat) (hi:i < rows.length):de rows.length (eL (rows.map j9)) (bC rows i):=by
 have h0:((eE ((rows.getD i []).map nm):Int):Rat)≠0:=λz=>by
  have:=Af (xs:=rows.getD i []);have:=Ac z
  lia
 refine de.congr (λc=>?_) (de.lin (1 / ((eE ((rows.getD i []).map nm):Int):Rat)) 0 (de.row (a:=eL (rows.map j9)) hi) (de.row (a:=eL (rows.map j9)) hi));rw[GU hi];grind
theorem GR (i:Nat) (hi:i < rows.length):de rows.length (bC rows) (eL (rows.map j9) i):=by
 refine de.congr (λc=>?_) (de.lin ((eE ((rows.getD i []).map nm):Int):Rat) 0 (de.row (a:=bC rows) hi) (de.row (a:=bC rows) hi));rw[GU hi];grind
theorem sZ (h:Tp M W x):(nm x).2∣(M:Int):=by
 obtain ⟨z,e,b⟩:=h
 exact Fr.den (V:=z.natAbs) (M:=M) ⟨z,e,by
  rcases dg M with h | h
  ·subst h;have:(z:Rat)=0:=by rw[<- e];simp
   rw[Ac this];simp
  ·exact dM _ h⟩
theorem yw (h:Tp M W x) (h0:0 < M) (hB:0 < B) (d1:(nm x).2∣B) (d2:B∣(M:Int)):∃t:Int,x*(B:Rat)=(t:Rat)/\t.natAbs<=W:=by
 obtain ⟨z,e,b⟩:=h;obtain ⟨s,es⟩:=d2;refine ⟨(nm x).1*(B / (nm x).2),(qr d1).symm,?_⟩
 have s0:0 < s:=by
  rcases Int.lt_trichotomy s 0 with h | h | h
  ·have:=Int.mul_neg_of_pos_of_neg hB h
   lia
  ·rw[h] at es;lia
  ·exact h
 have e2:(((nm x).1*(B / (nm x).2)*s:Int):Rat)=(z:Rat):=by
  rw[a8,qr d1,<- e,<- bV,es,a8];grind
 have e3:=dD.mp e2;have:((nm x).1*(B / (nm x).2)).natAbs*s.natAbs=z.natAbs:=by rw[<- fQ,e3]
 have h1:1<=s.natAbs:=by lia
 have:=dM ((nm x).1*(B / (nm x).2)).natAbs h1
 lia
theorem IK (h0:0 < M) (h:∀x∈xs,Tp M W x):eE (xs.map nm)∣(M:Int):=yj (by decide) (Int.one_dvd _) λb hb=>by
 obtain ⟨n,hn,rfl⟩:=ax.mp hb;obtain ⟨x,hx,rfl⟩:=ax.mp hn;exact ⟨ij x,sZ (h x hx)⟩
theorem A2.rowM (F:A2 rows n w) (hx:xs∈rows):∃M,Fd M (xs.map nm):=by
 obtain ⟨M,W,h0,h1,hW,h2,h3,h4,_⟩:=F;refine ⟨M,by lia,?_,λy hy=>?_⟩
 ·show ((M:Nat):Int).natAbs < 2^220000
  rw[dj];exact bc h1 (df (by decide) (by decide))
 ·obtain ⟨x,hx',rfl⟩:=ax.mp hy;have t:=h3 xs hx x hx';refine ⟨ij x,sZ t,?_⟩;obtain ⟨s,e,b⟩:=yw t h0 (ij x) (Jb _) (sZ t);have e2:(((nm x).1:Int):Rat)=(s:Rat):=by rw[<- e];exact mH x
  rw[dD.mp e2];exact bc (ag b h2) (df (by decide) (by lia))
theorem A2.ent (F:A2 rows n w):∃W:Nat,1<=W/\W<=2^w/\∀i,i < (rows.map j9).length->∀c,Fr 1 W (eL (rows.map j9) i c):=by
 obtain ⟨M,W,h0,h1,hW,h2,h3,h4,_⟩:=F;refine ⟨W,hW,h2,λi hi c=>?_⟩;rw[ah] at hi;have hx:=getD_in (e:=[]) hi;rw[GU hi];unfold bC;generalize rows.getD i []=xs at hx ⊢;by_cases hc:c < xs.length
 ·have t:=h3 xs hx _ (getD_in (e:=0) hc);obtain ⟨s,e,b⟩:=yw t h0 (Af (xs:=xs)) (rF (ax.mpr ⟨_,getD_in (e:=0) hc,rfl⟩)) (IK h0 (h3 xs hx));rw[cT,e];exact Fr.int b
 ·rw[aa,aJ (by lia)];show Fr 1 W (_*0)
  rw[iB];exact Fr.zero
end
def bX (rows:LR9) (n:Nat) (R:LR9) (ps:List Nat):Prop:=R.length=ps.length/\(∀xs∈R,xs.length=n)/\Fc rows.length n (bC rows) ps.length (λj=>ps.getD j 0) (bC R)
structure Tr (rows:LR9) (n w:Nat) (R:LR9) (ps:List Nat) (d:Int) (ls:List (List Int)):Prop where
 rr:bX rows n R ps
 d0:d≠0
 len:ls.length=ps.length
 wide:∀zs∈ls,zs.length=n
 val:∀i c,eL ls i c=(d:Rat)*bC R i c
 dsz:d.natAbs<=2^(min rows.length n*(w+4))
 zsz:∀zs∈ls,∀z∈zs,z.natAbs<=2^(min rows.length n*(w+4))
 tp:∀xs∈R,∀x∈xs,Tp d.natAbs (2^(min rows.length n*(w+4))) x
 km:ps.length<=rows.length
theorem Fc.congrR {a R R2:Nat->Nat->Rat} (h:Fc m n a k p R) (hr:∀i,i < k->∀c,R2 i c=R i c):Fc m n a k p R2 :=
 ⟨h.inc,h.low,λi hi j hj=>by rw[hr i hi];exact h.unit i hi j hj,λi hi c hc=>by rw[hr i hi];exact h.lead i hi c hc,λi hi=>(h.span i hi).rows hr,λi hi=>(h.back i hi).congr λc=>(hr i hi c).symm⟩
theorem Fc.other (h:Fc m n a k p R) (s1:∀i,i < m->de m' a' (a i)) (s2:∀i,i < m'->de m a (a' i)):Fc m' n a' k p R :=
 ⟨h.inc,h.low,h.unit,h.lead,λi hi=>de.trans h.span (s2 i hi),λi hi=>de.trans s1 (h.back i hi)⟩
theorem FQ (h:W<=2^w):(16*W)^r<=2^(r*(w+4)):=by
 calc (16*W)^r<=(2^(w+4))^r:=rQ (by rw[bh];lia) _
  _=2^(r*(w+4)):=by rw[<- Co,bH]
theorem Ck.done (h:Ck (rows.map j9) n n ls ps d) (hw:∀xs∈rows,xs.length=n) (F:A2 rows n w) :
  ∃R,Tr rows n w R ps d (ls.take ps.length):=by
 obtain ⟨W,hW,W2,ent⟩:=F.ent;obtain ⟨_,_,_,_,_,_,_,_,r15,_⟩:=F;have hl:=h.len;have d0:=h.d0;have d0':(d:Rat)≠0:=λz=>d0 (Ac z)
 have km:=h.el.km;have hm:(rows.map j9).length=rows.length:=ah ..;obtain ⟨s1,s2⟩:=h.sz (r:=min rows.length n) hW ent (aj _) (by rw[hm];exact aj _) r15;have s2':∀zs∈ls,∀z∈zs,z.natAbs<=2^(min rows.length n*(w+4)):=λzs hz z hz'=>ag (s2 zs hz z hz') (FQ W2)
 have er:∀i c,bC ((ls.take ps.length).map λzs=>zs.map λ(z:Int)=>(z:Rat) / (d:Rat)) i c=eL (ls.take ps.length) i c / (d:Rat):=λi c=>by
  unfold bC eL;rw[aa (l:=List.map _ _),az,aa (l:=List.take _ _)];cases e:(ls.take ps.length)[i]? with
  | none=>show (0:Rat)=((0:Int):Rat) / _;grind
  | some zs =>
   show (zs.map λ(z:Int)=>(z:Rat) / (d:Rat)).getD c 0=((zs.getD c 0:Int):Rat) / (d:Rat)
   rw[aa,aa,az];cases e2:zs[c]? with
   | none=>show (0:Rat)=((0:Int):Rat) / _;grind
   | some z=>rfl
 have et:∀i,i < ps.length->∀c,eL (ls.take ps.length) i c=eL ls i c:=λi hi c=>by
  unfold eL;rw[aa (l:=List.take _ _),vC hi,<- aa]
 have RR:=(h.el.done λi hi c hc=>zR (n:=n) (λzs hz=>by
  obtain ⟨xs,hx,rfl⟩:=ax.mp hz;rw[t9];exact hw xs hx) hc).congrR (R2:=bC ((ls.take ps.length).map λzs=>zs.map λ(z:Int)=>(z:Rat) / (d:Rat))) λi hi c=>by rw[er,et i hi]
 rw[hm] at RR;refine ⟨(ls.take ps.length).map λzs=>zs.map λ(z:Int)=>(z:Rat) / (d:Rat),⟨by rw[ah,bZ];lia,λxs hx=>?_,RR.other GR GS⟩,d0,by rw[bZ];lia,λzs hz=>h.wide zs (bW hz),λi c=>?_,ag s1 (FQ W2),λzs hz=>s2' zs (bW hz),λxs hx x hx'=>?_,by lia⟩
 ·obtain ⟨zs,hz,rfl⟩:=ax.mp hx;rw[ah];exact h.wide zs (bW hz)
 ·rw[er];grind
 ·obtain ⟨zs,hz,rfl⟩:=ax.mp hx;obtain ⟨z,hz',rfl⟩:=ax.mp hx';have b:=s2' zs (bW hz) z hz';rcases Int.natAbs_eq d with e | e
  ·refine ⟨z,?_,b⟩;have:((d.natAbs:Nat):Rat)=(d:Rat):=by rw[<- bV,<- e]
   rw[this];grind
  ·refine ⟨-z,?_,by rw[mU];exact b⟩;have:((d.natAbs:Nat):Rat)=-(d:Rat):=by rw[<- bV,<- fk];congr 1;lia
   rw[this,fk];grind
theorem LP (hl:R.length=R'.length) (w1:∀xs∈R,xs.length=n) (w2:∀xs∈R',xs.length=n) (h:∀i,i < R.length->∀c,bC R i c=bC R' i c):R=R':=by
 apply dO hl;intro i h1 h2;apply dO (by rw[w1 _ (aB h1),w2 _ (aB h2)]);intro c h3 h4;have:=h i h1 c;unfold bC at this;rw[aa (l:=R),aa (l:=R'),af h1,af h2] at this;have this:(R[i]).getD c 0=(R'[i]).getD c 0:=this;rw[aa,aa,af h3,af h4] at this;exact this
theorem bX.uniq (h:bX rows n R ps) (h':bX rows' n R' ps') (s1:∀i,i < rows.length->de rows'.length (bC rows') (bC rows i)) (s2:∀i,i < rows'.length->de rows.length (bC rows) (bC rows' i)):R=R'/\ps=ps':=by
 obtain ⟨l1,w1,r1⟩:=h;obtain ⟨l2,w2,r2⟩:=h';obtain ⟨ek,ep,eR⟩:=r1.uniq r2 s1 s2;refine ⟨LP (by lia) w1 w2 λi hi c=>eR i (by lia) c,?_⟩;apply dO ek;intro j h1 h2;have:=ep j h1;rw[aa,aa,af h1,af h2] at this;exact this
theorem bX.same (h:bX rows n R ps) (h':bX rows n R' ps'):R=R'/\ps=ps':=h.uniq h' (λ_ hi=>de.row hi) (λ_ hi=>de.row hi)
open PySem PySem.Spec PyProof.Rows
def IW (l:Addr) (H:Hp) (zs:List Int) (v:V):Prop:=∃q,v=V.ref q/\q≠l/\H q=some (.lst (zs.map V.int))
def rK (l:Addr) (H:Hp) (p:Addr) (ls:List (List Int)):Prop:=p≠l/\∃xs,H p=some (.lst xs)/\Paired (IW l H) ls xs
theorem IW.same (h:IW l H zs v) (e:aI H H'):IW l H' zs v:=by obtain ⟨q,a,n,b⟩:=h;exact ⟨q,a,n,e _ _ b⟩
theorem IW.upd {l:Addr} {H:Hp} {zs:List Int} {v:V} {o:HO} (h:IW l H zs v):IW l (upd H l o) zs v:=by obtain ⟨q,a,n,b⟩:=h;exact ⟨q,a,n,by rw[aU n];exact b⟩
theorem rK.upd {l:Addr} {H:Hp} {p:Addr} {ls:List (List Int)} {o:HO} (h:rK l H p ls):rK l (upd H l o) p ls:=by obtain ⟨n,xs,a,b⟩:=h;exact ⟨n,xs,by rw[aU n];exact a,Paired.imp' (λ_ _ z=>z.upd) b⟩
theorem ne_old {H:Hp} (h:H l≠none) (n:H r=none):r≠l:=λz=>h (by rw[<- z];exact n)
theorem k9 {α β:Type} {F:α->β->Prop}:∀{l1:List α} {l2:List β} (_:Paired F l1 l2) (i:Nat) {x:α} {y:β},F x y->Paired F (l1.set i x) (l2.set i y)
 | _,_,.nil,_,_,_,_=>.nil
 | _,_,.cons _ r,0,_,_,h=>.cons h r
 | _,_,.cons a r,i+1,_,_,h=>.cons a (k9 r i h)
theorem Pa (h:ls[i]?=some zs):eL ls i c=((zs.getD c 0:Int):Rat):=by
 unfold eL;rw[aa (l:=ls),h];rfl
theorem S3:((z:Int):Rat)≠0↔z≠0:=⟨λh e=>h (by rw[e];rfl),λh e=>h (Ac e)⟩
theorem DW {zs:List Int} (h:c < zs.length):E6 (zs.map V.int) (c:Int)=some (V.int (zs.getD c 0)):=ff (by rw[az,aa,af h];rfl)
inductive By (vs:List V) (H:Hp) (Q:VK) (E9:XK):Prop
 | mk (l p:Addr) (ls:List (List Int)) (b c:Nat):vs=[.ref p,.int b,.int c]->rK l H p ls->ls.length<=1000->b<=1000->(∀zs∈ls,c < zs.length)->(∀t:Nat,b<=t->t < ls.length->eL ls t c≠0->Q (.int t) H)->((∀t,b<=t->t < ls.length->eL ls t c=0)->Q .non H)->By  vs H Q E9
inductive wX (vs:List V) (H:Hp) (Q:VK) (E9:XK):Prop
 | mk (l p:Addr) (ls:List (List Int)) (t k:Nat):vs=[.ref p,.int t,.int k]->H l≠none->rK l H p ls->ls.length<=1000->t < ls.length->k < ls.length->(∀r H',H r=none->aI H H'->rK l H' r (ox ls k t)->Q (.ref r) H')->wX  vs H Q E9
inductive BA (vs:List V) (H:Hp) (Q:VK) (E9:XK):Prop
 | mk (l p:Addr) (ls:List (List Int)) (k c n:Nat) (b:Int):vs=[.ref p,.int k,.int c,.int b]->H l≠none->rK l H p ls->ls.length<=1000->k < ls.length->(∀zs∈ls,zs.length=n)->n<=1000->c < n->b≠0->Sz 449950 b->(∀zs∈ls,∀z∈zs,Sz 449950 z)->(∀r H',H r=none->aI H H'->rK l H' r (EY ls k c b)->Q (.ref r) H')->BA  vs H Q E9
theorem La (K:FG9) {X:Cx} {a b:Expr} {ta:TA} {p pos tpos:Pos} {elts:List Expr} {kk:Nat} (hg:Gl X "zip") (hm:X.mg "zip"=none) (ha:PA X [a,b] ta) (hK:X.K=K:=by rfl) (hs:starEach [a,b] X.env=[(false,eval a X.env),(false,eval b X.env)]:=by rfl) (hs2:starEach [b] X.env=[(false,eval b X.env)]:=by rfl) :
  PI X (.Tuple elts kk tpos) (.Call (.Name "zip" p) [a,b] [] pos) (Qt K ta):=by subst hK;exact mC hg hm ha hs hs2
def dG (ps:List Nat):List V:=ps.map λ(j:Nat)=>V.int (j:Int)
inductive Bm (K:FG9) (vs:List V) (H:Hp) (Q:VK) (E9:XK):Prop
 | mk (p:Addr) (n w:Nat) (H0:Hp) (rows:LR9):vs=[.ref p,.int n]->bG K H0 H p rows->rows.length<=100->n<=100->(∀xs∈rows,xs.length=n)->A2 rows n w->(∀t lp qp R ps d ls H',H' t=some (.tup [.ref lp,.ref qp])->H' qp=some (.lst (dG ps))->rK qp H' lp ls->aI H H'->Tr rows n w R ps d ls->Q (.ref t) H')->Bm K vs H Q E9
inductive wW (K:FG9) (vs:List V) (H:Hp) (Q:VK) (E9:XK):Prop
 | mk (p:Addr) (n w:Nat) (H0:Hp) (rows:LR9):vs=[.ref p,.int n]->bG K H0 H p rows->rows.length<=100->n<=100->(∀xs∈rows,xs.length=n)->A2 rows n w->(∀r R ps M H',H r=none->aI H H'->bG K H H' r R->bX rows n R ps->ps.length<=rows.length->0 < M->M<=2^(min rows.length n*(w+4))->(∀xs∈R,∀x∈xs,Tp M (2^(min rows.length n*(w+4))) x)->Q (.ref r) H')->wW K vs H Q E9
section
variable {rows rs rs':LR9} {n P w a:Nat} {ps:List Nat}
def LwF (rows:LR9) (n w a:Nat):Prop:=∃M W:Nat,0 < M/\M<=2^a/\1<=W/\W<=2^w/\(∀xs∈rows,∀x∈xs,Tp M W x)/\min rows.length n<=15/\2*(min rows.length n*(w+4)+a)<=199500
end
theorem kl (h:Tp M W x) (h0:0 < M) (h1:M<=2^199750) (h2:W<=2^199750):j4 x:=by
 refine ⟨?_,?_⟩
 ·obtain ⟨s,e,b⟩:=yw h h0 (ij x) (Jb _) (sZ h);have e2:(((nm x).1:Int):Rat)=(s:Rat):=by rw[<- e];exact mH x
  rw[dD.mp e2];exact bc (ag b h2) (df (by decide) (by decide))
 ·have:=kB h0 (xT.mp (sZ h));show ((x.den:Nat):Int).natAbs < _
  rw[dj];exact bc (ag this h1) (df (by decide) (by decide))
theorem Tp.mul (h:Tp M W x) (h':Tp M' W' y):Tp (M*M') (W*W') (x*y):=by
 obtain ⟨z,e,b⟩:=h;obtain ⟨z',e',b'⟩:=h';refine ⟨z*z',?_,by rw[fQ];exact aX b b'⟩;rw[a8,<- e,<- e',qi];grind
inductive Bu (K:FG9) (vs:List V) (H:Hp) (Q:VK) (E9:XK):Prop
 | mk (p q:Addr) (xs ys:List Rat):vs=[.ref p,.ref q]->cP K H p xs->cP K H q ys->ys.length=xs.length->xs.length<=1000->(∀x∈xs,j4 x)->(∀y∈ys,j4 y)->(∀r H',H r=none->aI H H'->cP K H' r (List.zipWith (λx y=>x - y) xs ys)->Q (.ref r) H')->Bu K vs H Q E9
inductive Ed (K:FG9) (vs:List V) (H:Hp) (Q:VK) (E9:XK):Prop
 | mk (p:Addr) (n:Nat) (H0:Hp) (R:LR9) (ps:List Nat):vs=[.ref p]->bG K H0 H p R->R.length<=100->n<=100->(∃rows,bX rows n R ps)->(∀r H',H r=none->aI H H'->H' r=some (.lst (dG ps))->Q (.ref r) H')->Ed K vs H Q E9
theorem JO {K:FG9} {rows:LR9} (pr:Paired (cU K H0 H) rows vs) (s:aI H H') (n:H q=none) (g:H' q=some (.lst vs)):bG K H0 H' q rows :=
 ⟨vs,g,Paired.imp' (λ_ _ z=>z.same s) pr,λz=>by
  obtain ⟨_,_,q',e,_,_,g',_⟩:=eI pr z;cases e;rw[n] at g';cases g'⟩
theorem bX.le (h:bX rows n R ps):ps.length<=n:=by
 obtain ⟨_,_,rr⟩:=h;rcases aT n ps.length with z | z
 ·have inc:∀j,j < ps.length->j<=ps.getD j 0:=by
   intro j
   induction j with
   | zero=>intro _;exact aW _
   | succ j ih =>
    intro hj;have:=ih (by lia);have:=rr.inc j (j+1) (by lia) hj
    lia
  have h1:=inc (ps.length - 1) (by lia);have h2:=rr.low (ps.length - 1) (by lia)
  lia
 ·exact z
theorem Tp.zero:Tp M W 0:=⟨0,by simp,by simp⟩
theorem Tp.add (h:Tp M W x) (h':Tp M W' y):Tp M (W+W') (x+y):=by
 obtain ⟨z,e,b⟩:=h;obtain ⟨z',e',b'⟩:=h';refine ⟨z+z',?_,ag (Int.natAbs_add_le _ _) (Nat.add_le_add b b')⟩;rw[Az,<- e,<- e'];grind
theorem Tp.sum {M W:Nat} {f:Nat->Rat}:∀{k:Nat},(∀j,j < k->Tp M W (f j))->Tp M (k*W) (aS k f)
 | 0,_=>Tp.zero
 | k+1,h=>by
  have:=(Tp.sum (k:=k) λj hj=>h j (by lia)).add (h k (by lia));exact this.mono (by rw[dZ];exact aj _)
theorem kD {xs:List Rat} (h:∀x∈xs,Tp M W x) (c:Nat):Tp M W (xs.getD c 0):=by
 by_cases hc:c < xs.length
 ·exact h _ (getD_in hc)
 ·rw[aa,aJ (by lia)];exact Tp.zero
theorem Ow (h:∀xs∈R,∀x∈xs,Tp M W x) (i c:Nat):Tp M W (bC R i c):=by
 unfold bC;by_cases hi:i < R.length
 ·exact kD (h _ (getD_in hi)) c
 ·rw[aa (l:=R),aJ (by lia)];exact Tp.zero
theorem JU {K:FG9} {g:TG} (Pv:Nat->List V->Hp->Prop) (hz:xs.length<=sizeLine) (h0:Pv 0 [] H) (hl:∀i ys H,i<=xs.length->Pv i ys H->bE K H l xs)
  (hs:∀i x ys H p,xs[i]?=some x->ys.length<=i->Pv i ys H->H p=none->qv σ₀ g tf te (.ref p) (upd H p (.tup [.int i,x])) (λy H'=>Pv (i+1) (ys++[y]) H') (λH'=>Pv (i+1) ys H'))
  (hd:∀ys H,ys.length<=xs.length->Pv xs.length ys H->∀p,H p=none->Q (.ref p) (upd H p (.lst ys))):rP (QV K l) σ₀ g tf te Q H:=by
 refine ⟨λi m ys H=>m=xs.length - i/\i<=xs.length/\ys.length<=i/\Pv i ys H,⟨xs.length,by simp,aW _,aW _,h0⟩,?_⟩;rintro i m ys H ⟨rfl,hi,hy,p⟩;have q1:=hl i ys H hi p;by_cases hlt:i < xs.length
 ·refine .inr ⟨⟨xs,xs[i],q1,by simp [hlt]⟩,by lia,λy H'=>Pv (i+1) (ys++[y]) H',λH'=>Pv (i+1) ys H',λy H' p'=>⟨xs.length - (i+1),by lia,rfl,hlt,by rw[au,aV];lia,p'⟩,λH' p'=>⟨xs.length - (i+1),by lia,rfl,hlt,by lia,p'⟩,λx H' y=>?_⟩;obtain ⟨r,x',rfl,hr,rfl,e1⟩:=y;exact hs i x' ys _ r (e1 xs q1) hy p hr
 ·have e:i=xs.length:=by lia
  subst e;exact .inl ⟨⟨xs,q1,aj _⟩,by lia,hd ys H hy p⟩
section
variable {X:Cx}
theorem BZ (hc:X.calm=true):oj X (.builtin "min") (λxs H Q=>∃(p:Addr) (ns:List Int),xs=[.ref p]/\bE X.K H p (ns.map V.int)/\0 < ns.length/\∀M,M∈ns->(∀a,a∈ns->M<=a)->Q (.int M) H):=by
 intro pins s σ H xs us Q I r h;obtain ⟨p,ns,rfl,hp,hne,q⟩:=h;obtain ⟨u,rfl,ru⟩:=vals1 r;cases ru;obtain ⟨its,r2,pl,_⟩:=I.list hp;have hi:=intsAre_of r2;have hl:=pl.isList;obtain ⟨xs,e⟩:=hi.allInts.items
 have hns:ns=xs.toList.map (·.1):=by
  rw[<- hi.numsOf,<- nums_intItems,<- e]
 have hsz:0 < xs.size:=by
  have h3:=hne;rw[hns,ah,Array.length_toList] at h3;exact h3
 rw[e] at hl;refine min_intList (I.ok.hd hc) hl hsz λv h' tk hv hk=>?_
 obtain ⟨t,rfl⟩:=intItems_at hv;obtain ⟨h1,h2⟩:=argBest_lt (numAt xs) (xs.size - 1);refine ⟨.int _,H,I.kept hk,⟨_,rfl⟩,q _ ?_ λa ha=>?_⟩
 ·rw[hns,numAt_eq];exact getD_in (by rw[ah,Array.length_toList];lia)
 ·rw[hns] at ha;obtain ⟨j,hj,rfl⟩:=mem_getD ha;rw[ah,Array.length_toList] at hj;rw[<- numAt_eq];exact h2 j (by lia)
theorem AN (K:FG9) (hK:X.K=K):xP X (compareOp .NotIn) (rIn K true):=by subst hK;exact C1
end
theorem LC {j:Nat}:SX (.int (j:Int)) (dG ps)=decide (j∈ps):=by
 unfold SX dG;rw[List.any_map,kL,List.any_eq_true,decide_eq_true_iff];constructor
 ·rintro ⟨x,hx,e⟩;have e:((x:Int) == (j:Int))=true:=e;have:(x:Int)=j:=by simpa using e
  have:x=j:=by lia
  rw[<- this];exact hx
 ·intro h;exact ⟨j,h,by show ((j:Int) == (j:Int))=true;simp⟩
theorem JG:(dG ps).all uH=true:=by
 unfold dG;rw[List.all_map];exact ou.mpr λ_ _=>rfl
theorem zC:(dG ps).length=ps.length:=ah ..
def Ib (ps:List Nat):List Int:=ps.map λ(j:Nat)=>(j:Int)
theorem JF:dG ps=(Ib ps).map V.int:=by unfold dG Ib;rw[List.map_map];rfl
theorem HS {i:Nat} (h:(dG ps)[i]?=some v):∃j,ps[i]?=some j/\v=V.int (j:Int):=by
 unfold dG at h;rw[az] at h;cases e:ps[i]? with
 | none=>rw[e] at h;cases h
 | some x=>rw[e] at h;exact ⟨x,rfl,(bU h).symm⟩
def Kb (xs:List Rat) (i:Nat):List Nat:=(List.range i).filter λc=>decide (xs.getD c 0≠0)
theorem HR:Kb xs (i+1)=if xs.getD i 0≠0 then Kb xs i++[i] else Kb xs i:=by
 unfold Kb;rw[AB,Fx];by_cases h:xs.getD i 0≠0
 ·rw[if_pos h,SM (by simpa using h)];rfl
 ·rw[if_neg h,SN (by simpa using h)];simp
def Fm (ps:List Nat) (i:Nat):List Nat:=(List.range i).filter λc=>decide (c∉ps)
theorem zQ:Fm ps (i+1)=if i∉ps then Fm ps i++[i] else Fm ps i:=by
 unfold Fm;rw[AB,Fx];by_cases h:i∉ps
 ·rw[if_pos h,SM (by simpa using h)];rfl
 ·rw[if_neg h,SN (by simpa using h)];simp
theorem QD:(Fm ps i).length<=i:=by
 unfold Fm;exact ag (List.length_filter_le ..) (by rw[bI];exact aj _)
inductive Ec (K:FG9) (vs:List V) (H:Hp) (Q:VK) (E9:XK):Prop
 | mk (p:Addr) (xs:List Rat) (j:Nat):vs=[.ref p]->cP K H p xs->xs.length<=1000->j < xs.length->xs.getD j 0≠0->(∀c,c < j->xs.getD c 0=0)->(∀H',aI H H'->Q (.int (j:Int)) H')->Ec K vs H Q E9
inductive Ee (K:FG9) (vs:List V) (H:Hp) (Q:VK) (E9:XK):Prop
 | mk (p:Addr) (n:Nat) (H0:Hp) (R:LR9) (ps:List Nat):vs=[.ref p,.int n]->bG K H0 H p R->R.length<=100->n<=100->(∃rows,bX rows n R ps)->(∀r H',H r=none->aI H H'->H' r=some (.lst (dG (Fm ps n)))->Q (.ref r) H')->Ee K vs H Q E9
def Kc (R:LR9) (ps:List Nat) (n at_ j:Nat):List Rat:=(List.range n).map λc=>if c=at_ then 1 else aS j λi=>if ps.getD i 0=c then -(bC R i at_) else 0
def RW (R:LR9) (ps:List Nat) (n at_:Nat):List Rat:=Kc R ps n at_ ps.length
def ig (R:LR9) (ps:List Nat) (n:Nat):LR9:=(Fm ps n).map (RW R ps n)
section
variable {R rows:LR9} {ps:List Nat} {n a j:Nat}
theorem wd:(Kc R ps n a j).length=n:=by unfold Kc;rw[ah,bI]
theorem NJ:Kc R ps n a 0=DZ n a:=by
 unfold Kc DZ;refine List.map_congr_left λc _=>?_
 by_cases e:c=a
 ·subst e;simp
 ·rw[if_neg e];show (0:Rat)=_
  have:¬(c:Int)=(a:Int):=by lia
  simp [this]
theorem NK (RR:bX rows n R ps) (hj:j < ps.length) (ha:a∉ps):(Kc R ps n a j).set (ps.getD j 0) (-(bC R j a))=Kc R ps n a (j+1):=by
 obtain ⟨_,_,rr⟩:=RR;have low:=rr.low j hj;have pm:ps.getD j 0∈ps:=getD_in hj;apply dO (by rw[fo,wd,wd]);intro c h1 h2;rw[wd] at h2;have e1:(Kc R ps n a j)[c]'(by rw[wd];exact h2)=if c=a then 1 else aS j λi=>if ps.getD i 0=c then -(bC R i a) else 0:=by simp only[Kc,dN,kR]
 have e2:(Kc R ps n a (j+1))[c]'(by rw[wd];exact h2)=if c=a then 1 else aS (j+1) λi=>if ps.getD i 0=c then -(bC R i a) else 0:=by simp only[Kc,dN,kR]
 rw[List.getElem_set,e2];have es:aS (j+1) (λi=>if ps.getD i 0=c then -(bC R i a) else 0)=aS j (λi=>if ps.getD i 0=c then -(bC R i a) else 0)+if ps.getD j 0=c then -(bC R j a) else 0:=rfl
 by_cases q:ps.getD j 0=c
 ·rw[if_pos q,if_neg (λz=>ha (by rw[<- z,<- q];exact pm)),es,if_pos q,b7 λi hi=>?_,Rat.zero_add];rw[if_neg];intro z;have:=rr.inc i j hi hj
  lia
 ·rw[if_neg q,e1];by_cases z:c=a
  ·rw[if_pos z,if_pos z]
  ·rw[if_neg z,if_neg z,es,if_neg q,rX]
theorem gP:∀{xs ys:List Rat},xs.length=ys.length->eT xs ys=aS xs.length λc=>xs.getD c 0*ys.getD c 0:=by
 intro xs ys h
 have key:∀k,k<=xs.length->eT (xs.take k) (ys.take k)=aS k λc=>xs.getD c 0*ys.getD c 0:=by
  intro k
  induction k with
  | zero=>intro _;rfl
  | succ k ih =>
   intro hk;rw[BN (by lia) (by lia),ih (by lia)];rfl
 have:=key xs.length (aj _);rwa [aE (aj _),aE (by lia)] at this
theorem RV (h0:0 < M) (hW:M<=W) (tp:∀xs∈R,∀x∈xs,Tp M W x) (RR:bX rows n R ps):∀x∈RW R ps n a,Tp M W x:=λx hx=>by
 obtain ⟨_,_,rr⟩:=RR;obtain ⟨c,hc,rfl⟩:=ax.mp hx
 split
 ·exact ⟨M,by rw[Mx,bV],by simpa using hW⟩
 ·by_cases hp:∃j,j < ps.length/\ps.getD j 0=c
  ·obtain ⟨j,hj,e⟩:=hp;rw[fZ hj λi hi ne=>if_neg λz=>?_,if_pos e]
   ·obtain ⟨z,ez,b⟩:=Ow tp j a;exact ⟨-z,by rw[fk,<- ez];grind,by rw[mU];exact b⟩
   ·rcases mP i j with q | q | q
    ·have:=rr.inc i j q hj;lia
    ·exact ne q
    ·have:=rr.inc j i q hi;lia
  ·rw[b7 λj hj=>if_neg λz=>hp ⟨j,hj,z⟩];exact Tp.zero
theorem Dt:c∈Fm ps n↔c < n/\c∉ps:=by
 unfold Fm;rw[gD,jE,decide_eq_true_iff]
end
inductive Bq (K:FG9) (vs:List V) (H:Hp) (Q:VK) (E9:XK):Prop
 | mk (p:Addr) (n a:Nat) (H0:Hp) (R:LR9) (ps:List Nat):vs=[.ref p,.int n,.int a]->bG K H0 H p R->R.length<=100->n<=100->(∃rows,bX rows n R ps)->a < n->a∉ps->(∀xs∈R,∀x∈xs,j4 x)->(∀r H',H r=none->aI H H'->cP K H' r (RW R ps n a)->Q (.ref r) H')->Bq K vs H Q E9
theorem yx:j4 0:=kl (M:=1) (W:=1) Tp.zero (by decide) b8 b8
theorem JA (h:xs∈ig R ps n):∃a,a < n/\a∉ps/\xs=RW R ps n a:=by
 obtain ⟨a,ha,rfl⟩:=ax.mp h;obtain ⟨h1,h2⟩:=Dt.mp ha;exact ⟨a,h1,h2,rfl⟩
theorem N7 {q:Rat} (h:q.den<=9):q.den∣2520:=by
 have:=q.den_pos;generalize q.den=d at h this;have:d=1\/d=2\/d=3\/d=4\/d=5\/d=6\/d=7\/d=8\/d=9:=by lia
 rcases this with rfl | rfl | rfl | rfl | rfl | rfl | rfl | rfl | rfl <;> decide
theorem QI (h:Dr 9 q) (hM:2520∣M):Fr M 9 q:=(Fr.own q h.1).dvd (kC (N7 h.2) hM)
theorem EK:((List.range n).map λ_=>(0:Rat))=List.replicate n 0:=by rw[List.map_const',bI]
def Pq (K:FG9):Sp:=λvs H Q _=>∃m:Nat,vs=[.int m]/\m<=100/\∀r H',H r=none->aI H H'->cP K H' r (List.replicate m 0)->Q (.ref r) H'
theorem bG.any {K:FG9} (h:bG K H0 H p rows):bG K (λ_=>none) H p rows:=by obtain ⟨xs,g,r,n⟩:=h;exact ⟨xs,g,Paired.imp' (λ_ _ ⟨q,a,_,c⟩=>⟨q,a,rfl,c⟩) r,n⟩
def GX (rows:LR9) (ws:List Rat) (n j:Nat):List Rat:=(List.range n).map λc=>aS j λi=>ws.getD i 0*bC rows i c
def Ou (rows:LR9) (ws:List Rat) (n:Nat):List Rat:=GX rows ws n ws.length
section
variable {rows:LR9} {ws xs row:List Rat} {n j:Nat}
theorem sY:(GX rows ws n j).length=n:=by unfold GX;rw[ah,bI]
theorem Ot (h:j < j+1) (hc:c < (GX rows ws n j).length):(GX rows ws n j)[c]=aS j λi=>ws.getD i 0*bC rows i c:=by
 simp only[GX,dN,kR]
theorem MF:GX rows ws n 0=List.replicate n 0:=EK
theorem MG (hx:rows[j]?=some xs) (hp:ws[j]?=some w) (hw:xs.length=n):List.zipWith (λx y=>x+y) (GX rows ws n j) (xs.map λy=>w*y)=GX rows ws n (j+1):=by
 apply dO (by rw[aP,sY,sY,ah];lia);intro c h1 h2;rw[sY] at h2;rw[dh,dN,Ot (by lia),Ot (by lia)];show _=aS j _+_
 congr 1;have e1:ws.getD j 0=w:=by rw[aa,hp];rfl
 have e2:bC rows j c=xs[c]'(by lia):=by
  unfold bC;rw[aa (l:=rows),hx];show xs.getD c 0=_
  rw[aa,af (by lia)];rfl
 dsimp only
 rw[e1,e2]
theorem GW (hc:c < n):(Ou rows ws n).getD c 0=aS ws.length λi=>ws.getD i 0*bC rows i c:=by
 unfold Ou GX;rw[aa,az,bo hc];rfl
theorem qq (hc:c < n):(cm rows n)[c]?=some (rows.map λxs=>xs.getD c 0):=by
 unfold cm;rw[az,bo hc];rfl
theorem Lr:(rows.map λxs=>xs.getD c 0).getD i 0=bC rows i c:=by
 unfold bC;rw[aa,az,aa (l:=rows)];cases rows[i]? with
 | none=>rfl
 | some y=>rfl
end
theorem Fr.up {M V M' V':Nat} (h:Fr M V x) (hd:M∣M') (hv:V<=V'):Fr M' V' x:=(h.dvd hd).mono hv
section
variable {rows R:LR9} {due:List Rat} {ps:List Nat} {n:Nat}
theorem N5 {M V D B:Nat} (h:ys.length=xs.length) (hx:∀x∈xs,Fr M V x) (hy:∀y∈ys,Fr D B y):Fr (M*D) (xs.length*(V*B)) (eT xs ys):=by
 rw[gP h.symm]
 have key:∀j,j<=xs.length->Fr (M*D) (j*(V*B)) (aS j λc=>xs.getD c 0*ys.getD c 0):=by
  intro j
  induction j with
  | zero=>intro _;exact Fr.zero
  | succ j ih =>
   intro hj;exact ((ih (by lia)).add ((hx _ (getD_in (by lia))).mul (hy _ (getD_in (by lia))))).mono (Ja (dZ j (V*B)).symm)
 exact key _ (aj _)
end
def og (K:FG9) (P:Addr->Prop) (H:Hp) (xs:List Rat) (v:V):Prop:=∃q,v=.ref q/\P q/\cP K H q xs
section
variable {K:FG9} {P:Addr->Prop} {H H':Hp} {xs:List Rat} {v:V} {b l:Addr}
theorem og.same (h:og K P H xs v) (s:aI H H'):og K P H' xs v:=by obtain ⟨q,a,c,d⟩:=h;exact ⟨q,a,c,d.same s⟩
theorem og.updL (h:og K P H xs v) (hl:H l=some (.lst ys)) (nb:∀q,P q->q≠l):og K P (upd H l o) xs v:=by obtain ⟨q,a,c,d⟩:=h;exact ⟨q,a,c,d.updL hl (nb q c)⟩
theorem bG.ofE {rows:LR9} (g:H l=some (.lst us)) (h:Paired (og K P H) rows us) (h0:∀q,P q->H0 q=none) (hn:∀q,P q->q≠l):bG K H0 H l rows :=
 ⟨us,g,Paired.imp' (λ_ _ ⟨q,a,c,d⟩=>⟨q,a,h0 q c,d⟩) h,λz=>by
  obtain ⟨_,_,q,e,c,_⟩:=eI h z;cases e;exact hn _ c rfl⟩
end
section
variable {rows rows' R R':LR9} {n w W:Nat} {ps ps':List Nat}
theorem Bh (hw:∀xs∈rows,xs.length=n) (hW:1<=W) (ent:∀i,i < (rows.map j9).length->∀c,Fr 1 W (eL (rows.map j9) i c)):∀P,P<=n->∃ls ps d,Ck (rows.map j9) n P ls ps d:=by
 intro P
 induction P with
 | zero=>intro _;exact ⟨_,_,_,Ck.start λzs hz=>by obtain ⟨x,hx,rfl⟩:=ax.mp hz;rw[t9];exact hw x hx⟩
 | succ P ih =>
  intro hP;obtain ⟨ls,ps,d,I⟩:=ih (by lia);by_cases e:∃t,ps.length<=t/\t < ls.length/\eL ls t P≠0
  ·obtain ⟨t,h1,h2,h3⟩:=e;exact ⟨_,_,_,I.step hW ent h1 h2 h3⟩
  ·exact ⟨_,_,_,I.skip λi h1 h2=>by
    by_cases z:eL ls i P=0
    ·exact z
    ·exact absurd ⟨i,h1,h2,z⟩ e⟩
theorem vU (hw:∀xs∈rows,xs.length=n) (F:A2 rows n w):∃R ps d ls,Tr rows n w R ps d ls:=by
 obtain ⟨W,hW,W2,ent⟩:=F.ent;obtain ⟨ls,ps,d,I⟩:=Bh hw hW ent n (aj _);obtain ⟨R,S⟩:=I.done hw F;exact ⟨R,ps,d,_,S⟩
theorem OH (hw:∀xs∈rows,xs.length=n) (F:A2 rows n w) (RR:bX rows n R ps):ps.length<=rows.length/\∃M,0 < M/\M<=2^(min rows.length n*(w+4))/\∀xs∈R,∀x∈xs,Tp M (2^(min rows.length n*(w+4))) x:=by
 obtain ⟨R2,ps2,d,ls,S⟩:=vU hw F;obtain ⟨rfl,rfl⟩:=S.rr.same RR;exact ⟨S.km,d.natAbs,Int.natAbs_pos.mpr S.d0,S.dsz,S.tp⟩
theorem JL {p q:Nat->Nat} (hp:∀i j,i < j->j < k->p i < p j) (hq:∀i j,i < j->j < k->q i < q j) (hs:∀i,i < k->∃j,j < k/\q j=p i):∀i,i < k->p i=q i:=by
 have hqm:∀i j,i<=j->j < k->q i<=q j:=λi j h hj=>by
  rcases aT i j with z | z
  ·exact aQ (hq i j z hj)
  ·have:i=j:=by lia
   rw[this];exact aj _
 have hqi:∀i j,i < k->j < k->q i < q j->i < j:=λi j hi hj h=>by
  rcases aT i j with z | z
  ·exact z
  ·have:=hqm j i z hi
   lia
 have key:∀i,i < k->∀j,j < k->q j=p i->i<=j:=by
  intro i
  induction i with
  | zero=>intro _ j _ _;exact aW _
  | succ i ih =>
   intro hi j hj e;obtain ⟨j',hj',e'⟩:=hs i (by lia);have h1:=ih (by lia) j' hj' e';have h2:=hp i (i+1) (by lia) hi;have:=hqi j' j hj' hj (by lia)
   lia
 have key2:∀t i,i+t+1=k->∀j,j < k->q j=p i->j<=i:=by
  intro t
  induction t with
  | zero=>intro i e j hj _;lia
  | succ t ih =>
   intro i e j hj ej;obtain ⟨j',hj',e'⟩:=hs (i+1) (by lia);have h1:=ih (i+1) (by lia) j' hj' e';have h2:=hp i (i+1) (by lia) (by lia);have:=hqi j j' hj hj' (by lia)
   lia
 intro i hi;obtain ⟨j,hj,e⟩:=hs i hi;have h1:=key i hi j hj e;have h2:=key2 (k - 1 - i) i (by lia) j hj e;have:j=i:=by lia
 rw[<- e,this]
theorem Jp (h:bX rows n R ps) (h':bX rows' n R' ps') (hl:ps.length=ps'.length) (hs:∀i,i < ps.length->de ps'.length (bC R') (bC R i)):R=R'/\ps=ps':=by
 obtain ⟨l1,w1,r1⟩:=h;obtain ⟨l2,w2,r2⟩:=h'
 have ep:∀i,i < ps.length->ps.getD i 0=ps'.getD i 0:=JL r1.inc (by rw[hl];exact r2.inc) λi hi=>by
  have u:=r1.unit i hi i hi;rw[if_pos rfl] at u;obtain ⟨j,hj,e⟩:=r2.lead_in (hs i hi) (c:=ps.getD i 0) (by rw[u];decide) (λc hc=>r1.lead i hi c hc);exact ⟨j,by lia,e⟩
 have eps:ps=ps':=by
  apply dO hl;intro i a b;have:=ep i a;rw[aa,aa,af a,af b] at this;exact this
 refine ⟨LP (n:=n) (by lia) w1 w2 λi hi c=>?_,eps⟩;rw[l1] at hi;rw[r2.coef (hs i hi) c,<- hl,fZ hi λj hj hj'=>?_]
 ·rw[<- ep i hi];have u:=r1.unit i hi i hi;rw[if_pos rfl] at u;rw[u];grind
 ·rw[<- ep j hj];have u:=r1.unit i hi j hj;rw[if_neg (Ne.symm hj')] at u;rw[u];grind
end
def kb (mv:LR9) (x:List Rat):List Rat:=mv.map λxs=>eT xs x
def jw (mv pt:LR9):Nat->LR9
 | 0=>[]
 | t+1=>pt++(jw mv pt t).map (kb mv)
section
variable {mv pt R R' S X Y:LR9} {n t m i c:Nat} {ps ps':List Nat} {a:Nat->Nat->Rat}
theorem oW:(kb mv x).length=mv.length:=ah ..
theorem BC (lm:mv.length=n) (wm:∀xs∈mv,xs.length=n) (wR:∀xs∈R,xs.length=n) (hi:i < R.length) (c:Nat):bC (R.map (kb mv)) i c=aS n λj=>bC mv c j*bC R i j:=by
 have wi:=wR _ (aB hi);have e1:(R.map (kb mv)).getD i []=kb mv R[i]:=by rw[aa,az,af hi];rfl
 have e2:R.getD i []=R[i]:=by rw[aa,af hi];rfl
 by_cases hc:c < n
 ·have wc:=wm _ (aB (show c < mv.length by lia));have e3:mv.getD c []=mv[c]'(by lia):=by rw[aa,af (by lia)];rfl
  have e4:(kb mv R[i]).getD c 0=eT (mv[c]'(by lia)) R[i]:=by
   unfold kb;rw[aa,az,af (by lia)];rfl
  unfold bC;rw[e1,e2,e3,e4,gP (by lia),wc]
 ·have e3:mv.getD c []=[]:=by rw[aa,aJ (by lia)];rfl
  unfold bC
  rw[e1,e3,aa,aJ (by rw[oW];lia),b7 λj _=>by
   show ([]:List Rat).getD j 0*_=0
   rw[aa];show (0:Rat)*_=0
   grind]
  rfl
theorem yz (lm:mv.length=n) (wm:∀xs∈mv,xs.length=n) (wR:∀xs∈R,xs.length=n) (wS:∀xs∈S,xs.length=n) (hi:i < R.length) (h:de S.length (bC S) (bC R i)):de (S.map (kb mv)).length (bC (S.map (kb mv))) (bC (R.map (kb mv)) i):=by
 obtain ⟨w,hw⟩:=h;refine ⟨w,λc=>?_⟩;rw[BC lm wm wR hi,ah]
 have e1:aS n (λj=>bC mv c j*bC R i j)=aS n (λj=>aS S.length λs=>w s*(bC mv c j*bC S s j)):=aF λj _=>by
  rw[hw j,<- cg];exact aF λs _=>by grind
 rw[e1,eY];exact aF λs hs=>by rw[cg,BC lm wm wS hs]
theorem Ai (h:i < X.length):bC (X++Y) i=bC X i:=by
 funext c;unfold bC;rw[aa (l:=X++Y),bY h,<- aa]
theorem GC:bC (X++Y) (X.length+i)=bC Y i:=by
 funext c;unfold bC;rw[aa (l:=X++Y),bQ (by lia),show X.length+i - X.length=i by lia,<- aa]
theorem rS (h1:∀i,i < X.length->de m a (bC X i)) (h2:∀i,i < Y.length->de m a (bC Y i)):∀i,i < (X++Y).length->de m a (bC (X++Y) i):=λi hi=>by
 rw[au] at hi;by_cases h:i < X.length
 ·rw[Ai h];exact h1 i h
 ·obtain ⟨j,rfl⟩:∃j,i=X.length+j:=⟨i - X.length,by lia⟩;rw[GC];exact h2 j (by lia)
theorem qC (h:i < X.length):de (X++Y).length (bC (X++Y)) (bC X i):=by
 have:=de.row (a:=bC (X++Y)) (m:=(X++Y).length) (i:=i) (by rw[au];lia);rwa [Ai h] at this
theorem nP (h:de Y.length (bC Y) x):de (X++Y).length (bC (X++Y)) x:=de.trans (λs hs=>by
 have:=de.row (a:=bC (X++Y)) (m:=(X++Y).length) (i:=X.length+s) (by rw[au];lia);rwa [GC] at this) h
theorem iu (lm:mv.length=n) (wp:∀xs∈pt,xs.length=n):∀t,∀xs∈jw mv pt t,xs.length=n:=by
 intro t
 induction t with
 | zero=>intro xs hx;cases hx
 | succ t ih =>
  intro xs hx;rcases aD.mp hx with hx | hx
  ·exact wp xs hx
  ·obtain ⟨y,_,rfl⟩:=ax.mp hx;rw[oW,lm]
theorem uD (lm:mv.length=n) (wm:∀xs∈mv,xs.length=n) (wp:∀xs∈pt,xs.length=n) (RR:bX (jw mv pt t) n R ps) (RR':bX (pt++R.map (kb mv)) n R' ps'):bX (jw mv pt (t+1)) n R' ps':=by
 have wk:=iu (mv:=mv) lm wp t;refine ⟨RR'.1,RR'.2.1,RR'.2.2.other ?_ ?_⟩
 ·refine rS (λi hi=>qC hi) λi hi=>nP ?_
  rw[ah] at hi;exact yz lm wm RR.2.1 wk hi (RR.2.2.back i (by rw[<- RR.1];exact hi))
 ·refine rS (λi hi=>qC hi) λi hi=>nP ?_
  rw[ah] at hi;have:=RR.2.2.span i hi;rw[<- RR.1] at this;exact yz lm wm wk RR.2.1 hi this
theorem Lz (lm:mv.length=n) (wm:∀xs∈mv,xs.length=n) (wp:∀xs∈pt,xs.length=n):∀t i,i < (jw mv pt t).length->de (jw mv pt (t+1)).length (bC (jw mv pt (t+1))) (bC (jw mv pt t) i):=by
 intro t
 induction t with
 | zero=>intro i hi;cases hi
 | succ t ih =>
  refine rS (λi hi=>qC hi) λi hi=>nP ?_
  rw[ah] at hi;exact yz lm wm (iu lm wp t) (iu lm wp (t+1)) hi (ih i hi)
theorem zO (lm:mv.length=n) (wm:∀xs∈mv,xs.length=n) (wp:∀xs∈pt,xs.length=n) (RR:bX (jw mv pt t) n R ps) (RR':bX (jw mv pt (t+1)) n R' ps'):∀i,i < ps.length->de ps'.length (bC R') (bC R i):=λi hi =>
 de.trans (λs hs=>RR'.2.2.span s hs) (de.trans (Lz lm wm wp t) (RR.2.2.back i hi))
theorem BF (lm:mv.length=n) (wm:∀xs∈mv,xs.length=n) (wp:∀xs∈pt,xs.length=n) (RR:bX (jw mv pt t) n R ps) (RR':bX (pt++R.map (kb mv)) n R' ps') (hl:ps'.length=ps.length):∀s,bX (jw mv pt (t+s)) n R ps:=by
 have K1:=uD lm wm wp RR RR';obtain ⟨e1,e2⟩:=Jp RR K1 hl.symm (zO lm wm wp RR K1);subst e1 e2;intro s
 induction s with
 | zero=>exact RR
 | succ s ih=>exact uD lm wm wp ih RR'
theorem EN (lm:mv.length=n) (wm:∀xs∈mv,xs.length=n) (wp:∀xs∈pt,xs.length=n) (RR:bX (jw mv pt t) n R ps) (RR':bX (jw mv pt (t+1)) n R' ps'):ps.length<=ps'.length:=by
 have h:=zO lm wm wp RR RR'
 have hs:∀i,i < ps.length->∃j,j < ps'.length/\ps'.getD j 0=ps.getD i 0:=λi hi=>by
  have u:=RR.2.2.unit i hi i hi;rw[if_pos rfl] at u;exact RR'.2.2.lead_in (h i hi) (c:=ps.getD i 0) (by rw[u];decide) (λc hc=>RR.2.2.lead i hi c hc)
 rcases aT ps'.length ps.length with z | z
 ·exfalso
  have key:∀i,i < ps.length->∀j,j < ps'.length->ps'.getD j 0=ps.getD i 0->i<=j:=by
   intro i
   induction i with
   | zero=>intro _ j _ _;exact aW _
   | succ i ih =>
    intro hi j hj e;obtain ⟨j',hj',e'⟩:=hs i (by lia);have h1:=ih (by lia) j' hj' e';have h2:=RR.2.2.inc i (i+1) (by lia) hi;rcases aT j' j with y | y
    ·lia
    ·rcases aT j j' with x | x
     ·have:=RR'.2.2.inc j j' x hj'
      lia
     ·have:j=j':=by lia
      rw[this] at e
      lia
  obtain ⟨j,hj,e⟩:=hs (ps.length - 1) (by lia);have:=key (ps.length - 1) (by lia) j hj e
  lia
 ·exact z
theorem Ge {M V c:Nat} (lm:mv.length=n) (wm:∀xs∈mv,xs.length=n) (wp:∀xs∈pt,xs.length=n) (hc:(n+1)*V<=2^c) (fm:GF M V mv) (fp:GF M V pt):∀t,∀xs∈jw mv pt t,∀x∈xs,Fr (M^t) (2^(c*t)) x:=by
 intro t
 induction t with
 | zero=>intro xs hx;cases hx
 | succ t ih =>
  intro xs hx x hx';have hV:V<=2^c:=ag (cH _ (by lia)) hc;rcases aD.mp hx with hx | hx
  ·refine Fr.up (fp xs hx x hx') (by rw[cY];exact cS _ _) (ag hV (av (by decide) (dM _ (by lia))))
  ·obtain ⟨y,hy,rfl⟩:=ax.mp hx;unfold kb at hx';obtain ⟨r,hr,rfl⟩:=ax.mp hx';have wr:=wm r hr;have wy:=iu (mv:=mv) lm wp t y hy;have f:=N5 (by lia) (fm r hr) (ih y hy);rw[cY,bH (M^t)];refine f.mono ?_;rw[pY,Nat.mul_one,bh,bH (2^(c*t)),<- cC,wr];exact aw _ (ag (aw _ (by lia)) hc)
def lZ (mv pt:LR9) (a c:Nat):Prop:=∃M V:Nat,0 < M/\M<=2^a/\(mv.length+1)*V<=2^c/\GF M V mv/\GF M V pt/\a<=400/\c<=40/\mv.length*(mv.length*(a+c)+4)<=1740/\mv.length*(mv.length*(mv.length*(a+c)+4)+a+c+4)<=445000
theorem lZ.swf {a c:Nat} (F:lZ mv pt a c) (D:mv.length<=8) (wm:∀xs∈mv,xs.length=mv.length) (wp:∀xs∈pt,xs.length=mv.length) (ht:t<=mv.length):A2 (jw mv pt t) mv.length (mv.length*(a+c)):=by
 obtain ⟨M,V,M0,Ma,hV,fm,fp,a3,c3,e14,e89⟩:=F;have f:=Ge rfl wm wp hV fm fp t;have h1:mv.length*(a+c)<=8*440:=aX D (by lia);have hM:M^t<=2^(a*mv.length):=ag (rQ Ma _) (by rw[<- Co];exact av (by decide) (cN _ ht));have h2:a*mv.length<=mv.length*(a+c):=by rw[bH];exact cN _ (by lia)
 have h3:mv.length=0\/mv.length*(a+c)<=1740:=by
  rcases dg mv.length with z | z
  ·exact .inl z
  ·right
   have:=cH (mv.length*(a+c)+4) z
   lia
 have h4:mv.length*(a+c)<=1740:=by
  rcases h3 with z | z
  ·rw[z];lia
  ·exact z
 refine ⟨M^t,2^(mv.length*(a+c)),jC M0,ag hM (av (by decide) (by lia)),b8,aj _,λxs hx x hx'=>Tp.of (f xs hx x hx') ?_,by lia,by lia,?_⟩
 ·refine ag (aX (av (by decide) (cN c ht)) hM) ?_;rw[<- bh];refine av (by decide) ?_;rw[bH c,bH a,<- pY,fE c];exact aj _
 ·exact ag (aw _ (oq _ _)) (by lia)
theorem lZ.tp {a c:Nat} (F:lZ mv pt a c) (D:mv.length<=8) (wm:∀xs∈mv,xs.length=mv.length) (wp:∀xs∈pt,xs.length=mv.length) (ht:t<=mv.length) (RR:bX (jw mv pt t) mv.length R ps):∃M,0 < M/\M<=2^(mv.length*(mv.length*(a+c)+4))/\∀xs∈R,∀x∈xs,Tp M (2^(mv.length*(mv.length*(a+c)+4))) x:=by
 obtain ⟨_,M,h0,h1,h2⟩:=OH (iu rfl wp t) (F.swf D wm wp ht) RR;have le:2^(min (jw mv pt t).length mv.length*(mv.length*(a+c)+4))<=2^(mv.length*(mv.length*(a+c)+4)):=av (by decide) (aw _ (oq _ _));exact ⟨M,h0,ag h1 le,λxs hx x hx'=>(h2 xs hx x hx').mono le⟩
theorem lZ.step {a c:Nat} (F:lZ mv pt a c) (D:mv.length<=8) (wm:∀xs∈mv,xs.length=mv.length) (wp:∀xs∈pt,xs.length=mv.length) (ht:t<=mv.length) (RR:bX (jw mv pt t) mv.length R ps):A2 (pt++R.map (kb mv)) mv.length (mv.length*(mv.length*(a+c)+4)+a+c):=by
 obtain ⟨N,N0,N1,tN⟩:=F.tp D wm wp ht RR;obtain ⟨M,V,M0,Ma,hV,fm,fp,a3,c3,e14,e89⟩:=F;generalize mv.length*(mv.length*(a+c)+4)=e at *
 have V1:V<=2^c:=ag (cH _ (by lia)) hV;have eW:(2:Nat)^(e+a+c)=2^c*(2^a*2^e):=by rw[<- bh,<- bh];congr 1;lia
 refine ⟨N*M,2^(e+a+c),cv N0 M0,?_,b8,aj _,λxs hx x hx'=>?_,by lia,by lia,?_⟩
 ·exact ag (aX N1 Ma) (by rw[<- bh];exact av (by decide) (by lia))
 ·rcases aD.mp hx with hx | hx
  ·refine Tp.of ((fp xs hx x hx').scaleL N) ?_;rw[eW,bH N];exact aX V1 (aX Ma N1)
  ·obtain ⟨y,hy,rfl⟩:=ax.mp hx;unfold kb at hx';obtain ⟨r,hr,rfl⟩:=ax.mp hx';have wr:=wm r hr;have wy:=RR.2.1 y hy;rw[gP (by lia),wr];have t1:∀j,Tp M (V*M) (r.getD j 0):=λj=>kD (λx hx=>Tp.of (fm r hr x hx) (aj _)) j
   have t2:∀j,Tp N (2^e) (y.getD j 0):=λj=>kD (tN y hy) j
   have:=Tp.sum (k:=mv.length) (M:=N*M) (W:=V*M*2^e) (f:=λj=>r.getD j 0*y.getD j 0) λj _=>by
    have:=(t1 j).mul (t2 j);rwa [bH M N] at this
   refine this.mono ?_;rw[eW,cC V,<- cC mv.length];exact aX (ag (aw _ (by lia)) hV) (aw _ Ma)
 ·exact ag (aw _ (oq _ _)) (by rw[show e+a+c+4=e+a+c+4 from rfl];exact e89)
theorem lZ.fit {a c:Nat} (F:lZ mv pt a c) (D:mv.length<=8) (wm:∀xs∈mv,xs.length=mv.length) (wp:∀xs∈pt,xs.length=mv.length) (ht:t<=mv.length) (RR:bX (jw mv pt t) mv.length R ps):∀xs∈mv,∀r∈R,vw xs r:=λxs hx r hr=>by
 obtain ⟨N,N0,N1,tN⟩:=F.tp D wm wp ht RR;obtain ⟨M,V,M0,Ma,hV,fm,fp,a3,c3,e14,e89⟩:=F;have V1:V<=2^c:=ag (cH _ (by lia)) hV;have p14:=av (show 0 < 2 by decide) e14;exact ⟨400,40,1740,1740,⟨M,V,M0,ag Ma (av (by decide) a3),ag V1 (av (by decide) c3),fm xs hx⟩,⟨N,2^1740,N0,ag N1 p14,aj _,λx hx=>((tN r hr x hx).mono p14).fr N0⟩,by decide⟩
end
inductive Br (K:FG9) (C:Addr) (vs:List V) (H:Hp) (Q:VK) (E9:XK):Prop
 | mk (x p:Addr) (H0 H1:Hp) (mv pt lk R:LR9):vs=[.ref x,.ref p]->kH K H0 H C x mv pt lk->gF mv pt lk->bG K H1 H p R->R.length<=100->(∀r∈R,r.length=mv.length)->(∀xs∈mv,∀r∈R,vw xs r)->(∀r H',H r=none->aI H H'->bG K H H' r (R.map (kb mv))->Q (.ref r) H')->Br K C vs H Q E9
structure Au (mv pt:LR9) (Rs:List (LR9)):Prop where
 ne:Rs≠[]
 rr:∀t R,Rs[t]?=some R->∃ps,bX (jw mv pt t) mv.length R ps
 up:∀t R R',Rs[t]?=some R->Rs[t+1]?=some R'->R.length < R'.length
def GrL (K:FG9) (H0 H:Hp) (l:Addr) (Rs:List (LR9)):Prop:=∃us,H l=some (.lst us)/\Paired (λR v=>∃q,v=V.ref q/\H0 q=none/\q≠l/\bG K H0 H q R) Rs us
inductive Bw (K:FG9) (C:Addr) (vs:List V) (H:Hp) (Q:VK) (E9:XK):Prop
 | mk (x:Addr) (a c st:Nat) (H0:Hp) (mv pt lk:LR9):vs=[.ref x,.int st]->st<=1000->kH K H0 H C x mv pt lk->gF mv pt lk->lZ mv pt a c->(∀r Rs H',H r=none->aI H H'->GrL K H H' r Rs->Au mv pt Rs->Rs.length<=st+1->(∀R,Rs.getLast?=some R->∀s,(Rs.length - 1=st/\s=st\/Rs.length - 1 < st/\Rs.length - 1<=s)->∃ps,bX (jw mv pt s) mv.length R ps)->Q (.ref r) H')->Bw K C vs H Q E9
inductive Bn (K:FG9) (C:Addr) (vs:List V) (H:Hp) (Q:VK) (E9:XK):Prop
 | mk (x:Addr) (a c st:Nat) (H0:Hp) (mv pt lk:LR9):vs=[.ref x,.int st]->st<=1000->kH K H0 H C x mv pt lk->gF mv pt lk->lZ mv pt a c->(∀r R ps H',H r=none->aI H H'->bG K H H' r R->bX (jw mv pt st) mv.length R ps->Q (.ref r) H')->Bn K C vs H Q E9
section
variable {K:FG9} {H0 H1 H H':Hp} {p l:Addr} {rows mv pt R R':LR9} {Rs:List (LR9)} {t:Nat}
theorem bG.weakN (h:bG K H0 H p rows) (hn:∀q,H0 q=none->H1 q=none):bG K H1 H p rows:=by obtain ⟨xs,g,r,n⟩:=h;exact ⟨xs,g,Paired.imp' (λ_ _ ⟨q,a,b,c⟩=>⟨q,a,hn q b,c⟩) r,n⟩
theorem bG.updL (h:bG K H0 H p rows) (hl:H l=some (.lst ys)) (nl:H0 l≠none) (pl:p≠l):bG K H0 (upd H l o) p rows:=by obtain ⟨xs,g,r,n⟩:=h;exact ⟨xs,by rw[aU pl];exact g,Paired.imp' (λ_ _ z=>cU.updL z hl nl) r,n⟩
theorem FK:bX [] n [] []:=⟨rfl,(λ_ h=>by cases h),(λ_ _ _ h=>absurd h (cQ _)),(λ_ h=>absurd h (cQ _)),(λ_ h=>absurd h (cQ _)),(λ_ h=>absurd h (cQ _)),(λ_ h=>absurd h (cQ _)),(λ_ h=>absurd h (cQ _))⟩
theorem Au.len (h:Au mv pt Rs):∀(t:Nat) (R:LR9),Rs[t]?=some R->t<=R.length:=by
 intro t
 induction t with
 | zero=>intro R _;exact aW _
 | succ t ih =>
  intro R e;have ht:=(aL.mp e).1;have e0:=af (show t < Rs.length by lia);have:=ih _ e0;have:=h.up t _ R e0 e
  lia
theorem Au.snoc (h:Au mv pt (Rs++[R])) (h1:bX (jw mv pt (Rs.length+1)) mv.length R' ps') (h2:R.length < R'.length):Au mv pt ((Rs++[R])++[R']):=by
 have l1:(Rs++[R]).length=Rs.length+1:=by rw[au];rfl
 refine ⟨by simp,λt S e=>?_,λt S S' e e'=>?_⟩
 ·rcases aT t (Rs.length+1) with z | z
  ·rw[bY (by lia)] at e;exact h.rr t S e
  ·have ht:=(aL.mp e).1;rw[au,aV] at ht;have:t=Rs.length+1:=by lia
   subst this;rw[bQ (by lia),l1,iC] at e;cases e;exact ⟨ps',h1⟩
 ·have ht:=(aL.mp e').1;rw[au,aV] at ht;rw[bY (by lia)] at e;rcases aT (t+1) (Rs.length+1) with z | z
  ·rw[bY (by lia)] at e';exact h.up t S S' e e'
  ·have:t=Rs.length:=by lia
   subst this;rw[bQ (by lia),l1,iC] at e';cases e';rw[bQ (aj _),iC] at e;cases e;exact h2
end
theorem BD {α:Type} {v:α}:∀{l:List α},l.Nodup->v∉l->∀j,(l.set j v).Nodup
 | [],_,_,_=>jD
 | a :: l,h,hn,0=>by
  rw[cR] at h;rw[List.set_cons_zero,cR];exact ⟨λz=>hn (.tail _ z),h.2⟩
 | a :: l,h,hn,j+1=>by
  rw[cR] at h;rw[List.set_cons_succ,cR];refine ⟨λz=>?_,BD h.2 (λz=>hn (.tail _ z)) j⟩;rcases cG z with z | z
  ·exact h.1 z
  ·exact hn (by rw[z];exact .head _)
structure jy (K:FG9) (A:Addr->Prop) (H:Hp) (n:Nat) (C:V->Rat->Prop) (m p l b q0:Addr) (us ws vs:List V):Prop where
 bag:jx H b
 inn:Inner H b q0
 gm:H m=some (.lst us)
 gp:H p=some (.lst ws)
 gl:H l=some (.lst vs)
 lm:us.length=n
 row:∀x∈us++vs++ws,gh K A H n (C x) x
 nd:(us++vs++ws).Nodup
section
variable {K:FG9} {A:Addr->Prop} {H H':Hp} {n:Nat} {C C':V->Rat->Prop} {m p l b q0 q:Addr} {us ws vs zs:List V} {y:Rat} {v:V}
theorem jy.same (h:jy K A H n C m p l b q0 us ws vs) (e:aI H H'):jy K A H' n C m p l b q0 us ws vs :=
 ⟨h.bag.same e,(e.upto (p:=b)).2 _ h.inn,e _ _ h.gm,e _ _ h.gp,e _ _ h.gl,h.lm,λx hx=>(h.row x hx).same e,h.nd⟩
theorem jy.upto (h:jy K A H n C m p l b q0 us ws vs) (M:GK A m p l b q0) (u:cZ b H H') (B':jx H' b):jy K A H' n C m p l b q0 us ws vs :=
 ⟨B',u.2 _ h.inn,u.other M.mb h.gm,u.other M.pb h.gp,u.other M.lb h.gl,h.lm,λx hx=>(h.row x hx).upto u h.bag M.ab,h.nd⟩
theorem jy.weak (h:jy K A H n C m p l b q0 us ws vs) (w:∀x∈us++vs++ws,∀y,C x y->C' x y):jy K A H n C' m p l b q0 us ws vs :=
 ⟨h.bag,h.inn,h.gm,h.gp,h.gl,h.lm,λx hx=>(h.row x hx).weak (λ_ z=>z) (w x hx),h.nd⟩
theorem jy.put (h:jy K A H n C m p l b q0 us ws vs) (M:GK A m p l b q0) (aq:A q) (hq:H q=some (.lst zs)) (hv:cA K H y v) (hc:C (.ref q) y) (j:Nat):jy K A (upd H q (.lst (zs.set j v))) n C m p l b q0 us ws vs:=by
 have ne:∀{z},¬A z->z≠q:=λh e=>h (by rw[e];exact aq)
 refine ⟨h.bag.upd h.inn (ne M.ab).symm (ne M.aq).symm,h.inn.upd (ne M.ab).symm,by rw[aU (ne M.am)];exact h.gm,by rw[aU (ne M.ap)];exact h.gp,by rw[aU (ne M.al)];exact h.gl,h.lm,λx hx=>?_,h.nd⟩;by_cases e:x=.ref q
 ·subst e;exact (h.row _ hx).put hq hv hc j
 ·obtain ⟨q1,qs,rfl,a1,r1,l1,c1⟩:=h.row x hx;exact ⟨q1,qs,rfl,a1,r1.updL hq (λz=>e (by rw[z])),l1,c1⟩
theorem jy.set (h:jy K A H n C m p l b q0 us ws vs) (M:GK A m p l b q0) (hx:gh K A H n (C v) v) (hn:v∉us++vs++ws) (j:Nat):jy K A (upd H m (.lst (us.set j v))) n C m p l b q0 (us.set j v) ws vs:=by
 have mem:∀x∈us.set j v++vs++ws,x=v\/x∈us++vs++ws:=λx hx=>by
  rcases aD.mp hx with hx | hx
  ·rcases aD.mp hx with hx | hx
   ·rcases cG hx with hx | hx
    ·exact .inr (by simp [hx])
    ·exact .inl hx
   ·exact .inr (by simp [hx])
  ·exact .inr (by simp [hx])
 refine ⟨h.bag.upd h.inn M.mb M.mq,h.inn.upd M.mb,aH,by rw[aU M.mp.symm];exact h.gp,by rw[aU M.ml.symm];exact h.gl,by rw[fo];exact h.lm,λx hx'=>?_,?_⟩
 ·rcases mem x hx' with rfl | hx'
  ·exact hx.other h.gm M.am
  ·exact (h.row x hx').other h.gm M.am
 ·have nd:=h.nd;rw[cz] at nd hn ⊢;obtain ⟨n1,n2,n3⟩:=fh.mp nd;refine fh.mpr ⟨?_,n2,λa ha c hc=>?_⟩
  ·rcases aT j us.length with z | z
   ·exact BD n1 (λz'=>hn (aD.mpr (.inl z'))) j
   ·rw[List.set_eq_of_length_le z];exact n1
  ·rcases cG ha with ha | rfl
   ·exact n3 a ha c hc
   ·exact λz=>hn (aD.mpr (.inr (by rw[z];exact hc)))
end
theorem Ij (h0:0 < M) (h1:M<=2^800) (hW:W<=2^140) (h:Fr M W x):j4 x :=
 Dq h0 (ag h1 (av (by decide) (by decide))) (ag hW (av (by decide) (by decide))) h
theorem Nw {t V c:Nat} (ht:t<=3) (hV:V<=2^20) (hc:c<=9):c*(9^t*V)<=2^140:=by
 have h1:9^t<=9^3:=av (by decide) ht;have h2:c*(9^t*V)<=9*(9^3*2^20):=aX hc (aX h1 hV);exact ag h2 (ag (show 9*(9^3*2^20)<=2^40 by decide) (av (by decide) (by decide)))
theorem zA {α:Type} {l:List α} {v:α} (h:l.Nodup) (hn:v∉l):(l++[v]).Nodup:=fh.mpr ⟨h,by simp,λa ha c hc=>by rw[bB.mp hc];exact λz=>hn (by rw[<- z];exact ha)⟩
section
variable {K:FG9} {a:Addr} {xs:List V} {g:TG} {tf:TT} {te:TE} {Q:VK} {σ₀:St} {H:Hp} {α β:Type}
theorem BX (G:Hp->β->V->Prop) (C:β->Prop) (hB:jx H b) (hl:n<=1000) (hG:∀{H' H'' c x},G H' c x->cZ b H' H''->jx H' b->G H'' c x)
  (hA:∀{H' c x},G H' c x->∃q,x=V.ref q/\H' q≠none)
  (hs:∀(i:Nat) H' NY NN,i < n->cZ b H H'->jx H' b->(∀y c H2,cZ b H' H2->jx H2 b->C c->G H2 c y->(∃q,y=V.ref q/\H' q=none)->NY y H2)->qv σ₀ g tf te (.int i) H' NY NN)
  (hd:∀ys cs H' p,H p=none->cZ b H H'->jx H' b->H' p=some (.lst ys)->cs.length=n->ys.Nodup->(∀c∈cs,C c)->Paired (G H') cs ys->(∃H2,H2 p=none/\Paired (G H2) cs ys)->Q (.ref p) H'):rP (Fn 0 n) σ₀ g tf te Q H:=by
 refine pI (λi ys H'=>cZ b H H'/\jx H' b/\∃cs,cs.length=i/\ys.Nodup/\(∀c∈cs,C c)/\Paired (G H') cs ys) (aQ (bx (by lia))) ⟨(aI.refl _).upto,hB,[],rfl,jD,(λ_ z=>nomatch z),.nil⟩ ?_ ?_
 ·rintro i ys H' hi hlen ⟨u,B,cs,lc,nd,hc,pr⟩;rw[yv];refine hs i H' _ _ hi u B λy c H2 u2 B2 cc gy ⟨q,ey,nq⟩=>⟨u.trans u2,B2,cs++[c],by simp [lc],zA nd (λz=>by obtain ⟨c',_,gc⟩:=eI pr z;obtain ⟨q',e',h'⟩:=hA gc;rw[ey] at e';cases e';exact h' nq),IL hc cc,b9 (Paired.imp' (λ_ _ z=>hG z u2 B) pr) (.cons gy .nil)⟩
 ·rintro ys H' hy ⟨u,B,cs,lc,nd,hc,pr⟩ p hp;have s:aI H' (upd H' p (.lst ys)):=aI.new hp;exact hd ys cs _ p (u.none B hp) (u.same s) (B.same s) aH lc nd hc (Paired.imp' (λ_ _ z=>hG z s.upto B) pr) ⟨H',hp,pr⟩
end
structure GI (K:FG9) (A:Addr->Prop) (n:Nat) (C:Rat->Prop) (m p l b q0:Addr) (us ws vs:List V) (H0 H:Hp):Prop where
 mix:jy K A H n (λ_=>C) m p l b q0 us ws vs
 gp:H p=some (.lst ws)
 gl:H l=some (.lst vs)
 kp:ia A b m H0 H
section
variable {K:FG9} {A:Addr->Prop} {n:Nat} {C:Rat->Prop} {m p l b q0 q:Addr} {us ws vs:List V} {H0 H H':Hp} {y:Rat} {v:V}
theorem GI.same (h:GI K A n C m p l b q0 us ws vs H0 H) (e:aI H H'):GI K A n C m p l b q0 us ws vs H0 H':=⟨h.mix.same e,e _ _ h.gp,e _ _ h.gl,h.kp.same e⟩
theorem GI.upto (h:GI K A n C m p l b q0 us ws vs H0 H) (M:GK A m p l b q0) (u:cZ b H H') (B:jx H' b):GI K A n C m p l b q0 us ws vs H0 H':=⟨h.mix.upto M u B,u.other M.pb h.gp,u.other M.lb h.gl,h.kp.upto u⟩
theorem GI.row (h:GI K A n C m p l b q0 us ws vs H0 H) (hx:x∈ws\/x∈vs):gh K A H n C x:=h.mix.row x (by rcases hx with hx | hx <;> simp [hx])
theorem GI.put (h:GI K A n C m p l b q0 us ws vs H0 H) (M:GK A m p l b q0) (hx:V.ref q∈ws\/V.ref q∈vs) (hv:cA K H y v) (hc:C y) (j:Nat):∃zs,H q=some (.lst zs)/\zs.length=n/\GI K A n C m p l b q0 us ws vs H0 (upd H q (.lst (zs.set j v))):=by
 obtain ⟨q',zs,qs,e,a,g,lz,_⟩:=(h.row hx).at;cases e;have ne:∀{z},¬A z->z≠q:=λh e=>h (by rw[e];exact a)
 exact ⟨zs,g,lz,h.mix.put M a g hv hc j,by rw[aU (ne M.ap)];exact h.gp,by rw[aU (ne M.al)];exact h.gl,h.kp.upd (.inl a)⟩
end
inductive Ea (K:FG9) (vs:List V) (H:Hp) (Q:VK) (E9:XK):Prop
 | mk (b:Addr) (n w:Nat) (way first:Int):vs=[.ref b,.int n,.int way,.int first,.int w]->jx H b->n<=8->1<=w->w<=1000000->(∀r us H',H r=none->H' r=some (.lst us)->us.length=n->us.Nodup->(∀x∈us,gh K (λq=>H q=none/\q≠r) H' n (Dr (max w 6)) x)->jx H' b->cZ b H H'->Q (.ref r) H')->Ea K vs H Q E9
theorem LA (lm:mv.length=n) (wm:∀xs∈mv,xs.length=n) (wp:∀xs∈pt,xs.length=n) (RR:bX (jw mv pt t) n R ps) (RR':bX (jw mv pt (t+1)) n R' ps'):bX (pt++R.map (kb mv)) n R' ps':=by
 have wk:=iu (mv:=mv) lm wp t;refine ⟨RR'.1,RR'.2.1,RR'.2.2.other ?_ ?_⟩
 ·refine rS (λi hi=>qC hi) λi hi=>nP ?_
  rw[ah] at hi;have:=RR.2.2.span i hi;rw[<- RR.1] at this;exact yz lm wm wk RR.2.1 hi this
 ·refine rS (λi hi=>qC hi) λi hi=>nP ?_
  rw[ah] at hi;exact yz lm wm RR.2.1 wk hi (RR.2.2.back i (by rw[<- RR.1];exact hi))
theorem OL {F G:List iU->Rat} {r:Nat} {σ:Nat->Nat} (hF:∀ws:List iU,F (ws.map λv i=>v (σ i))=G ws):∀(post pre:List iU) (s:Rat),AD F r (pre.map λv i=>v (σ i)) (post.map λv i=>v (σ i)) s=AD G (σ r) pre post s
 | [],_,_=>rfl
 | v :: post,pre,s=>by
  have i1:=hF (pre++post);have i2:=OL (r:=r) hF post (pre++[v]) (-s);simp only[dE,iX,List.map_nil,AD] at i1 i2 ⊢;rw[i1,i2]
theorem OZ {σ:Nat->Nat}:∀(rs:List Nat) (vs:List iU),qh rs (vs.map λv i=>v (σ i))=qh (rs.map σ) vs
 | [],[]=>rfl
 | [],_ :: _=>rfl
 | r :: rs,vs=>OL (λws=>OZ rs ws) vs [] 1
theorem KQ {σ:Nat->Nat}:∀{k:Nat},(wY (λi=>i) k).map σ=wY σ k
 | 0=>rfl
 | k+1=>by show σ k :: _=_;rw[KQ];rfl
theorem cw_map {τ:iU->iU} {v:Nat->iU}:∀{k:Nat},(pU v k).map τ=pU (λj=>τ (v j)) k
 | 0=>rfl
 | k+1=>by show τ (v k) :: _=_;rw[cw_map];rfl
theorem QF:qh (wY σ k) (pU v k)=qh (wY (λi=>i) k) (pU (λj i=>v j (σ i)) k):=by
 rw[<- KQ,<- OZ,cw_map]
structure Vb (r n:Nat) (Pm Y Z:Nat->Nat->Rat) (d:Rat) (W:Nat):Prop where
 d0:d≠0
 det:d=qh (wY (λi=>i) r) (pU (λj i=>Pm i j) r)
 eq:∀i,i < r->∀c,c < n->Z i c=aS r λs=>Pm i s*Y s c
 pf:∀i,i < r->∀s,s < r->Fr 1 W (Pm i s)
 zf:∀i,i < r->∀c,c < n->Fr 1 W (Z i c)
section
variable {rows fs ls:LR9} {n r M W Wv Wb k P:Nat} {Pm Y Z B E a:Nat->Nat->Rat} {d:Rat} {ps:List Nat} {rs:LR9}
end
section
variable {rows R R1 R2 mv pt:LR9} {n r M V1 W W' Wv Wb k P:Nat} {Pm Y Z B E a:Nat->Nat->Rat} {d:Rat} {ps ps1 ps2:List Nat} {rs:LR9}
theorem Pg (h0:0 < M) (h3:∀xs∈rows,∀x∈xs,Tp M W x):∀i,i < rows.length->∀c,Fr 1 W (eL (rows.map j9) i c):=λi hi c=>by
 have hx:=getD_in (e:=[]) hi;rw[GU hi];unfold bC;generalize rows.getD i []=xs at hx ⊢;by_cases hc:c < xs.length
 ·have t:=h3 xs hx _ (getD_in (e:=0) hc);obtain ⟨s,e,b⟩:=yw t h0 (Af (xs:=xs)) (rF (ax.mpr ⟨_,getD_in (e:=0) hc,rfl⟩)) (IK h0 (h3 xs hx));rw[cT,e];exact Fr.int b
 ·rw[aa,aJ (by lia)];show Fr 1 W (_*0)
  rw[iB];exact Fr.zero
theorem Vb.of (hw:∀xs∈rows,xs.length=n) (hW:1<=W) (h0:0 < M) (h3:∀xs∈rows,∀x∈xs,Tp M W x) (RR:bX rows n R ps):∃Pm Z d,Vb ps.length n Pm (bC R) Z d W:=by
 have ent:=Pg h0 h3;obtain ⟨ls,ps2,d,I⟩:=Bh hw hW (by rw[ah];exact ent) n (aj _);obtain ⟨_,_,⟨pm,B⟩,E⟩:=I;rw[ah] at B E
 have RF:Fc rows.length n (bC rows) ps2.length (λj=>ps2.getD j 0) (λi c=>eL ls i c / d):=Fc.other (E.done λi hi c hc=>zR (n:=n) (λzs hz=>by
  obtain ⟨xs,hx,rfl⟩:=ax.mp hz;rw[t9];exact hw xs hx) hc) GR GS
 obtain ⟨e1,e2,e3⟩:=RF.uniq RR.2.2 (λ_ hi=>de.row hi) (λ_ hi=>de.row hi);refine ⟨λi s=>eL (rows.map j9) (pm i) (ps2.getD s 0),λi c=>eL (rows.map j9) (pm i) c,d,?_⟩;rw[<- e1];have km:=B.km;refine ⟨B.d0,?_,λi hi c hc=>?_,λi hi s hs=>ent _ (B.rng i (by lia)) _,λi hi c hc=>ent _ (B.rng i (by lia)) _⟩
 ·rw[B.det];exact QF
 ·have:=B.coef (i:=i) (c:=c) (by lia);rw[if_pos hi,rX] at this;rw[this];exact aF λs hs=>by rw[<- e3 s hs c];exact cT _ _
end
section
variable {rows R R1 R2 mv pt:LR9} {n t t2 a c:Nat} {ps ps1 ps2:List Nat}
theorem HI (RR:bX rows n R ps):bX R n R ps:=⟨RR.1,RR.2.1,RR.2.2.other (λi hi=>by rw[RR.1];exact RR.2.2.span i hi) (λi hi=>RR.2.2.back i (by rw[<- RR.1];exact hi))⟩
theorem CZ (RR:bX rows n R ps) (e:ps.length=n) (hi:i < n) (c:Nat):bC R i c=if c=i then 1 else 0:=by
 have lo:∀j,j < n->j<=ps.getD j 0:=by
  intro j
  induction j with
  | zero=>intro _;exact aW _
  | succ j ih =>
   intro hj;have:=ih (by lia);have:=RR.2.2.inc j (j+1) (by lia) (by lia)
   lia
 have hi2:∀s j,j+s+1=n->ps.getD j 0<=j:=by
  intro s
  induction s with
  | zero =>
   intro j hj;have:=RR.2.2.low j (by lia)
   lia
  | succ s ih =>
   intro j hj;have:=ih (j+1) (by lia);have:=RR.2.2.inc j (j+1) (by lia) (by lia)
   lia
 have ep:∀j,j < n->ps.getD j 0=j:=λj hj=>AA (hi2 (n - 1 - j) j (by lia)) (lo j hj)
 by_cases hc:c < n
 ·have:=RR.2.2.unit i (by lia) c (by lia);rw[ep c hc] at this;rw[this];by_cases z:i=c
  ·rw[if_pos z,if_pos z.symm]
  ·rw[if_neg z,if_neg (Ne.symm z)]
 ·rw[LO RR.2.1 (by lia),if_neg (by lia)]
theorem Il (h:∀i,i < rows.length->∀c,Tp M W (bC rows i c)):∀xs∈rows,∀x∈xs,Tp M W x:=λxs hx x hx'=>by
 obtain ⟨i,hi,rfl⟩:=bO hx;obtain ⟨c,hc,rfl⟩:=bO hx';have:=h i hi c;unfold bC at this;rw[aa (l:=rows),af hi] at this;have e:(some rows[i]).getD []=rows[i]:=rfl;rw[e,aa,af hc] at this;exact this
theorem lZ.vb (F:lZ mv pt a c) (wm:∀xs∈mv,xs.length=mv.length) (wp:∀xs∈pt,xs.length=mv.length) (ht:t<=ps.length) (RR:bX (jw mv pt t) mv.length R ps):∃Pm Z d w,Vb ps.length mv.length Pm (bC R) Z d (2^w)/\(ps.length < mv.length/\w=(mv.length - 1)*(a+c)\/ps.length=mv.length/\w=0):=by
 have le:=RR.le;rcases aT ps.length mv.length with z | z
 ·obtain ⟨M,V,M0,Ma,hV,fm,fp,_⟩:=F;have f:=Ge rfl wm wp hV fm fp t
  obtain ⟨Pm,Z,d,vb⟩:=Vb.of (iu rfl wp t) (b8 (n:=(mv.length - 1)*(a+c))) (jC M0 (n:=t)) (λxs hx x hx'=>Tp.of (f xs hx x hx') (by
   refine ag (cN _ (rQ Ma t)) ?_;rw[<- Co,<- bh];refine av (by decide) ?_;rw[<- Cq,bH,fE c];exact aw _ (by lia))) RR
  exact ⟨Pm,Z,d,_,vb,.inl ⟨z,rfl⟩⟩
 ·have e:ps.length=mv.length:=by lia
  obtain ⟨Pm,Z,d,vb⟩:=Vb.of (W:=2^0) (M:=1) RR.2.1 (by decide) (by decide) (Il λi hi c=>by
   rw[RR.1,e] at hi;rw[CZ RR e hi c]
   split
   ·exact ⟨1,by rw[Mx];rfl,by decide⟩
   ·exact ⟨0,by rw[dC];rfl,by decide⟩) (HI RR)
  exact ⟨Pm,Z,d,0,vb,.inr ⟨e,rfl⟩⟩
end
def Gd (mv pt:LR9) (i:Nat) (R:LR9) (ps:List Nat):Prop:=bX (jw mv pt i) mv.length R ps/\∃t,t<=ps.length/\t<=i/\bX (jw mv pt t) mv.length R ps/\(t=i\/∀s,bX (jw mv pt (t+s)) mv.length R ps)
section
variable {mv pt R R':LR9} {i:Nat} {ps ps':List Nat}
theorem Gd.start:Gd mv pt 0 [] []:=⟨FK,0,aj _,aj _,FK,.inl rfl⟩
theorem KL (wm:∀xs∈mv,xs.length=mv.length) (wp:∀xs∈pt,xs.length=mv.length) (h:bX (jw mv pt i) mv.length R ps) (h':bX (jw mv pt (i+1)) mv.length R' ps') (e:ps'.length=ps.length):∀s,bX (jw mv pt (i+s)) mv.length R ps:=BF rfl wm wp h (LA rfl wm wp h h') e
theorem Gd.step (wm:∀xs∈mv,xs.length=mv.length) (wp:∀xs∈pt,xs.length=mv.length) (h:Gd mv pt i R ps) (h':bX (jw mv pt (i+1)) mv.length R' ps'):Gd mv pt (i+1) R' ps'/\(mv.length<=i->R'=R):=by
 obtain ⟨h0,t,t1,t2,ht,hs⟩:=h
 have st:(∀s,bX (jw mv pt (t+s)) mv.length R ps)->Gd mv pt (i+1) R' ps'/\(mv.length<=i->R'=R):=λhs=>by
  have:=hs (i+1 - t);rw[show t+(i+1 - t)=i+1 by lia] at this;obtain ⟨rfl,rfl⟩:=this.same h';exact ⟨⟨h',t,t1,by lia,ht,.inr hs⟩,λ_=>rfl⟩
 rcases hs with rfl | hs
 ·have gr:=EN rfl wm wp h0 h';by_cases e:ps'.length=ps.length
  ·exact st (KL wm wp h0 h' e)
  ·refine ⟨⟨h',t+1,by lia,aj _,h',.inl rfl⟩,λhn=>?_⟩;have:=h'.le
   lia
 ·exact st hs
end
section
variable {rows R X K0:LR9} {due L:List Rat} {n m M W D E W0 W1:Nat} {ps:List Nat}
theorem LX (hl:vs.length<=N) (h:∀v∈vs,∀r∈rs,Fr 1 Wx (v r)):∃z:Int,qh rs vs=(z:Rat)/\z.natAbs<=(N*Wx)^rs.length:=by
 have f:=BK hl h;obtain ⟨z,ez⟩:=Ik f;rw[ez] at f;exact ⟨z,ez,Du f⟩
end
def dH (mv:LR9):Nat->List Rat->List Rat
 | 0,x=>x
 | t+1,x=>kb mv (dH mv t x)
section
variable {mv pt lk pus:LR9} {st pu go:List Rat} {n t T c:Nat}
theorem HK (h:st.length=mv.length):∀t,(dH mv t st).length=mv.length
 | 0=>h
 | _+1=>oW
theorem Dn {x y:List Rat} (h:x.length=y.length) (e:∀c,c < x.length->x.getD c 0=y.getD c 0):x=y:=by
 apply dO h;intro c h1 h2;have:=e c h1;rwa [aa,aa,af h1,af h2] at this
theorem EJ (D:gF mv pt lk) (h:st.length=mv.length) (hp:pu.length=pt.length) (hc:c < mv.length):(ft mv pt st pu).getD c 0=aS mv.length (λj=>bC mv c j*st.getD j 0)+aS pt.length λi=>pu.getD i 0*bC pt i c:=by
 have wc:=D.mw _ (aB hc)
 have e:(ft mv pt st pu).getD c 0=eT (mv[c]++pt.map λxs=>xs.getD c 0) (st++pu):=by
  unfold ft;rw[aa,bF,af hc,qq hc];rfl
 rw[e,rB (by lia),gP (by lia),gP (by rw[ah];lia),wc,ah];congr 1
 ·refine aF λj _=>?_
  unfold bC;rw[aa (l:=mv),af hc];rfl
 ·refine aF λi hi=>?_
  rw[cT];congr 1;unfold bC;rw[aa,az,aa (l:=pt),af hi];rfl
end
section
variable {mv pt lk pus R:LR9} {st pu go w pr L:List Rat} {n t T c u k:Nat} {ps:List Nat}
theorem Kk {x y:List Rat} (h:x.length=y.length) (hc:c < x.length):(List.zipWith (λx y=>x - y) x y).getD c 0=x.getD c 0 - y.getD c 0:=by
 rw[aa,bF,aa (l:=x),aa (l:=y),af hc,af (by lia)];rfl
end
def F1 (l:Addr):Hp:=λq=>if q=l then some (.lst []) else none
theorem off_ne:F1 l l≠none:=by unfold F1;rw[if_pos rfl];exact λz=>nomatch z
theorem Lk (h:q≠l):F1 l q=none:=by unfold F1;rw[if_neg h]
theorem Tp.up (h:Tp M W q) (k:Nat) (hx:W*k<=x):Tp (M*k) x q:=by
 obtain ⟨z,e,b⟩:=h;exact ⟨z*k,by rw[qi,a8,<- e,bV];grind,by rw[fQ,dj];exact ag (aw _ b) hx⟩
section
variable {mv pt lk rows R N Hd:LR9} {st pr go:List Rat} {n r t T a c W B:Nat} {ps psd:List Nat} {Pm Y Z:Nat->Nat->Rat} {d:Rat}
theorem Vb.tp (V:Vb r n Pm Y Z d W) (r15:r<=15) (w1:1<=W):∃q:Nat,0 < q/\q<=(16*W)^r/\∀s,s < r->∀c,c < n->Tp q ((16*W)^r) (Y s c):=by
 have rlt:∀i∈wY (λi=>i) r,i < r:=λi hi=>by
  obtain ⟨t,ht,e⟩:=qT hi;have e:i=t:=e
  lia
 obtain ⟨q,eq,bq⟩:=LX (N:=16) (Wx:=W) (rs:=wY (λi=>i) r) (vs:=pU (λj i=>Pm i j) r) (by rw[cw_len];lia) λw hw i hi=>by
  obtain ⟨s,hs,rfl⟩:=cw_in hw;exact V.pf i (rlt i hi) s hs
 rw[tH] at bq;rw[<- V.det] at eq;have q0:q≠0:=λz=>V.d0 (by rw[eq,z];rfl)
 refine ⟨q.natAbs,by lia,bq,λs hs c hc=>?_⟩
 have cr:=BL (rs:=wY (λi=>i) r) (v:=λj i=>Pm i j) (c:=λj=>Y j c) (W:=λi=>Z i c) hs (λi hi=>by
  rw[V.eq i (rlt i hi) c hc];exact aF λj _=>cT _ _)
 obtain ⟨z,ez,bz⟩:=LX (N:=16) (Wx:=W) (rs:=wY (λi=>i) r) (vs:=Mf (λj i=>Pm i j) s r++(λi=>Z i c) :: pU (λj i=>Pm i j) s) (by
  have:=congrArg List.length (cw_split (v:=λj i=>Pm i j) hs);rw[au,bR,cw_len] at this;rw[au,bR]
  lia) λw hw i hi=>by
   rcases aD.mp hw with hw | hw
   ·obtain ⟨s',hs',rfl⟩:=ID hw;exact V.pf i (rlt i hi) s' hs'
   ·rcases ay.mp hw with rfl | hw
    ·exact V.zf i (rlt i hi) c hc
    ·obtain ⟨s',hs',rfl⟩:=cw_in hw;exact V.pf i (rlt i hi) s' (by lia)
 rw[tH] at bz;rw[ez,<- V.det,eq] at cr;have key:Y s c*(q:Rat)=(z:Rat):=cr.symm;rcases Int.natAbs_eq q with h | h
 ·have hq:((q.natAbs:Nat):Rat)=(q:Rat):=by rw[<- bV,<- h]
  exact ⟨z,by rw[hq,key],bz⟩
 ·have hq:((q.natAbs:Nat):Rat)=-(q:Rat):=by rw[<- bV,<- fk];congr 1;lia
  exact ⟨-z,by rw[hq,fk,<- key];grind,by rw[mU];exact bz⟩
theorem Qx (F:lZ mv pt a c) (D8:mv.length<=8) (wm:∀xs∈mv,xs.length=mv.length) (wp:∀xs∈pt,xs.length=mv.length):∀T,∃R ps,Gd mv pt T R ps:=by
 intro T
 induction T with
 | zero=>exact ⟨_,_,Gd.start⟩
 | succ T ih =>
  obtain ⟨R,ps,G⟩:=ih;obtain ⟨RR,t,t1,t2,RRt,hs⟩:=id G;have le:=RR.le
  obtain ⟨R',ps',d,ls,S⟩:=vU (n:=mv.length) (rows:=pt++R.map (kb mv)) (λxs hx=>by
   rcases aD.mp hx with hx | hx
   ·exact wp xs hx
   ·obtain ⟨y,_,rfl⟩:=ax.mp hx;exact oW) (F.step D8 wm wp (t:=t) (by lia) RRt)
  have RR':=uD rfl wm wp RR S.rr;exact ⟨R',ps',(G.step wm wp RR').1⟩
theorem Sk (F:lZ mv pt a c) (D8:mv.length<=8) (wm:∀xs∈mv,xs.length=mv.length) (wp:∀xs∈pt,xs.length=mv.length) (RR:bX (jw mv pt T) mv.length R ps):Gd mv pt T R ps:=by
 obtain ⟨R',ps',G⟩:=Qx F D8 wm wp T;obtain ⟨rfl,rfl⟩:=RR.same G.1;exact G
theorem lZ.rtp (F:lZ mv pt a c) (D8:mv.length<=8) (wm:∀xs∈mv,xs.length=mv.length) (wp:∀xs∈pt,xs.length=mv.length) (RR:bX (jw mv pt T) mv.length R ps):∃q,0 < q/\q<=2^(ps.length*((mv.length - 1)*(a+c)+4))/\∀xs∈R,∀x∈xs,Tp q (2^(ps.length*((mv.length - 1)*(a+c)+4))) x:=by
 obtain ⟨_,t,t1,_,RRt,_⟩:=Sk F D8 wm wp RR;obtain ⟨Pm,Z,d,w,vb,hw⟩:=F.vb wm wp t1 RRt;have le:=RR.le;obtain ⟨q,q0,q1,q2⟩:=vb.tp (by lia) b8
 have up:(16*2^w)^ps.length<=2^(ps.length*((mv.length - 1)*(a+c)+4)):=by
  have e:(16*2^w)^ps.length=2^(ps.length*(w+4)):=by rw[show (16:Nat)=2^4 from rfl,<- bh,<- Co,bH ps.length,fE w]
  rw[e];refine av (by decide) (cN _ ?_);rcases hw with ⟨_,rfl⟩ | ⟨_,rfl⟩ <;> lia
 refine ⟨q,q0,ag q1 up,Il λi hi e=>?_⟩;by_cases he:e < mv.length
 ·exact (q2 i (by rw[<- RR.1];exact hi) e he).mono up
 ·rw[LO RR.2.1 (by lia)];exact Tp.zero
theorem QC (h1:∀i j,i < j->j < ps.length->ps.getD i 0 < ps.getD j 0) (h2:∀j,j < ps.length->ps.getD j 0 < n):(Fm ps n).length+ps.length=n:=by
 have key:∀i,∃k,k<=ps.length/\(Fm ps i).length+k=i/\(∀j,j < k->ps.getD j 0 < i)/\∀j,k<=j->j < ps.length->i<=ps.getD j 0:=by
  intro i
  induction i with
  | zero=>exact ⟨0,aW _,rfl,λj hj=>absurd hj (cQ _),λj _ _=>aW _⟩
  | succ i ih =>
   obtain ⟨k,k1,k2,k3,k4⟩:=ih;rw[zQ];by_cases hk:k < ps.length/\ps.getD k 0=i
   ·have hm:i∈ps:=by rw[<- hk.2];exact getD_in hk.1
    rw[if_neg (λz=>z hm)];refine ⟨k+1,hk.1,by lia,λj hj=>?_,λj hj hl=>?_⟩
    ·rcases aT j k with z | z
     ·have:=k3 j z;lia
     ·rw[show j=k by lia,hk.2];lia
    ·have:=h1 k j (by lia) hl
     lia
   ·have hm:i∉ps:=λz=>by
     obtain ⟨j,hj,ej⟩:=bO z;have ej':ps.getD j 0=i:=by rw[aa,af hj];exact ej
     rcases aT j k with y | y
     ·have:=k3 j y;lia
     ·rcases aT k j with x | x
      ·have:=h1 k j x hj;have:=k4 k (aj _) (by lia)
       lia
      ·exact hk ⟨by lia,by rw[show k=j by lia];exact ej'⟩
    rw[if_pos hm];refine ⟨k,k1,by rw[au,aV];lia,λj hj=>by have:=k3 j hj;lia,λj hj hl=>?_⟩;have:=k4 j hj hl;rcases aT i (ps.getD j 0) with y | y
    ·exact y
    ·exact absurd (by rw[show i=ps.getD j 0 by lia];exact getD_in hl) hm
 obtain ⟨k,k1,k2,k3,k4⟩:=key n;rcases aT k ps.length with z | z
 ·have:=k4 k (aj _) z;have:=h2 k z
  lia
 ·lia
theorem JC (RR:bX rows n R ps):(ig R ps n).length+ps.length=n:=by
 unfold ig;rw[ah];exact QC RR.2.2.inc RR.2.2.low
end
structure SA (mv pt:LR9) (st pu:List Rat):Prop where
 f2:∀xs∈mv,vw xs st
 part:∀kk,∀x∈nextK mv pt st pu kk,j4 x
 su:∀u∈pu,j4 u
 sp:∀row∈pt,∀y∈row,j4 y
 mul:∀u∈pu,∀row∈pt,∀y∈row,j4 (u*y)
inductive D9 (K:FG9) (vs:List V) (H:Hp) (Q:VK) (E9:XK):Prop
 | mk (r s u:Addr) (H0:Hp) (mv pt lk:LR9) (st pu:List Rat):vs=[.ref r,.ref s,.ref u]->lY K H0 H r mv pt lk->gF mv pt lk->cP K H s st->cP K H u pu->st.length=mv.length->pu.length=pt.length->SA mv pt st pu->(∀t H',H t=none->aI H H'->cP K H' t (ft mv pt st pu)->Q (.ref t) H')->D9 K vs H Q E9
structure Bd (mv pt:LR9) (M1 M2 V a1 a2 c:Nat):Prop where
 m1:0 < M1
 m2:0 < M2
 b1:M1<=2^a1
 b2:M2<=2^a2
 gm:GF M1 V mv
 gp:GF M2 V pt
 vc:(mv.length+4)*V<=2^c
section
variable {mv pt lk pus:LR9} {st pu go:List Rat} {M1 M2 V a1 a2 c N Np p t T ν:Nat}
theorem Bd.v1 (B:Bd mv pt M1 M2 V a1 a2 c):V<=2^c:=ag (cH _ (by lia)) B.vc
theorem Gk (h0:0 < M) (h1:M<=2^a) (h2:W<=2^b) (hab:a+b<=199500) (h:Fr M W x):j4 x:=by
 refine kl (Tp.of h (aj _)) h0 (ag h1 (av (by decide) (by lia))) ?_;refine ag (aX h2 h1) ?_;rw[<- bh];exact av (by decide) (by lia)
theorem Bd.next (B:Bd mv pt M1 M2 V a1 a2 c) (D:gF mv pt lk) (ls:st.length=mv.length) (lu:pu.length=pt.length) (N0:0 < N) (dv:M2*Np∣M1*N) (hs:∀x∈st,Fr N (2^p) x) (hu:∀x∈pu,Fr Np (2^p) x) (hN:N<=2^ν) (sz:a1+ν+c+p<=195000) (sp2:a2+c<=195000):SA mv pt st pu/\∀x∈ft mv pt st pu,Fr (M1*N) (2^(c+p)) x:=by
 have V1:=B.v1;have i4:=D.i4;have MN0:0 < M1*N:=cv B.m1 N0;have MN:M1*N<=2^(a1+ν):=by rw[bh];exact aX B.b1 hN
 have Np0:0 < Np:=by
  rcases dg Np with z | z
  ·rw[z,Nat.mul_zero] at dv;have:=Nat.eq_zero_of_zero_dvd dv
   lia
  ·exact z
 have NpMN:Np<=M1*N:=ag (cH _ B.m2) (kB MN0 dv)
 have one:∀u∈pu,∀row∈pt,∀y∈row,Fr (M1*N) (V*2^p) (u*y):=λu hu' row hr y hy=>by
  have:=(B.gp row hr y hy).mul (hu u hu');rw[cT];exact this.dvd dv
 have part:∀kk,kk<=pt.length->∀x∈nextK mv pt st pu kk,Fr (M1*N) (2^(c+p)) x:=λkk hkk x hx=>by
  obtain ⟨j,hj,e⟩:=bO hx;rw[iO] at hj;have e2:=zB (mv:=mv) (pt:=pt) (st:=st) (pu:=pu) (k:=kk) hj;rw[aa,af (by rw[iO];exact hj)] at e2;have e3:x=eT (mv[j]++(pt.map λxs=>xs.getD j 0).take kk) (st++pu.take kk):=by rw[<- e,<- e2];rfl
  have wj:=D.mw _ (aB hj);rw[e3,rB (by lia)];have f1:=Fr.dot (B.gm _ (aB hj)) hs;rw[wj] at f1
  have f2:Fr (M1*N) (4*(V*2^p)) (eT ((pt.map λxs=>xs.getD j 0).take kk) (pu.take kk)):=by
   have hc:∀y∈(pt.map λxs=>xs.getD j 0).take kk,Fr M2 V y:=λy hy=>by
    obtain ⟨xs,hxs,rfl⟩:=ax.mp (bW hy);rw[aa];cases e:xs[j]? with
    | none=>exact Fr.zero
    | some z=>exact B.gp xs hxs z (ak e)
   have:=Fr.dot (ys:=pu.take kk) hc (λy hy=>hu y (bW hy));refine (this.dvd dv).mono (aw _ ?_);rw[bZ,ah]
   lia
  refine (f1.add f2).mono ?_;rw[<- Cq,bh,<- cC];exact aw _ B.vc
 have szb:∀{x:Rat},Fr (M1*N) (2^(c+p)) x->j4 x:=λh=>Gk MN0 MN (aj _) (by lia) h
 have all:∀kk,∀x∈nextK mv pt st pu kk,Fr (M1*N) (2^(c+p)) x:=λkk x hx=>by
  rcases aT pt.length kk with z | z
  ·have e:nextK mv pt st pu kk=nextK mv pt st pu pt.length:=(rT (by lia) (by lia)).trans (rT (aj _) (by lia)).symm;rw[e] at hx;exact part _ (aj _) x hx
  ·exact part kk z x hx
 refine ⟨⟨λxs hx=>⟨a1,c,ν,p,⟨M1,V,B.m1,B.b1,V1,B.gm xs hx⟩,⟨N,2^p,N0,hN,aj _,hs⟩,by lia⟩,λkk x hx=>szb (all kk x hx),λu hu'=>?_,λrow hr y hy=>?_,λu hu' row hr y hy=>szb ((one u hu' row hr y hy).mono (by rw[bh];exact aw _ V1))⟩,λx hx=>?_⟩
 ·exact Gk Np0 (ag NpMN MN) (aj _) (by lia) (hu u hu')
 ·exact Gk B.m2 B.b2 V1 (by lia) (B.gp row hr y hy)
 ·rw[<- rT (k:=pt.length) (aj _) (by lia)] at hx;exact all _ x hx
end
section
variable {X:Cx}
end
theorem Lp (ws vs:List V) (M1 M2 M3:Nat):∃μ:V->Nat,(∀x∈ws,μ x=M2)/\(∀x∈vs,x∉ws->μ x=M3)/\(∀x,x∉ws->x∉vs->μ x=M1)/\∀x,μ x=M1\/μ x=M2\/μ x=M3:=by
 classical
 refine ⟨λx=>if x∈ws then M2 else if x∈vs then M3 else M1,λx h=>if_pos h,λx h h'=>?_,λx h h'=>?_,λx=>?_⟩
 ·show (if x∈ws then M2 else if x∈vs then M3 else M1)=M3
  rw[if_neg h',if_pos h]
 ·show (if x∈ws then M2 else if x∈vs then M3 else M1)=M1
  rw[if_neg h,if_neg h']
 ·show (if x∈ws then M2 else if x∈vs then M3 else M1)=M1\/(if x∈ws then M2 else if x∈vs then M3 else M1)=M2\/(if x∈ws then M2 else if x∈vs then M3 else M1)=M3
  by_cases h:x∈ws
  ·rw[if_pos h];exact .inr (.inl rfl)
  ·rw[if_neg h];by_cases h':x∈vs
   ·rw[if_pos h'];exact .inr (.inr rfl)
   ·rw[if_neg h'];exact .inl rfl
theorem jy.apart {K:FG9} (h:jy K A H n C m p l b q0 us ws vs):(∀x∈us,x∉ws/\x∉vs)/\∀x∈vs,x∉ws:=by
 obtain ⟨n1,n2,n3⟩:=fh.mp h.nd;obtain ⟨n4,n5,n6⟩:=fh.mp n1;exact ⟨λx hx=>⟨λz=>n3 x (aD.mpr (.inl hx)) x z rfl,λz=>n6 x hx x z rfl⟩,λx hx z=>n3 x (aD.mpr (.inr hx)) x z rfl⟩
theorem jy.fr3 {K:FG9} (h:jy K A H n (λ_=>Dr (2^c)) m p l b q0 us ws vs):∃M1 M2 M3,0 < M1/\0 < M2/\0 < M3/\M1<=2^(c*(n*n))/\M2<=2^(c*(ws.length*n))/\M3<=2^(c*(vs.length*n))/\(∀x∈us,gh K A H n (Fr M1 (2^c)) x)/\(∀x∈ws,gh K A H n (Fr M2 (2^c)) x)/\∀x∈vs,gh K A H n (Fr M3 (2^c)) x:=by
 have one:∀l:List V,(∀x∈l,x∈us++vs++ws)->∃M,0 < M/\M<=2^(c*(l.length*n))/\∀x∈l,gh K A H n (Fr M (2^c)) x:=λl hl=>by
  obtain ⟨ra,pa,la,ha⟩:=yT λx hx=>h.row x (hl x hx)
  obtain ⟨M,m0,m1,m2⟩:=MS (c:=c) (n:=n) (rows:=ra) ha;exact ⟨M,m0,by rw[la] at m1;exact m1,FL pa λqs hq=>⟨(ha qs hq).1,m2 qs hq⟩⟩
 obtain ⟨M1,a1,a2,a3⟩:=one us λx hx=>by simp [hx]
 obtain ⟨M2,b1,b2,b3⟩:=one ws λx hx=>by simp [hx]
 obtain ⟨M3,c1,c2,c3⟩:=one vs λx hx=>by simp [hx]
 rw[h.lm] at a2;exact ⟨M1,M2,M3,a1,b1,c1,a2,b2,c2,a3,b3,c3⟩
inductive Bt (K:FG9) (xs:List V) (H:Hp) (Q:VK) (E9:XK):Prop
 | mk (b m p l q0:Addr) (n V1:Nat) (μ:V->Nat) (A:Addr->Prop) (us ws vs:List V):xs=[.ref b,.ref m,.ref p,.ref l]->GK A m p l b q0->jy K A H n (λx=>Fr (μ x) V1) m p l b q0 us ws vs->n<=8->ws.length<=4->vs.length<=4->(∀x,0 < μ x)->(∀x,μ x<=2^800)->(∃M,∀x,x∉ws->x∉vs->μ x=M)->V1<=2^20->(∀q,H q=none->A q)->(∀r us' H',H' r=some (.tup [.ref m,.ref p,.ref l])->jy K A H' n (λx=>Fr (μ x) (9^3*V1)) m p l b q0 us' ws vs->ia A b m H H'->Q (.ref r) H')->Bt K xs H Q E9
def Tt (n i o w c:Nat) (mv pt lk:LR9):Prop:=∃M1 M2 M3 V1:Nat,0 < M1/\0 < M2/\0 < M3/\GF M1 V1 mv/\GF M2 V1 pt/\GF M3 V1 lk/\((w<=9/\M1=2520/\M2=2520/\M3=2520/\V1=9^3*9)\/(9 < w/\M1<=2^(c*(n*n))/\M2<=2^(c*(i*n))/\M3<=2^(c*(o*n))/\V1=9^3*2^c))
inductive Bo (K:FG9) (vs:List V) (H:Hp) (Q:VK) (E9:XK):Prop
 | mk (b:Addr) (n i o w c:Nat):vs=[.ref b,.int n,.int i,.int o,.int w]->jx H b->n<=8->i<=4->o<=4->1<=w->w<=1000000->max w 6<=2^c->c<=20->c*((n+i+o)*n)<=800->(∀r mv pt lk H',lY K H H' r mv pt lk->mv.length=n->pt.length=i->lk.length=o->gF mv pt lk->Tt n i o w c mv pt lk->jx H' b->cZ b H H'->Q (.ref r) H')->Bo K vs H Q E9
open PySem.MeetsSeq
section
variable {rows rows0 fs l2 R Hd:LR9} {hd:List Rat} {n P:Nat} {ps psd:List Nat}
theorem Tp.neg (h:Tp M W x):Tp M W (-x):=by
 obtain ⟨z,e,b⟩:=h;exact ⟨-z,by rw[Rat.neg_mul,e];exact (fk z).symm,by rw[mU];exact b⟩
end
inductive Bp (K:FG9) (vs:List V) (H:Hp) (Q:VK) (E9:XK):Prop
 | mk (p:Addr) (n w:Nat) (H0:Hp) (rows R:LR9) (ps:List Nat):vs=[.ref p,.int n]->bG K H0 H p R->R.length<=100->n<=100->bX rows n R ps->A2 R n w->(∀xs∈R,∀x∈xs,j4 x)->(∀r H',H r=none->aI H H'->bG K H H' r (ig R ps n)->Q (.ref r) H')->Bp K vs H Q E9
structure To (A lk:LR9) (e:Nat):Prop where
 n8:A.length<=8
 wm:∀xs∈A,xs.length=A.length
 wp:∀xs∈lk,xs.length=A.length
 kf:∃a c,lZ A lk a c/\A.length*((A.length - 1)*(a+c)+4)<=900/\∀p,p<=A.length->(A.length - p)*(p*((A.length - 1)*(a+c)+4)+4)<=e
 e1:e<=1650
section
variable {A lk R Hd:LR9} {e T n t:Nat} {ps psd:List Nat}
theorem To.sw (h:To A lk e) (RR:bX (jw A lk T) A.length R ps):(∃w,A2 R A.length w)/\(∀xs∈R,∀x∈xs,j4 x)/\∃w,A2 (ig R ps A.length) A.length w/\min (ig R ps A.length).length A.length*(w+4)<=e/\∃q,0 < q/\∀xs∈ig R ps A.length,∀x∈xs,Tp q (2^w) x:=by
 obtain ⟨a,c,KF,b1,b2⟩:=h.kf;obtain ⟨q,q0,q1,q2⟩:=KF.rtp h.n8 h.wm h.wp RR;have n8:=h.n8;have le:=RR.le;have lR:=RR.1;have cnt:=JC RR;have e1:=h.e1;have bp:=b2 ps.length le;generalize (A.length - 1)*(a+c)+4=E at b1 b2 q1 q2 bp;have pE:ps.length*E<=900:=ag (aw _ le) b1;have up:∀{m:Nat},900<=m->2^(ps.length*E)<=2^m:=λh=>av (by decide) (by lia)
 have tn:∀xs∈ig R ps A.length,∀x∈xs,Tp q (2^(ps.length*E)) x:=λxs hx x hx'=>by
  obtain ⟨a,_,_,rfl⟩:=JA hx;exact RV q0 q1 q2 RR x hx'
 have bn:min (ig R ps A.length).length A.length*(ps.length*E+4)<=e:=ag (aw _ (show min (ig R ps A.length).length A.length<=A.length - ps.length by lia)) bp;refine ⟨⟨ps.length*E,q,2^(ps.length*E),q0,ag q1 (up (by decide)),b8,aj _,q2,by lia,by lia,?_⟩,λxs hx x hx'=>kl (q2 xs hx x hx') q0 (ag q1 (up (by decide))) (up (by decide)),ps.length*E,⟨q,2^(ps.length*E),q0,ag q1 (up (by decide)),b8,aj _,tn,by lia,by lia,by lia⟩,bn,q,q0,tn⟩;have:min R.length A.length*(ps.length*E+4)<=8*904:=aX (by lia) (by lia)
 lia
end
section
theorem yg {M V:Nat} {f:Nat->Rat}:∀k,(∀i,i < k->Fr M V (f i))->Fr M (k*V) (aS k f)
 | 0,_=>Fr.zero
 | k+1,h=>by
  rw[dZ];exact (yg k λi hi=>h i (by lia)).add (h k (by lia))
variable {d j n w M:Nat} {go ws:List Rat} {rows:LR9}
end
section
variable {α β γ:Type} [DecidableEq α] [DecidableEq β] [DecidableEq γ] (k1:Kind α) (k2:Kind β) (k3:Kind γ)
theorem vals3 (r:cM [x,y,z] us):∃u v w,us=[u,v,w]/\RelV x u/\RelV y v/\RelV z w:=by
 cases r with
 | cons a r=>cases r with
  | cons b r=>cases r with
   | cons c r=>cases r;exact ⟨_,_,_,rfl,a,b,c⟩
end
section
variable {rows ends:LR9} {row due:List Rat} {n:Nat}
theorem tY (h:∀xs∈rows,∀x∈xs,Tp M W x):∀xs∈cm rows n,∀x∈xs,Tp M W x:=λxs hx x hx'=>by
 obtain ⟨c,_,rfl⟩:=ax.mp hx;obtain ⟨ys,hy,rfl⟩:=ax.mp hx';exact kD (h ys hy) c
end
section
variable {rows ends:LR9} {n M D c d:Nat}
theorem wV (h:Tp M W x) (M0:0 < M) (h1:M<=2^a) (h2:W<=2^a) (ha:a<=199750):j4 x:=kl h M0 (ag h1 (av (by decide) ha)) (ag h2 (av (by decide) ha))
end
def Jj:Sp:=λvs H Q _=>∃b,vs=[.ref b]/\jx H b/\∀r (n i o w:Nat) H',H' r=some (.tup [.int n,.int i,.int o,.int w])->n<=5->i<=4->o<=4->(w=4\/w=9\/(w=1000/\n<=2))->(n=5->i<=2/\o<=2)->jx H' b->cZ b H H'->Q (.ref r) H'
def rj (n:Nat) (f:Nat->Nat->Rat):LR9:=(List.range n).map λi=>(List.range n).map λj=>f i j
section
variable {n:Nat} {f g:Nat->Nat->Rat}
theorem BH:(rj n f).length=n:=by unfold rj;rw[ah,bI]
theorem NR:∀xs∈rj n f,xs.length=n:=λxs hx=>by obtain ⟨i,_,rfl⟩:=ax.mp hx;rw[ah,bI]
theorem EO (h:i < n):(rj n f)[i]?=some ((List.range n).map λj=>f i j):=by unfold rj;rw[az,bo h];rfl
theorem Jr {h:Nat->Rat} (hi:i < n):((List.range n).map h).getD i 0=h i:=by rw[aa,az,bo hi];rfl
theorem JP (h:i < (rj n f).length):(rj n f)[i]=(List.range n).map λj=>f i j:=by
 have:=EO (f:=f) (n:=n) (i:=i) (by rw[BH] at h;exact h);rw[af h] at this;exact bU this
end
section
variable {mv:LR9} {M:Int}
theorem GY:(DZ n a).length=n:=by unfold DZ;rw[ah,bI]
end
def fw (mv pt F:LR9):LR9:=rj mv.length λa b=>bC mv a b+aS pt.length λk=>bC pt k a*bC F k b
section
variable {mv pt lk F R:LR9} {n m:Nat} {ps:List Nat} {x:Nat->Rat} {st pu:List Rat}
theorem fD:(fw mv pt F).length=mv.length:=BH
theorem IG:∀xs∈fw mv pt F,xs.length=mv.length:=NR
theorem LH (hi:i < n) (hj:j < n):bC (rj n f) i j=f i j:=by
 unfold bC;rw[aa (l:=rj n f),EO hi];exact Jr hj
theorem DB (ha:a < mv.length) (hb:b < mv.length):bC (fw mv pt F) a b=bC mv a b+aS pt.length λk=>bC pt k a*bC F k b:=LH ha hb
theorem N9 (hw:∀xs∈mv,xs.length=mv.length) (lF:F.length=pt.length):List.zipWith (λline more=>List.zipWith (λx y=>x+y) line more) mv (gH (cm pt mv.length) F mv.length)=fw mv pt F:=by
 have l1:(gH (cm pt mv.length) F mv.length).length=mv.length:=by unfold gH;rw[ah,dz]
 apply dO (by rw[aP,l1,fD,yr]);intro a h1 h2;have ha:a < mv.length:=by rw[fD] at h2;exact h2
 rw[dh];unfold fw at h2 ⊢;rw[JP h2]
 have ea:(gH (cm pt mv.length) F mv.length)[a]'(by rw[l1];exact ha)=(cm F mv.length).map λys=>eT ys (pt.map λxs=>xs.getD a 0):=by
  have:(gH (cm pt mv.length) F mv.length)[a]?=some ((cm F mv.length).map λys=>eT ys (pt.map λxs=>xs.getD a 0)):=by
   unfold gH;rw[az,qq ha];rfl
  rw[af (by rw[l1];exact ha)] at this;exact bU this
 rw[ea];have wa:=hw _ (aB ha);apply dO (by rw[aP,ah,ah,dz,bI,wa,yr]);intro b h3 h4;rw[ah,bI] at h4;rw[dh,dN,dN,kR]
 have e1:mv[a][b]'(by rw[wa];exact h4)=bC mv a b:=by
  unfold bC;rw[aa (l:=mv),af ha];show _=(mv[a]).getD b 0
  rw[aa,af (by rw[wa];exact h4)];rfl
 have e2:(cm F mv.length)[b]'(by rw[dz];exact h4)=F.map λxs=>xs.getD b 0:=by
  have:=qq (rows:=F) (n:=mv.length) h4;rw[af (by rw[dz];exact h4)] at this;exact bU this
 rw[e1,e2,gP (by rw[ah,ah,lF]),ah,lF];congr 1;exact aF λk _=>by rw[Lr,Lr];exact cT _ _
theorem ui {a:Nat->Nat->Rat} {f:Nat->Nat->Rat} {w:Nat->Rat}:∀k,(∀i,i < k->de m a (f i))->de m a λc=>aS k λi=>w i*f i c
 | 0,_=>de.zero λ_=>rfl
 | k+1,h=>by
  have:=de.lin 1 (w k) (ui (w:=w) k λi hi=>h i (by lia)) (h k (by lia));exact this.congr λc=>by show _=aS k _+_;grind
end
section
variable {mv pt lk F:LR9} {M1 M2 M3 E V1 V0 a c n0 n:Nat}
theorem zS {M V i j:Nat} (h:GF M V rows):Fr M V (bC rows i j):=by
 unfold bC;rw[aa (l:=rows)];cases ei:rows[i]? with
 | none=>show Fr M V (([]:List Rat).getD j 0);exact Fr.zero
 | some xs =>
  show Fr M V (xs.getD j 0)
  rw[aa];cases ej:xs[j]? with
  | none=>exact Fr.zero
  | some y=>exact h xs (ak ei) y (ak ej)
theorem Cl81.sysd (D:gF mv pt lk):gF (fw mv pt F) pt lk:=⟨by rw[fD];exact D.n8,D.i4,D.o4,λxs hx=>by rw[fD];exact IG xs hx,λxs hx=>by rw[fD];exact D.pw xs hx,λxs hx=>by rw[fD];exact D.lw xs hx⟩
end
inductive yH (K:FG9) (vs:List V) (H:Hp) (Q:VK) (E9:XK):Prop
 | mk (p q:Addr) (w:Nat) (H0 H1:Hp) (one other:LR9):vs=[.ref p,.ref q,.int w]->bG K H0 H p one->bG K H1 H q other->one.length<=1000->other.length<=1000->w<=1000->((∀xs∈one,xs.length=other.length/\∀ys∈cm other w,vw ys xs))->(∀xs∈other,xs.length=w)->(∀r H',H r=none->aI H H'->bG K H H' r (gH one other w)->Q (.ref r) H')->yH K vs H Q E9
inductive ik {α:Type}:Sem α->Prop
 | pure (a:α):ik (.pure a)
 | raise (e:Value):ik (.raise e)
 | uns (w:String):ik (.unsupported w)
 | rule {t:String} {k:Unit->Sem α} (h:∀u,ik (k u)):ik (.rule t k)
 | load {a:Addr} {p:Option Value} {k:Obj->Sem α} (h:∀o,ik (k o)):ik (.load a p k)
 | update {a:Addr} {p:Option Value} {f:Obj->Obj} {k:Unit->Sem α} (hf:∀o,(f o).dict=o.dict) (h:∀u,ik (k u)):ik (.update a p f k)
 | alloc {o:Obj} {k:Addr->Sem α} (h:∀a,ik (k a)):ik (.alloc o k)
 | alive {a:Addr} {k:Option Obj->Sem α} (h:∀o,ik (k o)):ik (.loadIfAlive a k)
 | stack {k:List (Code×Pos)->Sem α} (h:∀l,ik (k l)):ik (.stack k)
 | reg {a:Addr} {k:Unit->Sem α}:ik (.register a k)
 | ask {k:Setting->Sem α} (h:∀x,ik (k x)):ik (.ask k)
theorem ik.bind {m:Sem α} {f:α->Sem β} (hm:ik m) (hf:∀a,ik (f a)):ik (m >>= f):=by
 show ik (Sem.bind m f)
 induction hm with
 | pure a=>exact hf a
 | raise e=>exact .raise e
 | uns w=>exact .uns w
 | rule _ ih=>exact .rule λu=>ih u
 | load _ ih=>exact .load λu=>ih u
 | update hg _ ih=>exact .update hg λu=>ih u
 | alloc _ ih=>exact .alloc λu=>ih u
 | alive _ ih=>exact .alive λu=>ih u
 | stack _ ih=>exact .stack λu=>ih u
 | reg=>exact .reg
 | ask _ ih=>exact .ask λu=>ih u
def jB (e:Addr) (d:Option Addr) (h:Heap):Prop:=e < h.objs.size/\∀o,h.objs[e]?=some o->o.dict=d
theorem jB.of (q:h.get? e=some o):jB e o.dict h:=by
 refine ⟨Heap.lt_size q,λo' q'=>?_⟩;unfold Heap.get? at q
 split at q
 ·cases q
 ·rw[q'] at q;cases q;rfl
theorem jB.update (x:jB e d h) (hf:∀o,(f o).dict=o.dict):jB e d (h.update a f):=by
 obtain ⟨objs,l⟩:=h;refine ⟨by show e < (objs.modify a f).size;rw[Array.size_modify];exact x.1,λo q=>?_⟩;have q:(objs.modify a f)[e]?=some o:=q;rw[Array.getElem?_modify] at q
 split at q
 ·obtain ⟨o',q',rfl⟩:=Option.map_eq_some_iff.mp q;rw[hf];exact x.2 o' q'
 ·exact x.2 o q
theorem jB.push (x:jB e d h):jB e d (h.push o):=by
 obtain ⟨objs,l⟩:=h;refine ⟨by show e < (objs.push o).size;rw[Array.size_push];exact IZ x.1,λo' q=>?_⟩;have q:(objs.push o)[e]?=some o':=q;rw[Array.getElem?_push,if_neg (bN x.1)] at q;exact x.2 o' q
section
variable {M:Model} {e:Addr} {d:Option Addr}
theorem MH {t:Sem α} (ht:ik t) {Q:α->Pos->Shared->Prop}:∀{p:Pos} {s:Shared},Sem.wp M Γ t Q E p s->jB e d s.heap →
  Sem.wp M Γ t (λa p s'=>Q a p s'/\jB e d s'.heap) (λv p s'=>E v p s'/\jB e d s'.heap) p s:=by
 induction ht with
 | pure a=>exact λh x=>⟨h,x⟩
 | raise v=>exact λh x=>⟨h,x⟩
 | uns w=>exact λh _=>h
 | reg=>exact λh _=>h
 | rule _ ih=>exact λh x=>ih () h x
 | load _ ih=>exact λ⟨o,ho,h⟩ x=>⟨o,ho,ih o h x⟩
 | update hf _ ih=>exact λ⟨ha,h⟩ x=>⟨ha,ih () h (x.update hf)⟩
 | alloc _ ih=>exact λh x=>ih _ h x.push
 | alive _ ih=>exact λh x=>ih _ h x
 | stack _ ih=>exact λh x=>ih _ h x
 | ask _ ih=>exact λh x=>ih _ h x
theorem ow {t:Sem α} (ht:ik t) {Q:α->Shared->Prop} (h:wpAny M A t Q E s) (x:jB e d s.heap) :
  wpAny M A t (λa s'=>Q a s'/\jB e d s'.heap) (λv s'=>E v s'/\jB e d s'.heap) s:=λΓ p hΓ=>MH ht (h Γ p hΓ) x
end
theorem L4 (a:Addr) (p:Option Value):ik (Sem.load a p Sem.pure):=.load λo=>.pure o
theorem EU (v:Value):ik (fieldsOf v):=by
 unfold fieldsOf;cases v <;> try exact .uns _
 refine ik.bind (L4 _ _) λo=>?_
 cases o.data <;> first | exact .pure _ | exact .uns _
theorem uK (v:Value) (i:Nat):ik (field v i):=by
 unfold field;refine ik.bind (EU v) λvs=>?_
 split
 ·exact .pure _
 ·exact .uns _
theorem zI (f:Array Value->Array Value) (o:Obj):(o.mapFields f).dict=o.dict:=by
 obtain ⟨c,d,dt,sl⟩:=o;cases dt <;> rfl
theorem rC (v:Value) (i:Nat) (x:Value):ik (setField v i x):=by
 unfold setField;cases v <;> try exact .uns _
 show ik (updateField _ i x)
 unfold updateField;refine ik.bind (L4 _ _) λo=>?_
 cases o.data <;> try exact .uns _
 dsimp only
 split
 ·exact .update (λo=>zI _ o) λu=>.pure u
 ·exact .uns _
theorem uJ (e:Value) (f:Option Addr):ik (setFlight e f):=by
 unfold setFlight;refine ik.bind (uK e 1) λtb=>?_
 split
 ·exact rC _ _ _
 ·exact .pure _
theorem JR (env:Env) (l:List Env):ik (behindIsImport env l):=by
 unfold behindIsImport
 split
 ·exact .pure _
 ·split
  ·exact .pure _
  ·exact ik.bind (uK _ _) λ_=>.pure _
theorem N6 (env:Env) (b:Bool):∀l:List Env,ik (keptBack env b l)
 | []=>by
  simp only[keptBack]
  split
  ·exact .pure _
  ·refine ik.bind ?_ λ_=>.pure _
   unfold underTheClaimsCaller;exact ik.bind (.stack λl=>.pure l) λ_=>.pure _
 | _ :: _=>.pure _
theorem ET:∀l:List Env,ik (readyFrames l)
 | []=>.pure _
 | env :: outer=>by
  unfold readyFrames
  split
  ·refine ik.bind (L4 _ _) λo=>?_
   split
   ·exact .pure _
   ·refine ik.bind (JR _ _) λb=>ik.bind (N6 _ _ _) λv=>ik.bind (.update (λ_=>rfl) λu=>.pure u) λ_=>ET outer
  ·exact .uns _
theorem Gy (env:Env):ik (PySem.frameOf env):=by
 unfold PySem.frameOf;refine ik.bind (ik.bind (.stack λl=>.pure l) λ_=>.pure _) λl=>ik.bind ?_ λo=>?_
 ·unfold frameObject
  split
  ·exact .pure _
  ·exact ik.bind (ET _) λ_=>.pure _
 ·cases o
  ·exact .uns _
  ·exact .pure _
theorem L0 (f:Addr) (b:Bool):ik (entryPlaceOf f b):=by
 unfold entryPlaceOf;refine ik.bind (.stack λl=>.pure l) λl=>?_
 split <;> exact .pure _
theorem L5 (a b c d e:Value) (l:List Value):ik (EntryCells.newEntry a b c d e l):=by
 unfold EntryCells.newEntry newFields;generalize ([a,b,c,d,e]++if l.isEmpty then List.replicate 6 Value.none else l).toArray=vs;have fin:ik (newObjAsIs (.type "traceback") (.fields vs)):=ik.bind (.alloc λa=>.pure a) λ_=>.pure _
 unfold newObj
 dsimp only
 split
 ·exact ik.bind (.uns _) λ_=>fin
 ·exact fin
theorem Ip (e:Value) (env:Env):ik (noteFrame e env):=by
 unfold noteFrame
 split
 ·refine ik.bind (uK e 1) λh=>?_
  have last:∀f:Addr,ik (do setField e 1 (<- EntryCells.newEntry h (<- PySem.frameOf env) .none (rawInt f) .none (<- entryPlaceOf f (h != .none)))):=λf =>
   ik.bind (Gy env) λ_=>ik.bind (L0 _ _) λ_=>ik.bind (L5 _ _ _ _ _ _) λ_=>rC _ _ _
  split
  ·refine ik.bind (uK _ _) λv=>?_
   split
   ·exact .pure _
   ·exact ik.bind (rC _ _ _) λ_=>last _
  ·exact last _
 ·exact .uns _
theorem zV (env:Env) (e:Value):ik (leaving env e):=ik.bind (Ip e env) λ_=>uJ e none
theorem fO.there (x:fO P w H h a o):∃u,h.get? a=some u:=by
 cases o with
 | lst xs=>obtain ⟨_,_,_,_,e⟩:=x;exact ⟨_,e⟩
 | tup xs=>obtain ⟨_,_,_,o,e,_⟩:=x;exact ⟨_,e⟩
 | dK kvs=>obtain ⟨_,_,_,_,o,_,_,e,_⟩:=x;exact ⟨_,e⟩
 | dT kvs=>obtain ⟨_,_,_,_,o,_,_,e,_⟩:=x;exact ⟨_,e⟩
 | set S n=>obtain ⟨o,_,_,_,e,_⟩:=x;exact ⟨_,e⟩
 | ins C dx fs=>obtain ⟨_,_,_,e,_⟩:=x;exact ⟨_,e⟩
 | own y=>exact x
 | xd fs=>obtain ⟨_,⟨_,_,_,e,_⟩,_⟩:=x;exact ⟨_,e⟩
 | rng lo hi=>obtain ⟨_,_,_,e⟩:=x;exact ⟨_,e⟩
 | frz ob u=>obtain ⟨e,_⟩:=x;exact ⟨_,e⟩
 | tbl ps=>exact ⟨_,(show h.get? a=some _ from x)⟩
 | met f y=>exact ⟨_,(show h.get? a=some _ from x)⟩
 | ext φ=>exact x.2.1
section
variable {P:Program} {w:World} {fs:List Addr} {H H1 H2:Hp} {h0 h1 h2 B:Heap}
theorem Gn (U:Un fs [] H H1 h0 h1) (ok:vB P w H1 h1) (hB1:B.StaysIn h1) (hB2:B.StaysIn h2) (up:h1.UpToSlots h2)
  (c1:∀b u,H1 b=some u->∃o,B.get? b=some o) (c2:∀b o,h0.get? b=some o->b∉fs->∃o',B.get? b=some o')
  (hf:∀b∈fs,H b=none) (hd:∀b∈fs,∀o,h0.get? b=some o->∀vs,o.data≠.fields vs):Un fs [] H H1 h0 h2/\vB P w H1 h2:=by
 have same:∀b o,h1.get? b=some o->(∃o',B.get? b=some o')->h2.get? b=some o:=λb o e ⟨o',eb⟩=>by
  have z:=hB1 _ _ eb;rw[e] at z;cases z;exact hB2 _ _ eb
 have slot:∀b o,h0.get? b=some o->b∈fs->∃sl,h2.get? b=some { o with slots:=sl }:=λb o e hb=>by
  obtain ⟨sl,e1⟩:=U.slot b o e (hf b hb) hb (by simp);obtain ⟨sl2,e2⟩:=up b _ e1 (hd b hb o e);exact ⟨sl2,e2⟩
 refine ⟨⟨λb o e n hb hx=>same b o (U.keep b o e n hb hx) (c2 b o e hb),λb o e n hb _=>slot b o e hb,U.free,λb o e hx=>?_,U.tups,U.frzs,U.tbls⟩,λa o e=>?_⟩
 ·by_cases hb:b∈fs
  ·obtain ⟨sl,q⟩:=slot b o e hb;exact ⟨_,q⟩
  ·obtain ⟨o',q⟩:=c2 b o e hb;exact ⟨o',hB2 _ _ q⟩
 ·refine (ok a o e).stay (λb u hb q=>same b u q ?_) (λ_ q=>q) λ_ _ q=>q
  rcases hb with z | z
  ·rw[z];exact c1 a o e
  ·exact c1 b _ z
theorem Un.inner {L:Addr} (a:Un fs [] H H1 h0 h1) (b:Un (L :: fs) [] H1 H2 h1 h2) (hL:h0.get? L=none):Un fs [] H H2 h0 h2 where
 keep:=λc o q n hc hx=>b.keep c o (a.keep c o q n hc hx) (a.free c o q n hx) (λz=>(ay.mp z).elim (λe=>by rw[e,hL] at q;cases q) hc) hx
 slot:=λc o q n hc hx=>by
  obtain ⟨sl,e1⟩:=a.slot c o q n hc hx;obtain ⟨sl',e2⟩:=b.slot c _ e1 (a.free c o q n hx) (bP _ hc) hx;exact ⟨sl',e2⟩
 free:=λc o q n hx=>by
  obtain ⟨o',e1⟩:=a.there c o q hx;exact b.free c o' e1 (a.free c o q n hx) hx
 there:=λc o q hx=>by
  obtain ⟨o',e1⟩:=a.there c o q hx;exact b.there c o' e1 hx
 tups:=λc xs q=>b.tups c xs (a.tups c xs q)
 frzs:=λc o xs q=>b.frzs c o xs (a.frzs c o xs q)
 tbls:=λc ps q=>by
  obtain ⟨m1,e1⟩:=a.tbls c ps q;obtain ⟨m2,e2⟩:=b.tbls c _ e1;exact ⟨m1++m2,by rw[e2,Array.append_assoc]⟩
end
structure QY (P:Program) (w:World) (outer:List Env) (H:Hp) (s:Shared) (H':Hp) (ea t:Addr) (cls:Value) (B:Heap) (s':Shared):Prop where
 os:s'.os=s.os
 bare:AllBare s'.gens
 un:Un (uF outer) [] H H' s.heap s'.heap
 hok:vB P w H' s'.heap
 fly:Heap.FlyingW B outer ea cls (.ref t) s'.heap
 c1:∀b u,H' b=some u->∃o,B.get? b=some o
 c2:∀b o,s.heap.get? b=some o->b∉uF outer->∃o',B.get? b=some o'
structure Fly (P:Program) (w:World) (outer:List Env) (H:Hp) (s:Shared) (H':Hp) (ea t:Addr) (cls:Value) (dx:Option Addr) (B:Heap) (s':Shared):Prop extends QY P w outer H s H' ea t cls B s' where
 dct:jB ea dx s'.heap
def O6 (P:Program) (w:World):J9:=λouter H s E e s'=>∃ea t cls dx H' B,e=.ref ea/\Fly P w outer H s H' ea t cls dx B s'/\E cls dx H'
section
variable {P:Program} {w:World} {K:FG9} {mg:Str->Option Value} {base:Heap} {N:List Str} {qual:Str} {scope:Scope} {f:Addr} {cd:Value} {A:Around} {outer:List Env} {s:Shared} {H:Hp} {E:XK}
theorem ER (hf:env.frame=some L):uF (env :: outer)=L :: uF outer:=by unfold uF;rw[rR,hf]
theorem Ld:tV (O6 P w) (Dz (O6 P w) P w K mg base N qual scope f cd A outer s H E) E:=by
 rintro pins σ H1 s1 e s' I ⟨ea,t,cls,dx,H',B,rfl,F,hE⟩;have hfr:(A.deeper (envOfC qual scope s.heap.objs.size f cd)).frames=some (envOfC qual scope s.heap.objs.size f cd :: outer):=I.ok.frames;have nL:∀b o,s.heap.get? b=some o->b≠s.heap.objs.size:=λb o q=>bN (Heap.lt_size q)
 have hf:uF (envOfC qual scope s.heap.objs.size f cd :: outer)=s.heap.objs.size :: uF outer:=ER rfl;have un:Un (s.heap.objs.size :: uF outer) [] H1 H' s1.heap s'.heap:=hf ▸ F.un;have hU:Un (uF outer) [] H H1 s.heap s1.heap:=I.base;have U1:Un (uF outer) [] H H' s.heap s'.heap:=hU.inner un (Heap.get?_none_of_le (aj _));refine wpAny_mono (ow (e:=ea) (d:=dx) (zV _ _) (wpAny_leaves_onW (E:=λ_ _=>False) (Q:=λ_ s2=>QY P w outer H s H' ea t cls B s2) hfr rfl F.fly λh2 x1 x2=>?_) F.dct) (λ_ s2 ⟨F0,dc⟩=>⟨ea,t,cls,dx,H',B,rfl,⟨F0,dc⟩,hE⟩) (λ_ _ z=>z.1.elim)
 have c2:∀b o,s.heap.get? b=some o->b∉uF outer->∃o',B.get? b=some o':=λb o q hb=>by
  obtain ⟨o',e⟩:=I.base.there b o q (aG);refine F.c2 b o' e λz=>?_
  have z:b∈uF (envOfC qual scope s.heap.objs.size f cd :: outer):=z;rw[hf] at z;rcases ay.mp z with z | z
  ·exact nL b o q z
  ·exact hb z
 obtain ⟨U2,ok2⟩:=Gn U1 F.hok F.fly.1 x1.1 x2 F.c1 c2 I.ok.frf (λb hb o q=>by
  obtain ⟨_,o',e',d⟩:=I.ok.funs.mem hb;have e':s.heap.get? b=some o':=e';rw[q] at e';cases e';exact d)
 exact ⟨F.os.trans I.os,F.bare,U2,ok2,x1,F.c1,c2⟩
end
abbrev vD:List Value:=[.type "ValueError",.type "Exception",.type "BaseException",.type "object"]
theorem N2 {K:FG9} (X':K.In h) (hk:PySem.W.excIn K C vD "ValueError.__new__"=true) :
  ∃bm N nm q bs hdct sn sub ab col dd k0 k1 k2 k3 k5 mN,h.get? C=some (excClassObj nm q C N bs bm hdct sn sub ab col dd k0 k1 k2 k3 k5 "ValueError.__new__")/\h.Ns N mN/\mN "__init__"=none/\OwnTail h vD bm:=by
 unfold PySem.W.excIn at hk
 split at hk
 ·rename_i dd cd sl ho
  split at hk
  ·rename_i C' bm k0 k1 k2 k3 n k5 hm hs
   simp only[du,beq_iff_eq,Bool.not_eq_true'] at hk;obtain ⟨⟨⟨⟨⟨rfl,rfl⟩,hdel⟩,ht⟩,hok⟩,hni⟩:=hk;obtain ⟨nm,bs,mro,ns,qn,hd',sn,sub,ab,col,del⟩:=cd
   dsimp only at hm hdel hok hni
   subst hm hdel
   have hsl:sl=#[k0,k1,k2,k3,some (.builtin "ValueError.__new__"),k5]:=by
    obtain ⟨l⟩:=sl;simp only at hs;rw[hs]
   subst hsl;exact ⟨bm,ns,nm,qn,bs,hd',sn,sub,ab,col,dd,k0,k1,k2,k3,k5,_,X' _ _ ho,.of_isNs (PySem.W.isNs_of_in X' hok),PySem.W.nsMap_none_of_in X' hok hni,PySem.W.tail_of_in X' ht⟩
  ·cases hk
 ·cases hk
abbrev Cx.tr (X:Cx) (pn:List (Addr×Obj)) (xe:Value->Shared->Prop):Cx:={ X with pn:=pn,xe:=xe }
abbrev Cx.sm (X:Cx) (ea:Addr):Cx:={ X with A:=X.A.mark (some (.ref ea)),calm:=false,xe:=λ_ _=>False }
section
variable {X:Cx} {pins:List (Addr×Obj)} {σ:St} {H H':Hp} {s:Shared}
theorem Inv.tr (I:Inv X pins σ H s) (xe:Value->Shared->Prop):Inv (X.tr (X.pn++pins) xe) [] σ H s :=
 ⟨⟨I.ok.mod,I.ok.kind,I.ok.glob,I.ok.blt,I.ok.above,I.ok.inj,I.ok.has,I.ok.cab,I.ok.hd,I.ok.frames,I.ok.stk,I.ok.exf,I.ok.bs,I.ok.bsz,I.ok.noex,I.ok.exfs,I.ok.funs,I.ok.frf⟩,
  I.os,I.bare,I.base,I.loc,I.cell,I.free,I.freeC,λp hp=>I.pin p (by simpa using hp),I.hok,I.len⟩
theorem Inv.untr (I:Inv (X.tr (X.pn++pins) xe) ps σ H s):Inv X pins σ H s :=
 ⟨⟨I.ok.mod,I.ok.kind,I.ok.glob,I.ok.blt,I.ok.above,I.ok.inj,I.ok.has,I.ok.cab,I.ok.hd,I.ok.frames,I.ok.stk,I.ok.exf,I.ok.bs,I.ok.bsz,I.ok.noex,I.ok.exfs,I.ok.funs,I.ok.frf⟩,
  I.os,I.bare,I.base,I.loc,I.cell,I.free,I.freeC,λp hp=>I.pin p (jG _ hp),I.hok,I.len⟩
theorem Inv.sm (I:Inv X pins σ H s) (ea:Addr):Inv (X.sm ea) pins σ H s :=
 ⟨⟨I.ok.mod,I.ok.kind,I.ok.glob,I.ok.blt,I.ok.above,I.ok.inj,I.ok.has,I.ok.cab,λz=>Bool.noConfusion z,I.ok.frames,I.ok.stk,I.ok.exf,I.ok.bs,I.ok.bsz,I.ok.noex,I.ok.exfs,I.ok.funs,I.ok.frf⟩,
  I.os,I.bare,I.base,I.loc,I.cell,I.free,I.freeC,I.pin,I.hok,I.len⟩
end
def IX (CX:J9) (X:Cx) (E:St->XK):Prop:=∀(pins:List (Addr×Obj)) (σ:St) (H:Hp) (s:Shared) (e:Value) (s':Shared),Inv X pins σ H s->CX X.stack H s (E σ) e s'->X.xe e s'
def Kr (sp:Sp) (dvs:List V) (E:St->XK) (t:TA):TE:=λσ H Q=>t σ H λvs H1=>sp (vs++dvs) H1 Q (E σ)
section
variable {X:Cx} {CX:J9} {k:Nat} {f C:Addr} {fd:FuncData} {ps:List Str} {sp:Sp} {dvs:List V} {ds:List Value} {E:St->XK} {x n:Str} {p pos hpos np:Pos} {e:Expr} {es:List Expr} {t:TA}
theorem Lc (F:cD X.prog X.w X.K X.mg X.base CX k f fd ps sp) (hr:js k X.A) (hg:Gl X x) (hm:X.mg x=some (.ref f)) (hk:PySem.W.keepIn X.K (.ref f)=true) (hb:Binds X.K fd ps ds) (hd:cM dvs ds) (hx:IX CX X E)
  (ha:PA X (e :: es) t) (hdb:(x == ("__debug__":Str))=false:=by decide) (he:starEach (e :: es) X.env=(false,eval e X.env) :: starEach es X.env:=by rfl) (hpl:(backTo pos (starEach es X.env)).any (·.1)=false:=by rfl) :
  PE X (.Call (.Name x p) (e :: es) [] pos) (Kr sp dvs E t):=by
 intro pins s σ H Q I h;refine wpAny_Call_Name_kw (rV I hg hm ?_ hdb);refine kQ (h₀:=X.base) I.ok.mod.kin hk (fz (ha pos pins s σ H _ I h) λus s1 ⟨vs,H1,I1,r,q⟩=>⟨I1.kIn,?_⟩) he hpl;have r2:cM (vs++dvs) (us++ds):=r.append hd;have hl:(us++ds).length=ps.length:=by rw[<- r2.length];exact F.len _ _ _ _ q
 refine wpAny_call (codeAny_mono (F.run X.A X.stack s1 H1 ⟨us,[]⟩ (us++ds) (vs++dvs) Q (E σ) hr I1.env0 (hb s1 us I1.kIn hl) r2 q) λr s' hq=>?_);cases r with
 | error e=>exact hx pins σ H1 s1 e s' I1 hq
 | ok fl =>
  cases fl with
  | ret u=>exact I1.after hq
  | next=>exact False.elim hq
  | brk=>exact False.elim hq
  | cont=>exact False.elim hq
structure Oi (X:Cx) (pins:List (Addr×Obj)) (σ:St) (H0:Hp) (s0:Shared) (H':Hp) (ea t:Addr) (cls:Value) (dx:Option Addr) (B:Heap) (s1:Shared):Prop where
 I:Inv X pins σ H0 s0
 F:Fly X.prog X.w X.stack H0 s0 H' ea t cls dx B s1
section
variable {pins:List (Addr×Obj)} {σ:St} {H0 H':Hp} {s0 s1:Shared} {ea tt:Addr} {cls:Value} {dx:Option Addr} {B h:Heap}
theorem Oi.inv (L:Oi X pins σ H0 s0 H' ea tt cls dx B s1) (fl:Heap.FlyingW B X.stack ea cls (.ref tt) h) (up:s1.heap.UpToSlots h):Inv X pins σ H' { s1 with heap:=h }:=by
 obtain ⟨U,ok⟩:=Gn L.F.un L.F.hok L.F.fly.1 fl.1 up L.F.c1 L.F.c2 L.I.stkFree (λb hb o q=>by
  obtain ⟨_,o',e',d⟩:=L.I.stack.mem hb;rw[q] at e';cases e';exact d)
 have os:s1.os=s0.os:=L.F.os;have bare:AllBare s1.gens:=L.F.bare;obtain ⟨hh,g,d,t,os'⟩:=s1
 dsimp only at os bare
 subst os;exact Inv.call (s:=s0) (h':=h) (g':=g) (d':=d) (t':=t) (ch:=[]) L.I U ok bare (λb z=>absurd z (by simp))
end
def HB (X:Cx) (hs:List ExceptHandler) (hr:Ends->St->Value->Option Addr->Hp->Prop):Prop :=
 ∀(pins:List (Addr×Obj)) (σ:St) (H0:Hp) (s0:Shared) (H':Hp) (ea tt:Addr) (cls:Value) (dx:Option Addr) (B:Heap) (s1:Shared) (h:Heap) (D:Ends),Oi X pins σ H0 s0 H' ea tt cls dx B s1->Heap.FlyingW B X.stack ea cls (.ref tt) h->s1.heap.UpToSlots h->jB ea dx h →
  hr D σ cls dx H'->wpAny (model X.prog X.w) X.A (handleBy (.ref ea) X.env hs) (SP X pins D) X.xe { s1 with heap:=h }
def Pu (D:Ends):Ends:={ nx:=λ_ _=>False,rt:=D.rt }
def Sj:Ends->St->Value->Option Addr->Hp->Prop:=λ_ _ _ _ _=>False
theorem Qu:HB X [] Sj:=λ_ _ _ _ _ _ _ _ _ _ _ _ _ _ _ _ _ z=>False.elim z
def Q9 (hr:Ends->St->Value->Option Addr->Hp->Prop) (tb:(St->XK)->TS):TS:=λD σ H=>tb (hr D) D σ H
theorem Qa (hst:X.stack=X.env :: X.outer) (hfr:X.env.frame=some X.env.locals)
  (hb:∀pn xe E,IX (O6 X.prog X.w) (X.tr pn xe) E->DU (X.tr pn xe) body (tb E)) (hh:HB X (h₀ :: hs) hr):PS X (.Try body (h₀ :: hs) [] [] pos) (Q9 hr tb):=by
 intro pins s σ H D I h;refine wpAny_Try_except ?_;refine wpAny_mono (hb (X.pn++pins) (λe s1=>∃σ' H0 s0 H' ea t cls dx B,e=.ref ea/\Oi X pins σ' H0 s0 H' ea t cls dx B s1/\hr D σ' cls dx H') (hr D) ?_ [] s σ H D (I.tr _) h) (λf s1 hsp=>?_) (λe s1 hx=>?_)
 ·rintro ps σ' H1 s1 e s' J ⟨ea,t,cls,dx,H',B,rfl,F,hE⟩;exact ⟨σ',H1,s1,H',ea,t,cls,dx,B,rfl,⟨J.untr,F⟩,hE⟩
 ·cases f with
  | next=>obtain ⟨σ',H',J,q⟩:=hsp;exact wpAny_execs_nil ⟨σ',H',J.untr,q⟩
  | brk=>obtain ⟨σ',H',J,q⟩:=hsp;exact ⟨σ',H',J.untr,q⟩
  | cont=>obtain ⟨σ',H',J,q⟩:=hsp;exact ⟨σ',H',J.untr,q⟩
  | ret u=>obtain ⟨v,σ',H',J,r,q⟩:=hsp;exact ⟨v,σ',H',J.untr,r,q⟩
 ·obtain ⟨σ',H0,s0,H',ea,t,cls,dx,B,rfl,L,hq⟩:=hx;have hfrm:X.A.frames=some (X.env :: X.outer):=by rw[<- hst];exact L.I.ok.frames
  have fl:Heap.FlyingW B (X.env :: X.outer) ea cls (.ref t) s1.heap:=by rw[<- hst];exact L.F.fly
  refine wpAny_mono (ow (e:=ea) (d:=dx) (Ip _ _) (wpAny_looks_onW (E:=λ_ _=>False) (Q:=λ_ s2=>∃h4,s2={ s1 with heap:=h4 }/\Heap.HeldW B (X.env :: X.outer) ea cls (.ref t) X.env.locals h4/\s1.heap.UpToSlots h4) hfrm hfr fl λh4 held up4=>⟨h4,rfl,held,up4⟩) L.F.dct) ?_ (λ_ _ z=>z.1.elim);rintro _ _ ⟨⟨h4,rfl,held,up4⟩,dc4⟩;refine wpAny_mono (ow (e:=ea) (d:=dx) (uJ _ _) (wpAny_landsW (E:=λ_ _=>False) (Q:=λ_ s2=>∃h5,s2={ s1 with heap:=h5 }/\Heap.FlyingW B (X.env :: X.outer) ea cls (.ref t) h5/\h4.UpToSlots h5) held λh5 fl5 up5=>⟨h5,rfl,fl5,up5⟩) dc4) ?_ (λ_ _ z=>z.1.elim);rintro _ _ ⟨⟨h5,rfl,fl5,up5⟩,dc5⟩;exact hh pins σ' H0 s0 H' ea t cls dx B s1 h5 D L (by rw[hst];exact fl5) (up4.trans up5) dc5 hq
end
open PySem.W
structure ExC (K:Frag) (C:Addr):Prop where
 ga:findIn K (.ref C) "__getattribute__"=some (some (.builtin "BaseException.__getattribute__"))
 gt:findIn K (.ref C) "__getattr__"=some none
 mb:mroIn K C (.type "BaseException")=some true
 mo:mroIn K C (.type "object")=some true
 hd:hasDictIn K C=true
 ca:findIn K (.ref C) "__class__"=some (some (.builtin "object.__class__"))
 sg:specialIn K (.builtin "object.__class__") "__get__"=some (some (.builtin "getset_descriptor.__get__"))
 tk:takesIn K (.builtin "object.__class__")=some true
theorem K6 (h:t σ H λvs H1=>sp vs H1 Q (E σ)):Kr sp [] E t σ H Q:=by
 show t σ H λvs H1=>sp (vs++[]) H1 Q (E σ)
 simpa only [iW] using h
theorem Pz (h:tb (hr D) D σ H):Q9 hr tb D σ H:=h
section
variable {P:Program} {w:World} {K:FG9} {mg:Str->Option Value} {base:Heap}
theorem J8.okX {st:Stmt} (F:J8 K x qual st f fd) (S:aR N ps (aK st)) (len:∀vs H Q E,sp vs H Q E->vs.length=ps.length)
  (hbody:∀(cdv:Value) (A:Around) (outer:List Env) (s:Shared) (H:Hp) (vs:List V) (Q:VK) (E:XK),js k (A.deeper (envOfC qual (aK st) s.heap.objs.size f cdv))->sp vs H Q E →
   ∃t,DU (Dz (O6 P w) P w K mg base N qual (aK st) f cdv A outer s H E) (hJ st) t/\t { nx:=λ_ H'=>Q .non H',rt:=Q } (start N vs) H):cD P w K mg base (O6 P w) (k+1) f fd ps sp:=by
 obtain ⟨oc,od,kV,doc,pm,an,cdv,ct,osl,rfl,lk,hcd⟩:=F.ex;exact OW lk hcd S len λA outer s H vs Q E hr hsp=>hbody cdv A outer s H vs Q E hr hsp
end
def td (i0 i:Nat):Nat:=if i < i0 then i else i+1
theorem Bi {g:Nat->Rat} {i0:Nat}:∀{m:Nat},i0<=m->aS (m+1) g=aS m (λi=>g (td i0 i))+g i0
 | 0,h=>by
  have:i0=0:=by lia
  subst this;rfl
 | m+1,h=>by
  show aS (m+1) g+g (m+1)=aS m (λi=>g (td i0 i))+g (td i0 m)+g i0
  rcases aT m i0 with z | z
  ·have e:i0=m+1:=by lia
   subst e;have:aS m (λi=>g (td (m+1) i))=aS m g:=aF λj hj=>by unfold td;rw[if_pos (by lia)]
   rw[this,show td (m+1) m=m by unfold td;rw[if_pos (by lia)]];rfl
  ·rw[Bi (m:=m) z,show td i0 m=m+1 by unfold td;rw[if_neg (by lia)]];grind
theorem Dy:∀(k n:Nat) (w:Nat->Nat->Rat),k < n->∃y:Nat->Rat,(∃i,i < n/\y i≠0)/\∀t,t < k->aS n (λi=>y i*w i t)=0
 | 0,n,w,h=>⟨λ_=>1,⟨0,h,by decide⟩,λt ht=>absurd ht (cQ _)⟩
 | k+1,0,w,h=>absurd h (cQ _)
 | k+1,m+1,w,h=>by
  rcases Classical.em (∃i0,i0<=m/\w i0 k≠0) with ⟨i0,hi,h0⟩ | z
  ·obtain ⟨y,⟨i1,hi1,hy1⟩,hy⟩:=Dy k m (λi t=>w (td i0 i) t - w (td i0 i) k / w i0 k*w i0 t) (by lia)
   have us:∀i,(if td i0 i < i0 then td i0 i else td i0 i - 1)=i:=λi=>by
    unfold td
    split
    ·rfl
    ·rw[if_neg (by lia)];lia
   have ne:∀i,td i0 i≠i0:=λi=>by unfold td;split <;> lia
   let Y:Nat->Rat:=λj=>if j=i0 then -(aS m λi=>y i*(w (td i0 i) k / w i0 k)) else y (if j < i0 then j else j - 1)
   have Ys:∀i,Y (td i0 i)=y i:=λi=>by show (if _ then _ else _)=_;rw[if_neg (ne i),us i]
   have Y0:Y i0=-(aS m λi=>y i*(w (td i0 i) k / w i0 k)):=by show (if _ then _ else _)=_;rw[if_pos rfl]
   refine ⟨Y,⟨td i0 i1,by unfold td;split <;> lia,by rw[Ys];exact hy1⟩,λt ht=>?_⟩;rw[Bi hi,Y0]
   have e:aS m (λi=>Y (td i0 i)*w (td i0 i) t)=aS m (λi=>y i*(w (td i0 i) t - w (td i0 i) k / w i0 k*w i0 t))+aS m (λi=>w i0 t*(y i*(w (td i0 i) k / w i0 k))):=by
    rw[<- gg];refine aF λi _=>?_
    rw[Ys];grind
   rw[e,cg]
   have z:aS m (λi=>y i*(w (td i0 i) t - w (td i0 i) k / w i0 k*w i0 t))=0:=by
    rcases aT t k with q | q
    ·exact hy t q
    ·have:t=k:=by lia
     subst this;refine b7 λi _=>?_
     have:w (td i0 i) t / w i0 t*w i0 t=w (td i0 i) t:=Fq h0;rw[this];grind
   rw[z];grind
  ·obtain ⟨y,a,b⟩:=Dy k (m+1) w (by lia);refine ⟨y,a,λt ht=>?_⟩;rcases aT t k with q | q
   ·exact b t q
   ·have:t=k:=by lia
    subst this;refine b7 λi hi=>?_
    have:w i t=0:=Classical.byContradiction λq=>z ⟨i,by lia,q⟩
    rw[this];grind
theorem Iq {a R:Nat->Nat->Rat} (h:k < n) (hs:∀i,i < n->de k R (a i)):∃y:Nat->Rat,(∃i,i < n/\y i≠0)/\∀c,aS n (λi=>y i*a i c)=0:=by
 have hw:∀i,∃w:Nat->Rat,i < n->∀c,a i c=aS k λt=>w t*R t c:=λi=>by
  rcases aT i n with q | q
  ·obtain ⟨w,e⟩:=hs i q;exact ⟨w,λ_=>e⟩
  ·exact ⟨λ_=>0,λz=>absurd z (by lia)⟩
 obtain ⟨w,hw⟩:=Classical.axiomOfChoice hw;obtain ⟨y,hy,h0⟩:=Dy k n w h;refine ⟨y,hy,λc=>?_⟩
 have:aS n (λi=>y i*a i c)=aS n (λi=>aS k λt=>y i*w i t*R t c):=aF λi hi=>by
  rw[hw i hi c,<- cg];exact aF λt _=>by grind
 rw[this,eY];refine b7 λt ht=>?_
 have:aS n (λi=>y i*w i t*R t c)=R t c*aS n (λi=>y i*w i t):=by
  rw[<- cg];exact aF λi _=>by grind
 rw[this,h0 t ht];grind
section
variable {rows R:LR9} {n:Nat} {ps:List Nat}
theorem tZ (h:i < n):bC (cm rows n) i j=bC rows j i:=by
 unfold bC;rw[aa (l:=cm rows n),Cv h];simp only[ib,aa,az];cases rows[j]? <;> simp
theorem yn (hw:∀xs∈rows,xs.length=n) (hc:n<=c):bC rows j c=0:=by
 unfold bC;rcases aT j rows.length with q | q
 ·rw[aa (l:=rows),af q];have:=hw _ (aB q);simp only[ib];rw[aa,aJ (by lia)];rfl
 ·rw[aa (l:=rows),aJ q];rfl
theorem Ll (RR:bX (cm rows n) rows.length R ps) (hw:∀xs∈rows,xs.length=n) (ln:(cm rows n).length=n) (j c:Nat):bC rows j c=aS ps.length λt=>bC R t j*bC rows (ps.getD t 0) c:=by
 rcases aT c n with q | q
 ·have:=RR.2.2.coef (RR.2.2.span c (by rw[ln];exact q)) j;rw[tZ q] at this;rw[this];exact aF λt _=>by rw[tZ q];grind
 ·rw[yn hw q];exact (b7 λt _=>by rw[yn hw q];grind).symm
theorem Lm (RR:bX (cm rows n) rows.length R ps) (ln:(cm rows n).length=n) (ht:t < ps.length) (z:de (ps.getD t 0) (bC rows) (bC rows (ps.getD t 0))):False:=by
 obtain ⟨w,hw⟩:=z;obtain ⟨u,hu⟩:=RR.2.2.back t ht;rw[ln] at hu
 have e1:bC R t (ps.getD t 0)=aS (ps.getD t 0) λi=>w i*bC R t i:=by
  rw[hu];have:∀i,w i*bC R t i=aS n λs=>w i*(u s*bC (cm rows n) s i):=λi=>by rw[hu i,<- cg]
  rw[aF λi _=>this i,eY];refine aF λs hs=>?_
  rw[tZ hs,hw s,<- cg];exact aF λi _=>by rw[tZ hs];grind
 rw[RR.2.2.unit t ht t ht,if_pos rfl,b7 λi hi=>by rw[RR.2.2.lead t ht i hi];grind] at e1;exact absurd e1 (by decide)
end
section
variable {mv pt sts pus rows R Rk:LR9} {n m:Nat} {ps pk:List Nat} {a b:Nat->Nat->Rat} {x y:Nat->Rat}
theorem mi {f:Nat->Rat}:∀k,aS (k+1) f=f 0+aS k λi=>f (i+1)
 | 0=>by show (0:Rat)+f 0=f 0+0;grind
 | k+1=>by
  show aS (k+1) f+f (k+1)=f 0+(aS k (λi=>f (i+1))+f (k+1))
  rw[mi k];grind
theorem de.base (h:∀t,t < m->∀c,a t c=b t c) (hx:de m a x):de m b x:=by
 obtain ⟨w,hw⟩:=hx;exact ⟨w,λc=>by rw[hw c];exact aF λt ht=>by rw[h t ht c]⟩
theorem de.wide (h:m<=m') (hx:de m a x):de m' a x:=de.trans (b:=a) (m':=m) (λt ht=>de.row (by lia)) hx
structure Fo (mv pt sts pus:LR9):Prop where
 len:sts.length=pus.length+1
 wide:∀xs∈sts,xs.length=mv.length
 wpu:∀xs∈pus,xs.length=pt.length
 zero:∀c,bC sts 0 c=0
 step:∀j,j < pus.length->∀c,bC sts (j+1) c=aS mv.length (λi=>bC mv c i*bC sts j i)+aS pt.length λl=>bC pus j l*bC pt l c
 new:∀j,0 < j->j < sts.length->¬de j (bC sts) (bC sts j)
theorem MM (h:∀j,j < m->de m a λc=>aS n λi=>bC mv c i*a j i) (hx:de m a x):de m a λc=>aS n λi=>bC mv c i*x i:=by
 obtain ⟨w,hw⟩:=hx;have key:=ui (w:=w) (f:=λs c=>aS n λi=>bC mv c i*a s i) m h;refine key.congr λc=>?_
 have e:(aS n λj=>bC mv c j*x j)=aS n λj=>aS m λs=>w s*(bC mv c j*a s j):=aF λj _=>by
  rw[hw j,<- cg];exact aF λs _=>by grind
 rw[e,eY];exact aF λs hs=>by rw[cg]
theorem HZ (wm:∀xs∈mv,xs.length=mv.length) (wp:∀xs∈pt,xs.length=mv.length) (hp:∀l,l < pt.length->de m a (bC pt l)) (h:∀j,j < m->de m a λc=>aS mv.length λi=>bC mv c i*a j i):∀t i,i < (jw mv pt t).length->de m a (bC (jw mv pt t) i)
 | 0,i,hi=>absurd hi (cQ _)
 | t+1,i,hi=>by
  have wk:=iu (pt:=pt) (mv:=mv) rfl (λxs hx=>wp xs hx) t;refine rS (X:=pt) (Y:=(jw mv pt t).map (kb mv)) hp (λs hs=>?_) i hi;rw[ah] at hs;exact (MM h (HZ wm wp hp h t s hs)).congr λc=>(BC rfl wm wk hs c).symm
theorem LN (RR:bX (jw mv pt mv.length) mv.length Rk pk) (full:pk.length=mv.length) (hk:m < mv.length) (h:∀i,i < (jw mv pt mv.length).length->de m a (bC (jw mv pt mv.length) i)):False:=by
 have hs:∀i,i < mv.length->de m a (bC Rk i):=λi hi=>de.trans h (RR.2.2.back i (by rw[full];exact hi))
 obtain ⟨y,⟨i,hi,hy⟩,h0⟩:=Iq hk hs;refine hy ?_;have:=h0 i;rw[fZ hi λj hj ne=>by rw[CZ RR full hj i,if_neg λz=>ne z.symm];grind,CZ RR full hi i,if_pos rfl] at this;grind
theorem NM (wm:∀xs∈mv,xs.length=mv.length) (wp:∀xs∈pt,xs.length=mv.length) (KR:bX (jw mv pt mv.length) mv.length Rk pk) (full:pk.length=mv.length) (C:Fo mv pt sts pus) (hk:pus.length < mv.length) (hr:rows=sts++(kb mv (sts.getD pus.length []) :: pt)) (RR:bX (cm rows mv.length) rows.length R ps) (ln:(cm rows mv.length).length=mv.length):∃t,t < ps.length/\sts.length<=ps.getD t 0:=by
 refine Classical.byContradiction λz=>?_
 have hz:∀t,t < ps.length->ps.getD t 0 < sts.length:=λt ht=>Nat.lt_of_not_le λq=>z ⟨t,ht,q⟩
 have lw:(sts.getD pus.length []).length=mv.length:=by
  rw[aa,af (by rw[C.len];lia)];exact C.wide _ (aB _)
 have hw:∀xs∈rows,xs.length=mv.length:=λxs hx=>by
  rw[hr] at hx;rcases aD.mp hx with hx | hx
  ·exact C.wide xs hx
  ·rcases ay.mp hx with rfl | hx
   ·exact oW
   ·exact wp xs hx
 have A:∀j,de sts.length (bC sts) (bC rows j):=λj=>by
  refine (ui (w:=λt=>bC R t j) (f:=λt=>bC rows (ps.getD t 0)) ps.length λt ht=>?_).congr λc=>(Ll RR hw ln j c).symm
  show de _ _ (bC rows (ps.getD t 0))
  rw[hr,Ai (hz t ht)];exact de.row (hz t ht)
 have e1:∀c,bC rows sts.length c=aS mv.length λi=>bC mv c i*bC sts pus.length i:=λc=>by
  rw[hr,show sts.length=sts.length+0 from rfl,GC];exact BC (R:=[sts.getD pus.length []]) (i:=0) rfl wm (λxs hx=>by rw[bB.mp hx];exact lw) Nat.one_pos c
 have P:∀l,l < pt.length->de sts.length (bC sts) (bC pt l):=λl hl=>by
  have:=A (sts.length+(l+1));rw[hr,GC] at this;exact this
 have Mv:∀j,j < sts.length->de sts.length (bC sts) λc=>aS mv.length λi=>bC mv c i*bC sts j i:=λj hj=>by
  rcases aT j pus.length with q | q
  ·have s1:de sts.length (bC sts) (bC sts (j+1)):=de.row (by rw[C.len];lia);have s2:=ui (w:=λl=>bC pus j l) pt.length P;refine (de.lin 1 (-1) s1 s2).congr λc=>?_
   rw[C.step j q c];grind
  ·have:j=pus.length:=by have:=C.len;lia
   subst this;exact (A sts.length).congr e1
 have K:=HZ wm wp P Mv mv.length;refine LN (m:=pus.length) (a:=λt=>bC sts (t+1)) KR full hk λi hi=>?_
 obtain ⟨w,hw'⟩:=K i hi;refine ⟨λt=>w (t+1),λc=>?_⟩;rw[hw' c,C.len,mi,C.zero];grind
theorem v8 {x:List Rat}:bC (rows++[x]) rows.length=λc=>x.getD c 0:=by
 have:=GC (X:=rows) (Y:=[x]) (i:=0);rw[Nat.add_zero] at this;rw[this];rfl
theorem Mn (wm:∀xs∈mv,xs.length=mv.length) (wp:∀xs∈pt,xs.length=mv.length) (C:Fo mv pt sts pus) (hr:rows=sts++(kb mv (sts.getD pus.length []) :: pt)) (RR:bX (cm rows mv.length) rows.length R ps) (ln:(cm rows mv.length).length=mv.length)
 (ht:t0 < ps.length) (hf:sts.length<=ps.getD t0 0) (hmin:∀t,t < ps.length->sts.length<=ps.getD t 0->ps.getD t0 0<=ps.getD t 0) (lp:pu.length=pt.length) (ls:s'.length=mv.length)
  (hpu:(ps.getD t0 0=sts.length/\∀l,pu.getD l 0=0)\/∃l,l < pt.length/\ps.getD t0 0=sts.length+(1+l)/\∀l',pu.getD l' 0=if l'=l then 1 else 0)
  (hs:∀c,s'.getD c 0=aS mv.length (λi=>bC mv c i*bC sts pus.length i)+aS pt.length λl=>pu.getD l 0*bC pt l c):Fo mv pt (sts++[s']) (pus++[pu]):=by
 have lw:(sts.getD pus.length []).length=mv.length:=by
  rw[aa,af (by rw[C.len];lia)];exact C.wide _ (aB _)
 have hw:∀xs∈rows,xs.length=mv.length:=λxs hx=>by
  rw[hr] at hx;rcases aD.mp hx with hx | hx
  ·exact C.wide xs hx
  ·rcases ay.mp hx with rfl | hx
   ·exact oW
   ·exact wp xs hx
 have e1:∀c,bC rows sts.length c=aS mv.length λi=>bC mv c i*bC sts pus.length i:=λc=>by
  rw[hr,show sts.length=sts.length+0 from rfl,GC];exact BC (R:=[sts.getD pus.length []]) (i:=0) rfl wm (λxs hx=>by rw[bB.mp hx];exact lw) Nat.one_pos c
 have bs:∀t,t < sts.length->∀c,bC sts t c=bC rows t c:=λt h c=>by rw[hr,Ai h]
 have zp:0 < sts.length:=by rw[C.len];lia
 have lS:(sts++[s']).length=sts.length+1:=by simp
 refine ⟨by rw[lS,C.len,au];rfl,λxs hx=>?_,λxs hx=>?_,λc=>by rw[Ai zp];exact C.zero c,λj hj c=>?_,λj j0 hj z=>?_⟩
 ·rcases aD.mp hx with hx | hx
  ·exact C.wide xs hx
  ·rw[bB.mp hx];exact ls
 ·rcases aD.mp hx with hx | hx
  ·exact C.wpu xs hx
  ·rw[bB.mp hx];exact lp
 ·rw[au,aV] at hj;rcases aT j pus.length with q | q
  ·rw[Ai (by rw[C.len];lia),Ai (by rw[C.len];lia),Ai q];exact C.step j q c
  ·have:j=pus.length:=by lia
   subst this;rw[show pus.length+1=sts.length from C.len.symm,v8,v8,Ai (by rw[C.len];lia)];exact hs c
 ·rw[lS] at hj;have tr:∀{j:Nat} {x:Nat->Rat},j<=sts.length->de j (bC (sts++[s'])) x->de j (bC sts) x:=λh=>de.base λt ht c=>by rw[Ai (by lia)]
  rcases aT j sts.length with q | q
  ·have z:=tr (by lia) z;rw[Ai q] at z;exact C.new j j0 q z
  ·have:j=sts.length:=by lia
   subst this;have z:=tr (aj _) z;rw[v8] at z;have zr:de sts.length (bC rows) λc=>s'.getD c 0:=de.base bs z
   rcases hpu with ⟨f0,p0⟩ | ⟨l,hl,f0,p0⟩
   ·refine Lm RR ln ht ?_;rw[f0];refine zr.congr λc=>?_
    rw[hs c,e1 c,b7 (f:=λl=>pu.getD l 0*bC pt l c) λl _=>by rw[p0 l];grind];grind
   ·have s1:de sts.length (bC rows) (bC rows sts.length):=by
     refine (ui (w:=λt=>bC R t sts.length) (f:=λt c=>if ps.getD t 0 < sts.length then bC rows (ps.getD t 0) c else 0) ps.length λt ht'=>?_).congr λc=>?_
     ·by_cases q:ps.getD t 0 < sts.length
      ·exact (de.row (a:=bC rows) q).congr λc=>by rw[if_pos q]
      ·exact de.zero λc=>by rw[if_neg q]
     ·rw[Ll RR hw ln];refine aF λt ht'=>?_
      by_cases q:ps.getD t 0 < sts.length
      ·rw[if_pos q]
      ·rw[if_neg q];have:=hmin t ht' (by lia);rw[RR.2.2.lead t ht' sts.length (by show sts.length < ps.getD t 0;lia)];grind
    refine Lm RR ln ht ?_;have:=de.wide (show sts.length<=ps.getD t0 0 from hf) (de.lin 1 (-1) zr s1);refine this.congr λc=>?_
    rw[hs c,e1 c,f0,hr,GC,fZ hl λj _ ne=>by rw[p0 j,if_neg ne];grind,p0 l,if_pos rfl,fE 1 l];show _=bC pt l c
    grind
theorem IJ (C:Fo mv pt sts pus) (h:∀c,aS pus.length (λi=>y i*bC sts (i+1) c)=0):∀i,i < pus.length->y i=0:=by
 have key:∀k,k<=pus.length->(∀c,aS k (λi=>y i*bC sts (i+1) c)=0)->∀i,i < k->y i=0:=by
  intro k
  induction k with
  | zero=>exact λ_ _ i hi=>absurd hi (cQ _)
  | succ k ih =>
   intro hk h i hi
   have yk:y k=0:=Classical.byContradiction λne=>by
    refine C.new (k+1) (Nat.succ_pos _) (by rw[C.len];lia) ⟨λt=>if t=0 then 0 else -(y (t - 1)) / y k,λc=>?_⟩;have:=h c;have e:aS (k+1) (λi=>y i*bC sts (i+1) c)=aS k (λi=>y i*bC sts (i+1) c)+y k*bC sts (k+1) c:=rfl;rw[e] at this;rw[mi,C.zero]
    have e2:(aS k λi=>(if i+1=0 then 0 else -(y (i+1 - 1)) / y k)*bC sts (i+1) c)=-1 / y k*aS k (λi=>y i*bC sts (i+1) c):=by
     rw[<- cg];refine aF λi _=>?_
     rw[if_neg (by lia),Fu];grind
    rw[e2];grind
   rcases aT i k with q | q
   ·refine ih (by lia) (λc=>?_) i q;have:=h c;have e:aS (k+1) (λi=>y i*bC sts (i+1) c)=aS k (λi=>y i*bC sts (i+1) c)+y k*bC sts (k+1) c:=rfl;rw[e,yk] at this;grind
   ·rw[show i=k by lia];exact yk
 exact key _ (aj _) h
theorem Mm (C:Fo mv pt sts pus) (ll:lines.length=pus.length) (hl:∀i,i < pus.length->∀c,c < mv.length->bC lines i c=bC sts (i+1) c) (RR:bX lines wide R ps):pus.length<=ps.length:=by
 refine Nat.le_of_not_lt λz=>?_
 obtain ⟨y,⟨i,hi,hy⟩,h0⟩:=Iq z (a:=bC lines) λi hi=>RR.2.2.span i (by rw[ll];exact hi)
 refine hy (IJ C (y:=y) (λc=>?_) i hi);rcases aT c mv.length with q | q
 ·rw[<- h0 c];exact aF λi hi=>by rw[hl i hi c q]
 ·exact b7 λi _=>by rw[yn C.wide q];grind
end
section
variable {prog:Program} {w:World} {A:Around} {E:Value->Shared->Prop} {s:Shared} {a C:Addr} {o:Obj} {K:Frag} {name:Str} {v:Value}
theorem Eu (self:Value):refuseLoop self "__setattr__" vD=pure ():=by kernel_rfl
theorem NB (X:K.In s.heap) (I:InstAt s.heap a o C od) (hc:clsIn K C=some cd) (hl:cd.mro=l) (hr:refuseLoop (.ref a) "__setattr__" l=pure ()) (hm:mroIn K C (.type "object")=some true)
  (ha:findIn K (.ref C) name=some none)
  (h:wpAny (model prog w) A.in1 (Builtin.ObjectAttr.storeInOwnDict (.ref a) (.ref C) (.str name tk) name v false) (λ(fin:Fin) s'=>match fin with | .done f=>R (.ok f) s' | .again c'=>c'.quiet=true/\codeAny (model prog w) A c' R s') (λe s'=>R (.error e) s') s) :
  codeAny (model prog w) A (.call (.builtin "object.__setattr__") ⟨[.ref a,.str name tk,v],[]⟩) R s:=by
 have SF:=PySem.F.store_object;have sub:Looks (model prog w) s.heap (isInstance (.ref a) (.type "object")) true:=I.type.andThen (looks_mroIn X hm);refine codeAny_call_builtin SF.slot.plain SF.entry (@check_slot (model prog w) _ _ s "object.__setattr__" "object" "__setattr__" (.ref a) [.str name tk,v] [] _ SF.kind SF.split sub (SF.args (.ref a) (.str name tk) v) ?_);have hmr:Looks (model prog w) s.heap (mroOf (.ref C)) cd.mro:=(looks_clsIn X hc).andThen .now;rw[osa_eq,refuse_eq];refine wpAny_bind (wpAny_bind (I.type.here (wpAny_bind (hmr.here ?_))));rw[hl,hr];refine wpAny_pure (wpAny_bind (I.type.here (wpAny_bind ((looks_findIn X ha).here ?_))));exact wpAny_bind (wpAny_pure h)
theorem MQ (X:K.In s.heap) (I:InstAt s.heap a o C none) (hc:clsIn K C=some cd) (hl:cd.mro=l) (hr:refuseLoop (.ref a) "__setattr__" l=pure ()) (hm:mroIn K C (.type "object")=some true)
  (hs:findIn K (.ref C) "__setattr__"=some (some (.builtin "object.__setattr__"))) (hd:hasDictIn K C=true) (ha:findIn K (.ref C) name=some none) (ho:o.data=.fields vs)
  (h:∀h',(∀b ob,b≠a->s.heap.get? b=some ob->h'.get? b=some ob)->h'.get? a=some { o with dict:=some s.heap.objs.size }->h'.Ns1 s.heap.objs.size (λy=>if y=name then some v else none)->Q () { s with heap:=h',toks:=s.toks+2 }) :
  wpAny (model prog w) A (setAttr (.ref a) name v) Q E s:=by
 refine set_plain X I hs (NB (s:={ s with toks:=s.toks+1 }) X I hc hl hr hm ha ?_);obtain ⟨cd',hc',hd'⟩:=any_some hd;rw[hc] at hc';cases hc';obtain ⟨hx,hcl,hn,hdd⟩:=I;obtain ⟨oc,odi,oda,osl⟩:=o
 dsimp only at hcl hdd ho
 subst hcl ho;obtain rfl:odi=none:=by cases odi with | none=>rfl | some _=>exact hdd.elim
 have hlt:a < s.heap.objs.size:=Heap.lt_size hx;have kp:∀b ob,s.heap.get? b=some ob->(s.heap.push emptyDict).get? b=some ob:=λb ob q=>Heap.get?_push_of_some _ q
 refine wpAny_bind (wpAny_pure ?_);have ne:(Value.ref C == Value.type "module")=false:=by rfl
 dsimp only
 rw[ne,if_neg aO];refine wpAny_bind ?_;show wpAny _ _ (instanceDict a true) _ _ _
 unfold instanceDict;refine wpAny_bind (wpAny_loadPart hx (wpAny_bind (Looks.here (s:={ s with toks:=s.toks+1 }) (looks_clsIn X hc) ?_)))
 dsimp only
 rw[hd'];have hx1:(s.heap.push emptyDict).get? a=some { cls:=Value.ref C,data:=Data.fields vs,slots:=osl }:=kp _ _ hx;refine wpAny_bind (wpAny_alloc (wpAny_bind (wpAny_update hx1 ?_)));have hx2:((s.heap.push emptyDict).update a λo=>{ o with dict:=some s.heap.objs.size }).get? a=some { cls:=Value.ref C,dict:=some s.heap.objs.size,data:=Data.fields vs,slots:=osl }:=Heap.get?_update_self _ hx1 rfl
 have hD:((s.heap.push emptyDict).update a λo=>{ o with dict:=some s.heap.objs.size }).get? s.heap.objs.size=some emptyDict:=by
  rw[Heap.get?_update_other _ _ (bN hlt)];exact Heap.get?_push_size _ rfl
 have hN:((s.heap.push emptyDict).update a λo=>{ o with dict:=some s.heap.objs.size }).Ns1 s.heap.objs.size (λ_=>none):=⟨_,_,_,hD,rfl,(λy hy=>by simp at hy),(by unfold UniqKeys;simp),λ_=>rfl⟩;refine wpAny_pure (wpAny_bind (wpAny_pure (wpAny_bind ?_)));refine wpAny_nsSet1 (s:={ s with heap:=(s.heap.push emptyDict).update a λo=>{ o with dict:=some s.heap.objs.size },toks:=s.toks+1 }) hN λh' hn2 hs2=>?_
 obtain ⟨oD,esD,epD,hoD,hdD,hcD⟩:=hn2.count (PySem.Within.cons name v (ns:=[]) (λ_ z=>absurd rfl z));refine wpAny_bind (wpAny_lookBehind hoD (by rw[hdD];exact pastItsLine_dict (ag hcD (by show 1<=sizeLine+1;lia))) (wpAny_pure (h h' (λb ob n q=>?_) ((hs2.2 a (bN hlt)).trans hx2) hn2)));rw[hs2.2 b (bN (Heap.lt_size q)),Heap.get?_update_other _ _ (Ne.symm n)];exact kp b ob q
end
section
variable {prog:Program} {w:World} {A:Around} {h:Heap} {g:Array GenState} {d:Drawn} {t:Nat} {os:OsState} {R:Result->Shared->Prop}
variable {nm q:Str} {C N f:Addr} {bs bm:List Value} {hdct:Bool} {sn:List Str} {sub:List Value} {ab:Bool} {col:Option Bool} {dd:Option Addr} {k0 k1 k2 k3 k5:Option Value}
abbrev gB (C t:Addr):Obj:={ cls:=.ref C,data:=.fields #[.ref t,.none,.none,.none,.bool false,.none] }
theorem JY (T:OwnTail h vD bm) (hC:h.get? C=some (excClassObj nm q C N bs bm hdct sn sub ab col dd k0 k1 k2 k3 k5 "ValueError.__new__"))
  (hi:Looks (model prog w) h (typeLookup (.ref C) "__init__") (some (.ref f))) (hb:∀self,Looks (model prog w) h (bindSpecial (.ref f) self) (.ref f,[self])) (hrest:rest.length<=sizeLine)
  (hq:codeAny (model prog w) (A.under (.builtin "type.__call__" ⟨.ref C :: rest,[]⟩)) (.call (.ref f) ⟨.ref (h.objs.size+1) :: rest,[]⟩) (InitBack (h.objs.size+1) R) ⟨(h.push { cls:=.type "tuple",data:=.seq rest.toArray }).push (gB C h.objs.size),g,d,t,os⟩) :
  codeAny (model prog w) A (.call (.ref C) ⟨rest,[]⟩) R ⟨h,g,d,t,os⟩:=by
 have FV:=PySem.F.excBase_ValueError;have f1:=tc_lookup;have f2:=tc_bind (.ref C);have hT:(⟨h,g,d,t,os⟩:Shared).TypeIs (.ref C) "type":=⟨_,hC,rfl⟩;refine codeAny_of_tree ?_;show wpAny _ _ (callAny (.ref C) _) _ _ _
 (repeat (any_goals (first | assumption | with_reducible refine wpAny_loadPart_at hC ?_ | wp_step)))
 refine ⟨rfl,codeAny_call_builtin_at (Code.quiet_builtin _ (by decide +kernel)) entry_typeCall (wpAny_check_type_call_sub hC ?_)⟩
 (repeat (first | with_reducible refine wpAny_loadPart_at hC ?_ | with_reducible refine wpAny_madeBy_exc hC ?_ | wp_step))
 refine codeAny_call_builtin_code (Code.quiet_builtin _ FV.quiet) (wpAny_check_new_subT FV T hC (codeAny_exc_new_subT FV T hC ?_ hrest));have kp:∀b ob,h.get? b=some ob->((h.push { cls:=.type "tuple",data:=.seq rest.toArray }).push (gB C h.objs.size)).get? b=some ob:=λb ob z=>Heap.get?_push_of_some _ (Heap.get?_push_of_some _ z)
 have hC1:=kp _ _ hC;have hg1:((h.push { cls:=.type "tuple",data:=.seq rest.toArray }).push (gB C h.objs.size)).get? (h.objs.size+1)=some (gB C h.objs.size):=by heap_get
 have hcC:(Value.ref C :: bm).contains (.ref C)=true:=by simp
 show wpAny _ _ _ _ _ _
 have t1:Looks (model prog w) ((h.push { cls:=.type "tuple",data:=.seq rest.toArray }).push (gB C h.objs.size)) (typeOf (.ref (h.objs.size+1))) (.ref C):=(Looks.ld hg1).andThen .now
 have sb:Looks (model prog w) ((h.push { cls:=.type "tuple",data:=.seq rest.toArray }).push (gB C h.objs.size)) (isSubtype (.ref C) (.ref C)) true:=λA' Q' E' s' k z=>by
  obtain ⟨h',g',d',t',os'⟩:=s';exact wpAny_isSubtype_exc (k _ _ hC1) (by rw[hcC];exact z)
 have LI:Looks (model prog w) ((h.push { cls:=.type "tuple",data:=.seq rest.toArray }).push (gB C h.objs.size)) (isInstance (.ref (h.objs.size+1)) (.ref C)) true:=t1.andThen sb;refine wpAny_bind (Looks.at LI ?_);rw[if_neg (by simp)];unfold callSpecial? specialOf;refine wpAny_bind (wpAny_holding (wpAny_bind (wpAny_bind (Looks.at t1 (Looks.at (hi.keeps kp) ?_)))))
 dsimp only
 refine wpAny_holding (wpAny_bind (Looks.at ((hb _).keeps kp) ?_))
 dsimp only
 refine wpAny_bind (wpAny_call (codeAny_mono hq λr s' z=>?_));rcases r with e | (v | _ | _ | _) <;> first | exact z | exact z.elim | skip
 obtain ⟨rfl,z⟩:=z;exact wpAny_pure (wpAny_pure z)
end
def Gs (a:Addr) (cls:Value) (dx:Option Addr):HO:=.ext λh=>∃o vs t,h.get? a=some o/\o.cls=cls/\o.data=.fields vs/\o.dict=dx/\vs[0]?=some (.ref t)/\vs[1]?=some .none
theorem LV (e:h.get? a=some o) (c:o.cls=cls) (d:o.data=.fields vs) (x:o.dict=dx) (v0:vs[0]?=some (.ref t)) (v1:vs[1]?=some .none) :
  fO P w H h a (Gs a cls dx):=⟨⟨o,vs,t,e,c,d,x,v0,v1⟩,⟨o,e⟩,λh1 h2 ⟨o,vs,t,q,r⟩ k=>⟨o,vs,t,k o q,r⟩⟩
structure Q4 (K:Frag) (C S:Addr):Prop where
 lk:∃dd cd k0 k1 k2 k3 k5,K.lookup C=some ⟨.type "type",dd,.cls cd,#[k0,k1,k2,k3,some (.builtin "ValueError.__new__"),k5]⟩/\cd.mro=.ref C :: .ref S :: vD/\cd.hasDel=false
 exS:excIn K S vD "ValueError.__new__"=true
 sa:findIn K (.ref C) "__setattr__"=some (some (.builtin "object.__setattr__"))
 xc:ExC K C
theorem Q4.at {K:Frag} (e:Q4 K C S) (X:K.In h):∃N nm q bs hdct sn sub ab col dd k0 k1 k2 k3 k5 cd,h.get? C=some (excClassObj nm q C N bs (.ref S :: vD) hdct sn sub ab col dd k0 k1 k2 k3 k5 "ValueError.__new__")/\OwnTail h vD (.ref S :: vD)/\clsIn K C=some cd/\cd.mro=.ref C :: .ref S :: vD:=by
 obtain ⟨dd,cd,k0,k1,k2,k3,k5,lk,hm,hdl⟩:=e.lk;obtain ⟨nm,bs,mro,ns,qn,hd,sn,sub,ab,col,del⟩:=cd
 dsimp only at hm hdl
 subst hm hdl;obtain ⟨tl,N,nm',q',bs',hdct',sn',sub',ab',col',dd',j0,j1,j2,j3,j5,mN,hS,hN,hni,T⟩:=N2 X e.exS;exact ⟨ns,nm,qn,bs,hd,sn,sub,ab,col,dd,k0,k1,k2,k3,k5,_,X _ _ lk,.own hS hN hni .base,by unfold clsIn;rw[lk],rfl⟩
section
variable {X:Cx} {pins:List (Addr×Obj)} {σ:St} {H:Hp} {s:Shared}
def OG (K:Frag) (ta tv:TE) (f:Str):TS:=λD σ H=>tv σ H λy H1=>ta σ H1 λx H2=>∃a C S,x=.ref a/\H2 a=some (Gs a (.ref C) none)/\Q4 K C S/\findIn K (.ref C) f=some none /\
 ∀dx,H2 dx=none->dx≠a->D.nx σ (upd (upd H2 dx (.xd [(f,y)])) a (Gs a (.ref C) (some dx)))
theorem Nu (ha:PE X o ta) (hv:PE X value tv) (hs:swapsWith value (some (.Attribute o f pos')) pos.line X.env=pure false):PS X (.Assign [.Attribute o f pos'] value pos) (OG X.K ta tv f):=by
 intro pins s σ H D I h;refine plainObj_wpAny_Assign_Attribute (fz (hv pins s σ H _ I h) λu s1 ⟨y,H1,I1,ry,q⟩=>fz (ha pins s1 σ H1 _ I1 q) λov s2 ⟨x,H2,I2,rx,a,C,S,ex,ea,xi,na,q2⟩=>?_) hs;subst ex;cases rx;obtain ⟨⟨ob,vs,t,g0,oc,od,odd,v0,v1⟩,_⟩:=(show fO X.prog X.w H2 s2.heap a (Gs a (.ref C) none) from I2.hok a _ ea);obtain ⟨N,nm,qn,bs,hdct,sn,sub,ab,col,dd,k0,k1,k2,k3,k5,cd,hC,T,hc,hm⟩:=xi.at I2.kIn
 have J:InstAt s2.heap a ob C none:=by
  obtain ⟨c1,d1,e1,l1⟩:=ob
  dsimp only at oc od odd
  subst oc od odd;exact ⟨g0,rfl,rfl,trivial⟩
 have alt:a < s2.heap.objs.size:=Heap.lt_size g0;have hn:H2 s2.heap.objs.size=none:=I2.hok.fresh (aj _);have nea:s2.heap.objs.size≠a:=Ne.symm (bN alt);refine MQ I2.kIn J hc hm (by rw[refuseLoop_ref,refuseLoop_ref];exact Eu _) xi.xc.mo xi.sa xi.xc.hd na od λh' kp g1 ns=>?_
 have kept:∀b ub,H2 b=none->s2.heap.get? b=some ub->h'.get? b=some ub:=λb ub n z=>kp b ub (λe=>by rw[e,ea] at n;cases n) z
 have nu:∀b ub,s2.heap.get? b=some ub->H2 b=none->upd (upd H2 s2.heap.objs.size (.xd [(f,y)])) a (Gs a (.ref C) (some s2.heap.objs.size)) b=none:=λb ub z n=>by
  rw[aU (λe=>by rw[e,ea] at n;cases n),aU (bN (Heap.lt_size z))];exact n
 have old:∀b u',H2 b=some u'->b≠a->upd (upd H2 s2.heap.objs.size (.xd [(f,y)])) a (Gs a (.ref C) (some s2.heap.objs.size)) b=some u':=λb u' z n=>by
  rw[aU n,aU (λe=>by rw[e,hn] at z;cases z)];exact z
 have nat:∀b xs,H2 b=some (.tup xs)->b≠a:=λb xs z e=>by rw[e,ea] at z;cases z
 refine ⟨σ,_,I2.un (t':=s2.toks+2) ⟨λb ub z n _ _=>kept b ub n z,λb ub z n _ _=>⟨ub.slots,kept b ub n z⟩,λb ub z n _=>nu b ub z n,λb ub z _=>?_,λb xs z=>old b _ z (nat b xs z),λb ub u' z=>old b _ z (λe=>by rw[e,ea] at z;cases z),λb ps z=>⟨#[],by rw[old b _ z (λe=>by rw[e,ea] at z;cases z)];simp⟩⟩ (λb u' z=>?_),q2 _ hn nea⟩
 ·by_cases e:b=a
  ·subst e;exact ⟨_,g1⟩
  ·exact ⟨ub,kp b ub e z⟩
 ·by_cases e:b=a
  ·subst e;rw[aH] at z;cases z;exact LV g1 oc od rfl v0 v1
  ·rw[aU e] at z;by_cases e2:b=s2.heap.objs.size
   ·subst e2;rw[aH] at z;cases z;refine ⟨_,ns,λgn=>?_⟩;show As (List.lookup gn [(f,y)]) (if gn=f then some u else none)
    by_cases q:gn=f
    ·subst q;rw[if_pos rfl];simp only[List.lookup,beq_self_eq_true];exact ry
    ·rw[if_neg q];have hb:(gn == f)=false:=beq_eq_false_iff_ne.mpr q;simp only[List.lookup,hb];exact True.intro
   ·rw[aU e2] at z
    have ne2:∀c,(c=b\/H2 c=some (.own b))->c≠a:=λc hcc=>by
     rcases hcc with rfl | hcc
     ·exact e
     ·intro z2;rw[z2,ea] at hcc;cases hcc
    exact (I2.hok b u' z).stay (λc ub hcc q=>kp c ub (ne2 c hcc) q) (λc q=>old c _ q (ne2 c (.inr q))) λc xs q=>old c _ q (nat c xs q)
def Kq (C:Addr) (sp:Sp) (t:TA):TE:=λσ H Q=>t σ H λvs H1=>∀e,H1 e=none->sp (.ref e :: vs) (upd H1 e (Gs e (.ref C) none)) (λv H2=>v=.non/\Q (.ref e) H2) E0
theorem Inv.newExc (hex:X.ex=[]) (I:Inv X pins σ H s) {rest:List Value}:H (s.heap.objs.size+1)=none /\
  Inv X pins σ (upd H (s.heap.objs.size+1) (Gs (s.heap.objs.size+1) (.ref C) none)) { s with heap:=(s.heap.push { cls:=.type "tuple",data:=.seq rest.toArray }).push (gB C s.heap.objs.size) }:=by
 have hn:H (s.heap.objs.size+1)=none:=I.hok.fresh (Cp _);have I1:=I.kept (t':=s.toks) (h':=s.heap.push { cls:=.type "tuple",data:=.seq rest.toArray }) λb u q=>Heap.get?_push_of_some _ q
 have e2:((s.heap.push { cls:=.type "tuple",data:=.seq rest.toArray }).push (gB C s.heap.objs.size)).get? (s.heap.objs.size+1)=some (gB C s.heap.objs.size):=by heap_get
 exact ⟨hn,I1.laid (a:=s.heap.objs.size+1) (o:=Gs (s.heap.objs.size+1) (.ref C) none) (t':=s.toks) (λb u q=>Heap.get?_push_of_some _ q) (Ja (Heap.size_push _ _)) (LV e2 rfl rfl rfl rfl rfl)⟩
theorem Lb {k:Nat} {C S f:Addr} {fd:FuncData} {ps:List Str} {sp:Sp} {x:Str} {e:Expr} {es:List Expr} {t:TA} {p pos:Pos} (hex:X.ex=[]) (xi:Q4 X.K C S) (hi:findIn X.K (.ref C) "__init__"=some (some (.ref f))) (hf:typeIn X.K (.ref f)=some (.type "function")) (kp:keepIn X.K (.ref C)=true)
  (F:cD X.prog X.w X.K X.mg X.base fN k f fd ps sp) (hr:js (k+1) X.A) (hg:Gl X x) (hm:X.mg x=some (.ref C)) (hb:Binds X.K fd ps []) (ha:PA X (e :: es) t) (hps:Nat.ble ps.length 1000=true:=by rfl)
  (hdb:(x == ("__debug__":Str))=false:=by decide) (he:starEach (e :: es) X.env=(false,eval e X.env) :: starEach es X.env:=by rfl) (hpl:(backTo pos (starEach es X.env)).any (·.1)=false:=by rfl) :
  PE X (.Call (.Name x p) (e :: es) [] pos) (Kq C sp t):=by
 intro pins s σ H Q I h;refine wpAny_Call_Name_kw (rV I hg hm ?_ hdb);refine kQ (h₀:=X.base) I.ok.mod.kin kp (fz (ha pos pins s σ H _ I h) λus s1 ⟨vs,H1,I1,r,q⟩=>⟨I1.kIn,?_⟩) he hpl;obtain ⟨N,nm,qn,bs,hdct,sn,sub,ab,col,dd,k0,k1,k2,k3,k5,cd,hC,T,hc,hmro⟩:=xi.at I1.kIn;obtain ⟨hn,I2⟩:=I1.newExc hex (C:=C) (rest:=us);have hq:=q _ hn;have r2:cM (V.ref (s1.heap.objs.size+1) :: vs) (Value.ref (s1.heap.objs.size+1) :: us):=.cons rfl r
 have hlen:(Value.ref (s1.heap.objs.size+1) :: us++[]).length=ps.length:=by
  rw[iW];have e':=r2.length;rw[F.len _ _ _ _ hq] at e';exact e'.symm
 have small:us.length<=sizeLine:=by
  have e':=r2.length;rw[F.len _ _ _ _ hq,bR] at e';have:=Nat.le_of_ble_eq_true hps;have z:(1000:Nat)<=sizeLine:=by rw[sizeLine_eq];decide
  lia
 have bd:=hb _ (Value.ref (s1.heap.objs.size+1) :: us) I2.kIn hlen;rw[iW] at bd
 refine wpAny_call (JY (h:=s1.heap) (g:=s1.gens) (d:=s1.drawn) (t:=s1.toks) (os:=s1.os) T hC (looks_findIn I1.kIn hi) (λself=>bind_fn I1.kIn self hf) small (codeAny_mono (F.run _ X.stack _ _ ⟨Value.ref (s1.heap.objs.size+1) :: us,[]⟩ (Value.ref (s1.heap.objs.size+1) :: us) _ _ E0 (hr.make C us [])
  (I2.env0.make C us []) bd r2 hq) λr' s' hq'=>?_))
 cases r' with
 | error z=>exact hq'.elim
 | ok fl =>
  cases fl with
  | ret u =>
   obtain ⟨v,H',I3,rv,ev,q3⟩:=I2.after hq';subst ev;exact ⟨rv,⟨V.ref (s1.heap.objs.size+1),H',I3,rfl,q3⟩⟩
  | next=>exact False.elim hq'
  | brk=>exact False.elim hq'
  | cont=>exact False.elim hq'
def yb (H:Hp) (a:Addr):Hp:=λb=>if b=a then none else H b
theorem rh (h:b≠a):yb H a b=H b:=by unfold yb;rw[if_neg h]
theorem LF (h:yb H a b=some u):b≠a/\H b=some u:=by
 unfold yb at h
 split at h
 ·cases h
 ·exact ⟨by assumption,h⟩
def IV (X:Cx) (E:XK):Prop:=∀(pins:List (Addr×Obj)) (σ:St) (H:Hp) (s:Shared) (a:Addr) (cls:Value) (dx:Option Addr),Inv X pins σ H s->H a=some (Gs a cls dx)->X.H₀ a=none->E cls dx (yb H a)->X.xe (.ref a) s
theorem D0 {K:Frag} :
  IV (Dz (O6 P w) P w K mg base N qual scope f cd A outer s H E) E:=by
 intro pins σ H1 s1 e cls dx I he h0 hE;have h0:H e=none:=h0;obtain ⟨⟨oe,vs,t,g0,oc,od,odd,v0,v1⟩,_⟩:=(show fO P w H1 s1.heap e (Gs e cls dx) from I.hok e _ he);subst oc;have hfr:(A.deeper (envOfC qual scope s.heap.objs.size f cd)).frames=some (envOfC qual scope s.heap.objs.size f cd :: outer):=I.ok.frames;have hstk:s1.heap.FunFrames base (envOfC qual scope s.heap.objs.size f cd :: outer):=I.stack;have nL:∀b o,s.heap.get? b=some o->b≠s.heap.objs.size:=λb o q=>bN (Heap.lt_size q)
 have ns0:s.heap.get? e=none:=by
  cases q:s.heap.get? e with
  | none=>rfl
  | some o =>
   have:=I.base.free e o q h0 (aG);rw[he] at this;cases this
 have enf:e∉uF (envOfC qual scope s.heap.objs.size f cd :: outer):=λz=>by
  have:=I.stkFree e z;rw[he] at this;cases this
 obtain ⟨hid,eh⟩:∃l,l=e :: uF (envOfC qual scope s.heap.objs.size f cd :: outer):=⟨_,rfl⟩;have hfun:s1.heap.FunFrames (hideAll s1.heap hid) (envOfC qual scope s.heap.objs.size f cd :: outer):=funFrames_hide hstk λenv hm b hb=>by rw[eh];exact bP _ (Fv.mpr ⟨env,hm,hb⟩)
 have hD:jB e dx s1.heap:=odd ▸ jB.of g0
 have c1:∀b u,yb H1 e b=some u->∃o,(hideAll s1.heap hid).get? b=some o:=λb u q=>by
  obtain ⟨ne,q⟩:=LF q;obtain ⟨o,z⟩:=(I.hok b u q).there;refine ⟨o,hideAll_get _ z λm=>?_⟩;rw[eh] at m;rcases ay.mp m with m | m
  ·exact ne m
  ·have:=I.stkFree b m;rw[q] at this;cases this
 have c2:∀b o,s.heap.get? b=some o->b∉uF outer->∃o',(hideAll s1.heap hid).get? b=some o':=λb o q hb=>by
  obtain ⟨o',z⟩:=I.base.there b o q (aG);refine ⟨o',hideAll_get _ z λm=>?_⟩;rw[eh,ER (L:=s.heap.objs.size) rfl] at m;rcases ay.mp m with m | m
  ·rw[m,ns0] at q;cases q
  rcases ay.mp m with m | m
  ·exact nL b o q m
  ·exact hb m
 have hU0:Un (uF outer) [] H H1 s.heap s1.heap:=I.base
 have hU:Un (uF outer) [] H (yb H1 e) s.heap s1.heap:=⟨hU0.keep,hU0.slot,λb o q n hx=>by
   rw[rh (λz=>by rw[z,ns0] at q;cases q)];exact hU0.free b o q n hx,hU0.there,λb xs q=>by
   have q':=hU0.tups b xs q;rw[rh (λz=>by rw[z,he] at q';cases q')];exact q',λb o u q=>by
   have q':=hU0.frzs b o u q;rw[rh (λz=>by rw[z,he] at q';cases q')];exact q',λb ps q=>by
   obtain ⟨m,q'⟩:=hU0.tbls b ps q;exact ⟨m,by rw[rh (λz=>by rw[z,he] at q';cases q')];exact q'⟩⟩
 have hok1:vB P w (yb H1 e) s1.heap:=λb u q=>by
  obtain ⟨ne,q⟩:=LF q;exact (I.hok b u q).stay (λc v _ z=>z) (λc z=>by rw[rh (λy=>by rw[y,he] at z;cases z)];exact z) λc xs z=>by rw[rh (λy=>by rw[y,he] at z;cases z)];exact z
 refine wpAny_mono (ow (e:=e) (d:=dx) (zV _ _) (wpAny_leaving_firstW (E:=λ_ _=>False) (Q:=λ_ s2=>QY P w outer H s (yb H1 e) e t oe.cls (hideAll s1.heap hid) s2)
  (base:=hideAll s1.heap hid) (L:=s.heap.objs.size) hfr hfun rfl g0 (λb o q=>of_hideAll _ q) (hideAll_none _ (by rw[eh];exact cJ)) od v1 v0 λh2 hL=>?_) hD) (λ_ s2 ⟨F,dc⟩=>⟨e,t,oe.cls,dx,yb H1 e,_,rfl,⟨F,dc⟩,hE⟩) (λ_ _ z=>z.1.elim)
 obtain ⟨x1,⟨_,_,x2⟩,x3,x4⟩:=hL;have fl:Heap.FlyingW (hideAll s1.heap hid) outer e oe.cls (.ref t) h2:=⟨x1,hideAll_none _ (by rw[eh];exact cJ),x2,x3⟩
 obtain ⟨U2,ok2⟩:=Gn hU hok1 (λb o q=>of_hideAll _ q) x1 x4 c1 c2 I.ok.frf (λb hb o q=>by
  obtain ⟨_,o',e',d⟩:=I.ok.funs.mem hb;have e':s.heap.get? b=some o':=e';rw[q] at e';cases e';exact d)
 exact ⟨I.os,I.bare,U2,ok2,fl,c1,c2⟩
end
section
variable {X:Cx}
def GZ (K:Frag) (H0:Hp) (te:TE) (E:XK):TS:=λ_ σ H=>te σ H λv H1=>∃a C S dx,v=.ref a/\H1 a=some (Gs a (.ref C) dx)/\H0 a=none/\Q4 K C S/\E (.ref C) dx (yb H1 a)
theorem Jt (hx:IV X E) (hc:X.calm=true) (he:PE X e te):PS X (.Raise (some e) none pos) (GZ X.K X.H₀ te E):=by
 intro pins s σ H D I h;rw[arm_exec_Raise];refine wpAny_bind (wpAny_standAt ?_);unfold raiseStmt
 dsimp only
 refine wpAny_bind (wpAny_bind (fz (he pins s σ H _ I h) λu s1 ⟨v,H1,I1,rv,a,C,S,dx,ev,ea,h0,xi,q⟩=>wpAny_bind (wpAny_standAt (wpAny_pure ?_))));subst ev;cases rv;obtain ⟨⟨ob,vs,t,g0,oc,od,odd,v0,v1⟩,_⟩:=(show fO X.prog X.w H1 s1.heap a (Gs a (.ref C) dx) from I1.hok a _ ea);obtain ⟨N,nm,qn,bs,hdct,sn,sub,ab,col,dd,k0,k1,k2,k3,k5,cd,hC,T,hcl,hm⟩:=xi.at I1.kIn;have hxe:=hx pins σ H1 s1 a _ _ I1 ea h0 q;have hhd:=I1.ok.hd hc;obtain ⟨c1,d1,e1,l1⟩:=ob
 dsimp only at oc od odd
 subst oc od odd;have hcB:(Value.ref C :: .ref S :: vD).contains (.type "BaseException")=true:=by rfl
 obtain ⟨hp,gs,dr,tk,os⟩:=s1;have LT:Looks (model X.prog X.w) hp (typeOf (.ref a)) (.ref C):=(Looks.ld g0).andThen .now;have LTT:Looks (model X.prog X.w) hp (typeOf (.ref C)) (.type "type"):=(Looks.ld hC).andThen .now
 have LIT:Looks (model X.prog X.w) hp (isType (.ref a)) false:=λA' Q' E' s' k z=>by
  unfold isType loadHead;exact wpAny_bind (wpAny_loadPart (k _ _ g0) (wpAny_pure z))
 have LIE:Looks (model X.prog X.w) hp (isExcClass (.ref a)) false:=λA' Q' E' s' k z=>by
  unfold isExcClass;refine wpAny_bind ((LIT.keeps k).here ?_);rw[if_neg aO];exact wpAny_pure z
 have LIB:Looks (model X.prog X.w) hp (isInstance (.ref a) (.type "BaseException")) true:=LT.andThen (looks_mroIn (show X.K.In hp from I1.kIn) xi.xc.mb);simp only[evalOpt,Option.map];refine wpAny_bind (wpAny_pure (wpAny_bind (wpAny_holding ?_)));unfold excFromValue;refine wpAny_bind (Looks.at LIE ?_);rw[if_neg aO];refine wpAny_bind (Looks.at LIB ?_);rw[if_pos rfl];refine wpAny_pure ?_;refine wpAny_bind (Looks.at LIT ?_);rw[if_neg aO];unfold raisedInstance;refine wpAny_bind (wpAny_bind (Looks.at LT (wpAny_bind (Looks.at LTT ?_))));rw[if_pos (by rfl)];refine wpAny_pure (wpAny_bind ?_);unfold setFlight;refine wpAny_bind (wpAny_field g0 rfl v1 ?_);rw[if_neg (by decide)];exact wpAny_pure (wpAny_raiseNew_none hhd hxe)
end
inductive Hu (K:FG9) (vs:List V) (H:Hp) (Q:VK) (E9:XK):Prop
 | mk (p:Addr) (n w:Nat) (H0:Hp) (rows:LR9):vs=[.ref p,.int n]->bG K H0 H p rows->rows.length<=100->n<=100->(∀xs∈rows,xs.length=n)->A2 (cm rows n) rows.length w->(∀q R ps H',aI H H'->H' q=some (.lst (dG ps))->bX (cm rows n) rows.length R ps->Q (.ref q) H')->Hu K vs H Q E9
theorem iK:(cm rows n).length=n:=by unfold cm;simp
inductive Eb (K:FG9) (C:Addr) (vs:List V) (H:Hp) (Q:VK) (E9:XK):Prop
 | mk (x p:Addr) (w:Nat) (H0 H1:Hp) (mv pt lk sts pus Rk:LR9) (pk:List Nat):vs=[.ref x,.ref p]->kH K H0 H C x mv pt lk->gF mv pt lk->bG K H1 H p sts->Fo mv pt sts pus->pus.length < mv.length->bX (jw mv pt mv.length) mv.length Rk pk->pk.length=mv.length->(∀xs∈mv,vw xs (sts.getD pus.length []))->A2 (cm (sts++(kb mv (sts.getD pus.length []) :: pt)) mv.length) (sts++(kb mv (sts.getD pus.length []) :: pt)).length w->(∀r pu H',H r=none->aI H H'->cP K H' r pu->pu.length=pt.length->(∀z∈pu,z=0\/z=1)->(∀s':List Rat,s'.length=mv.length->(∀c,s'.getD c 0=aS mv.length (λi=>bC mv c i*bC sts pus.length i)+aS pt.length λl=>pu.getD l 0*bC pt l c)->Fo mv pt (sts++[s']) (pus++[pu]))->Q (.ref r) H')->Eb K C vs H Q E9
theorem JS (h:xs.length=k+1):nW xs (some (-1)) none=xs.drop k:=by
 unfold nW
 have e:HT.CY xs.length 0 (some (-1))=k:=by
  show (if (-1:Int) < 0 then ((-1:Int)+(xs.length:Int)).toNat else min (-1:Int).toNat xs.length)=k
  rw[if_pos (by decide),h]
  lia
 rw[e,HT.qS];exact aE (by rw[ic];lia)
theorem Gv {xs:LR9} (h:xs.length=k+1):xs.drop k=[xs.getD k []]:=by
 rw[dw (by lia),yu (by lia),aa,af (by lia)];rfl
theorem KU:(List.replicate m (0:Rat)).getD l 0=0:=by
 rw[aa,l9]
 split <;> rfl
theorem Pd (hl:l < m):(DZ m ((l:Nat):Int)).getD l' 0=if l'=l then 1 else 0:=by
 unfold DZ;rw[aa,az];rcases aT l' m with q | q
 ·rw[bo q];show (if ((l':Nat):Int)=((l:Nat):Int) then (1:Rat) else 0)=_
  by_cases e:l'=l
  ·rw[if_pos (by rw[e]),if_pos e]
  ·rw[if_neg (by lia),if_neg e]
 ·rw[aJ (by rw[bI];exact q),if_neg (by lia)];rfl
theorem Nx {ps:List Nat} (h:M∈(ps.filter (k<=·)).map λp=>((p:Nat):Int)):∃t,t < ps.length/\M=((ps.getD t 0:Nat):Int)/\k<=ps.getD t 0:=by
 obtain ⟨p,hp,rfl⟩:=ax.mp h;obtain ⟨h1,h2⟩:=gD.mp hp;obtain ⟨t,ht,e⟩:=bO h1;have eg:ps.getD t 0=p:=by rw[aa,af ht,e];rfl
 exact ⟨t,ht,by rw[eg],by rw[eg];simpa using h2⟩
def Oq (mv pt:LR9):Prop:=∀sts pus,Fo mv pt sts pus->(∀pu∈pus,∀z∈pu,z=(0:Rat)\/z=1)->pus.length < mv.length->(∀xs∈mv,vw xs (sts.getD pus.length []))/\(∃w,A2 (cm (sts++(kb mv (sts.getD pus.length []) :: pt)) mv.length) (sts++(kb mv (sts.getD pus.length []) :: pt)).length w)/\∀pu:List Rat,(∀z∈pu,z=0\/z=1)->qg 1500 1800 (sts.getD pus.length []++pu)
inductive Eg (K:FG9) (C:Addr) (vs:List V) (H:Hp) (Q:VK) (E9:XK):Prop
 | mk (x:Addr) (H0:Hp) (mv pt lk Rk:LR9) (pk:List Nat):vs=[.ref x]->kH K H0 H C x mv pt lk->gF mv pt lk->MB mv pt lk->bX (jw mv pt mv.length) mv.length Rk pk->pk.length=mv.length->Oq mv pt->(∀t a b sts pus H',aI H H'->H' t=some (.tup [.ref a,.ref b])->bG K H H' a sts->bG K H H' b (pus++[List.replicate pt.length 0])->Fo mv pt sts pus->pus.length=mv.length->(∀pu∈pus,∀z∈pu,z=0\/z=1)->Q (.ref t) H')->Eg K C vs H Q E9
theorem Ml:Fo mv pt [List.replicate mv.length 0] [] :=
 ⟨rfl,λxs hx=>by rw[bB.mp hx];exact cp,(λ_ h=>nomatch h),λc=>KU,(λj h=>absurd h (cQ _)),λj j0 hj=>by
  have:j < 1:=hj
  lia⟩
theorem JH {st pu:List Rat} (D:gF mv pt lk) (h:st.length=mv.length) (hp:pu.length=pt.length) (c:Nat):(ft mv pt st pu).getD c 0=aS mv.length (λj=>bC mv c j*st.getD j 0)+aS pt.length λi=>pu.getD i 0*bC pt i c:=by
 rcases aT c mv.length with q | q
 ·exact EJ D h hp q
 ·have z1:∀j,bC mv c j=0:=λj=>by unfold bC;rw[aa (l:=mv),aJ q];exact List.getD_nil
  have l:(ft mv pt st pu).length<=mv.length:=by unfold ft;rw[aP];exact Nat.min_le_left ..
  rw[aa,aJ (by lia),b7 λj _=>by rw[z1 j];grind,b7 λi _=>by rw[yn D.pw q];grind];show (0:Rat)=0+0
  grind
theorem Ah {v:V} (h:xs.length=k+1) (e:xs[k]?=some v):E6 xs (-1)=some v:=by
 have:xs=xs.take k++[v]:=by
  rw[aL] at e;obtain ⟨hk,e⟩:=e;rw[<- e,List.take_append_getElem hk,aE (by lia)]
 rw[this];exact nY _ _
theorem HU {st pu:List Rat} (D:gF mv pt lk):(ft mv pt st pu).length=mv.length:=by
 unfold ft;rw[aP,iK,yr]
abbrev kI (h:Heap) (T:Addr) (a b c:Value):Prop:=h.get? T=some { cls:=.type "tuple",data:=.seq #[a,b,c] }
structure Z3 (z TI TO i1 i2 i3 l1 l2 l3:Addr):Prop where
 nd:[z,TO,i1,i2,i3].Nodup
 ti:TI∉[z,TO,i1,i2,i3]
 m1:l1∉[z,TO,i1,i2,i3]
 m2:l2∉[z,TO,i1,i2,i3]
 m3:l3∉[z,TO,i1,i2,i3]
section
variable {prog:Program} {w:World} {A:Around} {E:Value->Shared->Prop} {s:Shared} {z TI TO i1 i2 i3 l1 l2 l3:Addr} {k:Nat} {xs ys zs:Array Value} {a b c u v t:Value}
theorem FA (hT:kI s.heap T a b c)
  (h:∀h',h'.get? T=some { cls:=.type "tuple",data:=.seq ((#[a,b,c]:Array Value).setIfInBounds j x) }->Heap.SameBut T s.heap h'->Q () { s with heap:=h' }):wpAny (model prog w) A (updateSeq T (·.setIfInBounds j x)) Q E s:=by
 refine wpAny_updateSeq hT rfl (h _ ?_ (Heap.SameBut.update ..));rw[Heap.get?_update_self _ hT rfl];simp [Obj.mapSeq]
theorem ME {Q:Value->Shared->Prop} (D:Z3 z TI TO i1 i2 i3 l1 l2 l3) (hz:IsZip s.heap z TI TO .none) (hTI:kI s.heap TI (.ref i1) (.ref i2) (.ref i3)) (hTO:kI s.heap TO a b c)
  (h1:s.heap.IsListIter i1 l1 k) (h2:s.heap.IsListIter i2 l2 k) (h3:s.heap.IsListIter i3 l3 k) (g1:s.heap.IsList l1 xs) (g2:s.heap.IsList l2 ys) (g3:s.heap.IsList l3 zs) (e1:xs[k]?=some u) (e2:ys[k]?=some v) (e3:zs[k]?=some t)
  (hQ:∀h',IsZip h' z TI TO (rawInt s.heap.objs.size)->kI h' TO u v t->h'.IsListIter i1 l1 (k+1)->h'.IsListIter i2 l2 (k+1)->h'.IsListIter i3 l3 (k+1)->kI h' s.heap.objs.size u v t →
   (∀d o,d∉[z,TO,i1,i2,i3]->s.heap.get? d=some o->h'.get? d=some o)->Q (.ref s.heap.objs.size) { s with heap:=h' }) :
  wpAny (model prog w) A (Builtin.«zip.__next__» ⟨[.ref z],[]⟩) (λfin s'=>∃v,fin=.done (.ret v)/\Q v s') E s:=by
 obtain ⟨nd,ti,m1,m2,m3⟩:=D;simp only[cR,ay,aG,or_false,not_or,jD,and_true,not_false_eq_true] at nd ti m1 m2 m3;obtain ⟨⟨zT,z1,z2,z3⟩,⟨T1,T2,T3⟩,⟨i12,i13⟩,i23⟩:=nd;obtain ⟨_,_,_,_,_⟩:=ti;obtain ⟨a1,a2,a3,a4,a5⟩:=m1;obtain ⟨b1,b2,b3,b4,b5⟩:=m2;obtain ⟨c1,c2,c3,c4,c5⟩:=m3;show wpAny _ _ (field (.ref z) 2 >>= _) _ _ _
 refine wpAny_bind (wpAny_field hz rfl (x:=.bool false) rfl ?_);show wpAny _ _ (field (.ref z) 3 >>= _) _ _ _
 refine wpAny_bind (wpAny_field hz rfl (x:=.ref TI) rfl ?_);refine wpAny_bind (wpAny_seqItems hTI rfl ?_);show wpAny _ _ (Builtin.SmallTypes.ownedTupleIsFree (.ref z) >>= _) _ _ _
 refine wpAny_bind ?_;unfold Builtin.SmallTypes.ownedTupleIsFree;refine wpAny_bind (wpAny_field hz rfl (x:=.none) rfl (wpAny_pure ?_));simp only[if_true];refine wpAny_bind (wpAny_rule ?_);refine wpAny_bind (wpAny_field hz rfl (x:=.ref TO) rfl ?_);refine wpAny_bind (wpAny_setField_rec hz (by simp) λp1 y1 s1=>?_);replace y1:IsZip p1 z TI TO .ellipsis:=y1;refine wpAny_bind ?_;simp only[List.zipIdx_cons,List.zipIdx_nil,qo,mR];refine wpAny_bind (wpAny_bind (wpAny_onRaise ?_));show wpAny _ _ (Builtin.SmallTypes.nextOf (.ref i1) >>= _) _ _ _
 refine wpAny_bind (wpAny_nextOf_list_item (h1.extBut s1.extBut (Ne.symm z1)) (g1.extBut s1.extBut a1) e1 λp2 n1 s2=>wpAny_pure ?_);have t2:kI p2 TO a b c:=s2.extBut _ _ T1 (s1.extBut _ _ (Ne.symm zT) hTO);refine wpAny_bind (wpAny_seqItems t2 rfl ?_);refine wpAny_bind (FA t2 λp3 t3 s3=>?_);replace t3:kI p3 TO u b c:=t3;refine wpAny_bind (wpAny_letGo (wpAny_pure ?_));refine wpAny_bind (wpAny_bind (wpAny_onRaise ?_));show wpAny _ _ (Builtin.SmallTypes.nextOf (.ref i2) >>= _) _ _ _
 refine wpAny_bind (wpAny_nextOf_list_item (((h2.extBut s1.extBut (Ne.symm z2)).extBut s2.extBut (Ne.symm i12)).extBut s3.extBut (Ne.symm T2)) (((g2.extBut s1.extBut b1).extBut s2.extBut b3).extBut s3.extBut b2) e2 λp4 n2 s4=>wpAny_pure ?_);have t4:kI p4 TO u b c:=s4.extBut _ _ T2 t3;refine wpAny_bind (wpAny_seqItems t4 rfl ?_);refine wpAny_bind (FA t4 λp5 t5 s5=>?_);replace t5:kI p5 TO u v c:=t5;refine wpAny_bind (wpAny_letGo (wpAny_pure ?_));refine wpAny_bind (wpAny_bind (wpAny_onRaise ?_));show wpAny _ _ (Builtin.SmallTypes.nextOf (.ref i3) >>= _) _ _ _
 refine wpAny_bind (wpAny_nextOf_list_item (((((h3.extBut s1.extBut (Ne.symm z3)).extBut s2.extBut (Ne.symm i13)).extBut s3.extBut (Ne.symm T3)).extBut s4.extBut (Ne.symm i23)).extBut s5.extBut (Ne.symm T3)) (((((g3.extBut s1.extBut c1).extBut s2.extBut c3).extBut s3.extBut c2).extBut s4.extBut c4).extBut s5.extBut c2) e3 λp6 n3 s6=>wpAny_pure ?_);have t6:kI p6 TO u v c:=s6.extBut _ _ T3 t5;refine wpAny_bind (wpAny_seqItems t6 rfl ?_);refine wpAny_bind (FA t6 λp7 t7 s7=>?_);replace t7:kI p7 TO u v t:=t7;refine wpAny_bind (wpAny_letGo (wpAny_pure (wpAny_pure ?_)));refine wpAny_bind (wpAny_seqItems t7 rfl ?_);refine wpAny_bind (wpAny_newTuple ?_);have hsz:p7.objs.size=s.heap.objs.size:=by rw[s7.1,s6.1,s5.1,s4.1,s3.1,s2.1,s1.1]
 have kp:∀d o,d∉[TO,i1,i2,i3]->p1.get? d=some o->p7.get? d=some o:=λd o hd e=>by
  simp only[ay,aG,or_false,not_or] at hd;obtain ⟨d1,d2,d3,d4⟩:=hd;exact s7.extBut _ _ d1 (s6.extBut _ _ d4 (s5.extBut _ _ d1 (s4.extBut _ _ d3 (s3.extBut _ _ d1 (s2.extBut _ _ d2 e)))))
 have y7:IsZip p7 z TI TO .ellipsis:=kp z _ (by simp [zT,z1,z2,z3]) y1;have zlt:z < p7.objs.size:=Heap.lt_size y7;show wpAny _ _ (Builtin.SmallTypes.ownedTupleHandOut (.ref z) (.ref p7.objs.size) >>= _) _ _ _
 refine wpAny_bind ?_;unfold Builtin.SmallTypes.ownedTupleHandOut;have y8:IsZip (p7.push { cls:=.type "tuple",data:=.seq #[u,v,t] }) z TI TO .ellipsis:=Heap.get?_push_of_some _ y7;refine wpAny_bind (wpAny_setField_rec y8 (by simp) λp8 y9 s8=>?_);replace y9:IsZip p8 z TI TO (rawInt p7.objs.size):=y9;refine wpAny_setField_rec y9 (by simp) λp9 yA s9=>?_
 replace yA:IsZip p9 z TI TO (rawInt p7.objs.size):=yA;have up:∀d o,d≠z->p7.get? d=some o->p9.get? d=some o:=λd o hd e=>s9.extBut _ _ hd (s8.extBut _ _ hd (Heap.get?_push_of_some _ e))
 have tT:kI p9 p7.objs.size u v t:=s9.extBut _ _ (mO zlt) (s8.extBut _ _ (mO zlt) (Heap.get?_push_size _ rfl));rw[hsz] at yA tT;refine wpAny_pure ⟨_,rfl,?_⟩;show Q (.ref p7.objs.size) _
 rw[hsz];refine hQ p9 yA (up _ _ (Ne.symm zT) t7) ?_ ?_ ?_ tT λd o hd e=>?_
 ·exact ((((((n1.extBut s3.extBut (Ne.symm T1)).extBut s4.extBut i12).extBut s5.extBut (Ne.symm T1)).extBut s6.extBut i13).extBut s7.extBut (Ne.symm T1))).at λo e=>up _ o (Ne.symm z1) e
 ·exact (((n2.extBut s5.extBut (Ne.symm T2)).extBut s6.extBut i23).extBut s7.extBut (Ne.symm T2)).at λo e=>up _ o (Ne.symm z2) e
 ·exact (n3.extBut s7.extBut (Ne.symm T3)).at λo e=>up _ o (Ne.symm z3) e
 ·simp only[ay,aG,or_false,not_or] at hd;obtain ⟨d0,d1,d2,d3,d4⟩:=hd;exact up d o d0 (kp d o (by simp [d1,d2,d3,d4]) (s1.extBut _ _ d0 e))
theorem Pb (hh:A.handled=none) (D:Z3 z TI TO i1 i2 i3 l1 l2 l3) (hz:IsZip s.heap z TI TO .none) (hTI:kI s.heap TI (.ref i1) (.ref i2) (.ref i3))
  (h1:s.heap.IsListIter i1 l1 k) (g1:s.heap.IsList l1 xs) (e1:xs[k]?=none)
  (hE:∀h' e,(∀d o,d∉[z,TO,i1,i2,i3]->s.heap.get? d=some o->h'.get? d=some o)->(∃o,h'.get? e=some o/\o.cls=.type "StopIteration")->E (.ref e) { s with heap:=h' }) :
  wpAny (model prog w) A (Builtin.«zip.__next__» ⟨[.ref z],[]⟩) Q E s:=by
 obtain ⟨nd,ti,m1,_,_⟩:=D;simp only[cR,ay,aG,or_false,not_or,jD,and_true,not_false_eq_true] at nd ti m1;obtain ⟨⟨zT,z1,z2,z3⟩,⟨T1,T2,T3⟩,⟨i12,i13⟩,i23⟩:=nd;show wpAny _ _ (field (.ref z) 2 >>= _) _ _ _
 refine wpAny_bind (wpAny_field hz rfl (x:=.bool false) rfl ?_);show wpAny _ _ (field (.ref z) 3 >>= _) _ _ _
 refine wpAny_bind (wpAny_field hz rfl (x:=.ref TI) rfl ?_);refine wpAny_bind (wpAny_seqItems hTI rfl ?_);show wpAny _ _ (Builtin.SmallTypes.ownedTupleIsFree (.ref z) >>= _) _ _ _
 refine wpAny_bind ?_;unfold Builtin.SmallTypes.ownedTupleIsFree;refine wpAny_bind (wpAny_field hz rfl (x:=.none) rfl (wpAny_pure ?_));simp only[if_true];refine wpAny_bind (wpAny_rule ?_);refine wpAny_bind (wpAny_field hz rfl (x:=.ref TO) rfl ?_);refine wpAny_bind (wpAny_setField_rec hz (by simp) λp1 y1 s1=>?_);replace y1:IsZip p1 z TI TO .ellipsis:=y1;refine wpAny_bind ?_;simp only[List.zipIdx_cons,List.zipIdx_nil,qo,mR];refine wpAny_bind (wpAny_bind (wpAny_onRaise ?_));show wpAny _ _ (Builtin.SmallTypes.nextOf (.ref i1) >>= _) _ _ _
 refine wpAny_bind (wpAny_nextOf_list_end hh (h1.extBut s1.extBut (Ne.symm z1)) (g1.extBut s1.extBut m1.1) e1 λp2 e s2 he=>?_);obtain ⟨oe,hoe,hce⟩:=he;have y2:IsZip p2 z TI TO .ellipsis:=s2 _ _ z1 y1;have ez:e≠z:=λx=>by subst x;rw[y2] at hoe;cases hoe;simp at hce
 refine wpAny_setField_rec y2 (by simp) λp3 _ s3=>hE p3 e (λd o hd x=>?_) ⟨oe,s3.extBut _ _ ez hoe,hce⟩
 simp only[ay,aG,or_false,not_or] at hd;exact s3.extBut _ _ hd.1 (s2 _ _ hd.2.2.1 (s1.extBut _ _ hd.1 x))
theorem NL (D:Z3 z TI TO i1 i2 i3 l1 l2 l3) (hz:IsZip s.heap z TI TO .none) (hTI:kI s.heap TI (.ref i1) (.ref i2) (.ref i3)) (hTO:kI s.heap TO a b c)
  (h1:s.heap.IsListIter i1 l1 k) (h2:s.heap.IsListIter i2 l2 k) (h3:s.heap.IsListIter i3 l3 k) (g1:s.heap.IsList l1 xs) (g2:s.heap.IsList l2 ys) (g3:s.heap.IsList l3 zs) (e1:xs[k]?=some u) (e2:ys[k]?=some v) (e3:zs[k]?=some t)
  (hQ:∀h',IsZip h' z TI TO (rawInt s.heap.objs.size)->kI h' TO u v t->h'.IsListIter i1 l1 (k+1)->h'.IsListIter i2 l2 (k+1)->h'.IsListIter i3 l3 (k+1)->kI h' s.heap.objs.size u v t →
   (∀d o,d∉[z,TO,i1,i2,i3]->s.heap.get? d=some o->h'.get? d=some o)->Q (some (.ref s.heap.objs.size)) { s with heap:=h' }) :
  wpAny (model prog w) A (pyNext (.ref z)) Q E s:=by
 have hT:s.TypeIs (.ref z) "zip":=⟨_,hz,rfl⟩;unfold pyNext
 exact wpAny_bind (wpAny_attempt (wpAny_callSpecial?_slot (name:=Str.ofString "__next__") hT F.slot_zip_next
  (wpAny_call_entry F.slot_zip_next hT F.entry_zip_next
   (ME D hz hTI hTO h1 h2 h3 g1 g2 g3 e1 e2 e3 λh' a1 a2 a3 a4 a5 a6 a7=>wpAny_pure (hQ h' a1 a2 a3 a4 a5 a6 a7)) (F.args_zip_next_1 _))))
theorem EH (hh:A.handled=none) (D:Z3 z TI TO i1 i2 i3 l1 l2 l3) (hz:IsZip s.heap z TI TO .none) (hTI:kI s.heap TI (.ref i1) (.ref i2) (.ref i3))
  (h1:s.heap.IsListIter i1 l1 k) (g1:s.heap.IsList l1 xs) (e1:xs[k]?=none)
  (hQ:∀h',(∀d o,d∉[z,TO,i1,i2,i3]->s.heap.get? d=some o->h'.get? d=some o)->Q none { s with heap:=h' }):wpAny (model prog w) A (pyNext (.ref z)) Q E s:=by
 have hT:s.TypeIs (.ref z) "zip":=⟨_,hz,rfl⟩;unfold pyNext
 refine wpAny_bind (wpAny_attempt (wpAny_callSpecial?_slot (name:=Str.ofString "__next__") hT F.slot_zip_next
  (wpAny_call_entry F.slot_zip_next hT F.entry_zip_next (Pb hh D hz hTI h1 g1 e1 λh' e hk he=>?_) (F.args_zip_next_1 _))))
 obtain ⟨o,ho,hc⟩:=he;exact wpAny_bind (wpAny_isInstance (T:="StopIteration") (b:=true) ⟨o,ho,hc⟩ isSubtype_stop (wpAny_pure (hQ _ hk)))
abbrev O8 (h:Heap) (l1:Addr):Heap:=h.push { cls:=.type "list_iterator",data:=.fields #[.ref l1,.int 0 0] }
abbrev Q6 (h:Heap) (l1 l2:Addr):Heap:=O8 (O8 h l1) l2
abbrev SS (h:Heap) (l1 l2 l3:Addr):Heap:=O8 (Q6 h l1 l2) l3
abbrev SQ (h:Heap) (l1 l2 l3:Addr):Heap:=(SS h l1 l2 l3).push { cls:=.type "tuple",data:=.seq #[.ref h.objs.size,.ref (O8 h l1).objs.size,.ref (Q6 h l1 l2).objs.size] }
abbrev SO (h:Heap) (l1 l2 l3:Addr):Heap:=(SQ h l1 l2 l3).push { cls:=.type "tuple",data:=.seq #[.none,.none,.none] }
abbrev O7 (h:Heap) (l1 l2 l3:Addr):Heap:=(SO h l1 l2 l3).push { cls:=.type "zip",data:=.fields #[.none,.bool false,.bool false,.ref (SS h l1 l2 l3).objs.size,.ref (SQ h l1 l2 l3).objs.size] }
set_option maxHeartbeats 0 in
theorem F5 (l1 l2 l3:Addr) (xs ys zs:Array Value) :
  Meets (Builtin.«zip.__new__» ⟨[.type "zip",.ref l1,.ref l2,.ref l3],[]⟩) (λ_ R s=>s.heap.IsList l1 xs/\s.heap.IsList l2 ys/\s.heap.IsList l3 zs /\
   R (.ok (.ret (.ref (SO s.heap l1 l2 l3).objs.size))) { s with heap:=O7 s.heap l1 l2 l3 }) :=
 .of_wp λprog w A R s h=>by
  obtain ⟨hp,g,d,tk,os⟩:=s;obtain ⟨k1,k2,k3,h⟩:=h;have hsub:=sub_zip;have hL1:Heap.IsList (Shared.heap ⟨hp,g,d,tk,os⟩) l1 xs:=k1;have hL2:Heap.IsList (Shared.heap ⟨O8 hp l1,g,d,tk,os⟩) l2 ys:=Heap.IsList.push k2 _;have hL3:Heap.IsList (Shared.heap ⟨Q6 hp l1 l2,g,d,tk,os⟩) l3 zs:=Heap.IsList.push (Heap.IsList.push k3 _) _
  wp_walk using wpAny_pyIter_list hL1,wpAny_pyIter_list hL2,wpAny_pyIter_list hL3
  exact ⟨_,rfl,h⟩
theorem AF (a b c:Value):checkTypeCall "zip" ⟨[a,b,c],[]⟩=pure ():=by kernel_rfl
theorem De (a b c:Value):checkBuiltinCall "zip.__new__" ⟨[.type "zip",a,b,c],[]⟩=pure ():=by kernel_rfl
theorem GB (a b c d:Value):argsOk "object.__init__" ⟨[a,b,c,d],[]⟩:=by
 unfold argsOk;rw[signature?_of (id:="object.__init__") (n:=['_','_','t','i','n','i','_','_']) (o:=['t','c','e','j','b','o']) (by kernel_rfl) F.owner_object]
 kernel_rfl
theorem JW (g1:s.heap.IsList l1 xs) (g2:s.heap.IsList l2 ys) (g3:s.heap.IsList l3 zs)
  (h:∀h',IsZip h' (s.heap.objs.size+5) (s.heap.objs.size+3) (s.heap.objs.size+4) .none->kI h' (s.heap.objs.size+3) (.ref s.heap.objs.size) (.ref (s.heap.objs.size+1)) (.ref (s.heap.objs.size+2)) →
   kI h' (s.heap.objs.size+4) .none .none .none->h'.IsListIter s.heap.objs.size l1 0->h'.IsListIter (s.heap.objs.size+1) l2 0->h'.IsListIter (s.heap.objs.size+2) l3 0 →
   (∀d o,s.heap.get? d=some o->h'.get? d=some o)->Q (.ref (s.heap.objs.size+5)) { s with heap:=h' }) :
  wpAny (model prog w) A (call (.type "zip") [.ref l1,.ref l2,.ref l3]) Q E s:=by
 refine callType_new F.called_zip (by decide) (AF _ _ _) (De _ _ _) (λobj=>GB obj _ _ _) F.entry_zip_new (F5 l1 l2 l3 xs ys zs) ⟨g1,g2,g3,?_⟩;have p:∀{h:Heap} {o:Obj} {d:Addr} {q:Obj},h.get? d=some q->(h.push o).get? d=some q:=λe=>Heap.get?_push_of_some _ e
 have z1:(O8 s.heap l1).objs.size=s.heap.objs.size+1:=Heap.size_push ..;have z2:(Q6 s.heap l1 l2).objs.size=s.heap.objs.size+2:=by rw[Heap.size_push,z1]
 have z3:(SS s.heap l1 l2 l3).objs.size=s.heap.objs.size+3:=by rw[Heap.size_push,z2]
 have z4:(SQ s.heap l1 l2 l3).objs.size=s.heap.objs.size+4:=by rw[Heap.size_push,z3]
 have z5:(SO s.heap l1 l2 l3).objs.size=s.heap.objs.size+5:=by rw[Heap.size_push,z4]
 have q6:(O7 s.heap l1 l2 l3).get? (SO s.heap l1 l2 l3).objs.size=some _:=Heap.get?_push_size _ rfl;have q5:(O7 s.heap l1 l2 l3).get? (SQ s.heap l1 l2 l3).objs.size=some _:=p (Heap.get?_push_size _ rfl);have q4:(O7 s.heap l1 l2 l3).get? (SS s.heap l1 l2 l3).objs.size=some _:=p (p (Heap.get?_push_size _ rfl));have q3:(O7 s.heap l1 l2 l3).get? (Q6 s.heap l1 l2).objs.size=some _:=p (p (p (Heap.get?_push_size _ rfl)));have q2:(O7 s.heap l1 l2 l3).get? (O8 s.heap l1).objs.size=some _:=p (p (p (p (Heap.get?_push_size _ rfl))));have q1:(O7 s.heap l1 l2 l3).get? s.heap.objs.size=some _:=p (p (p (p (p (Heap.get?_push_size _ rfl)))));show _/\_
 rw[z3,z4,z5] at q6;rw[z4] at q5;rw[z1,z2,z3] at q4;rw[z2] at q3;rw[z1] at q2;rw[z5];exact ⟨⟨_,q6,rfl⟩,h _ q6 q4 q5 ⟨_,q1,rfl,rfl⟩ ⟨_,q2,rfl,rfl⟩ ⟨_,q3,rfl,rfl⟩ λd o e=>p (p (p (p (p (p e)))))⟩
end
def QT (K : FG9) (l1 l2 l3 : Addr) : It :=
  ⟨λi H => ∃ xs ys zs x y t, bE K H l1 xs /\ bE K H l2 ys /\ bE K H l3 zs /\ xs[i]? = some x /\ ys[i]? = some y /\ zs[i]? = some t,
   λi H v H' => ∃ p x y t, v = .ref p /\ H p = none /\ H' = upd H p (.tup [x, y, t]) /\ (∀ xs, bE K H l1 xs → xs[i]? = some x) /\ (∀ ys, bE K H l2 ys → ys[i]? = some y) /\ ∀ zs, bE K H l3 zs → zs[i]? = some t,
   λi H => ∃ xs ys zs, bE K H l1 xs /\ bE K H l2 ys /\ bE K H l3 zs /\ xs.length ≤ i⟩
def S5 (z TI TO i1 i2 i3 l1 l2 l3:Addr) (i:Nat) (h:Heap):Prop:=IsZip h z TI TO .none/\kI h TI (.ref i1) (.ref i2) (.ref i3)/\(∃a b c,kI h TO a b c)/\h.IsListIter i1 l1 i/\h.IsListIter i2 l2 i/\h.IsListIter i3 l3 i
theorem DY {z TI TO i1 i2 i3 l1 l2 l3:Addr} (hz:IsZip h z TI TO f0) (hTI:kI h TI (.ref i1) (.ref i2) (.ref i3)) (hTO:kI h TO a b c)
  (h1:h.IsListIter i1 l1 k1) (h2:h.IsListIter i2 l2 k2) (h3:h.IsListIter i3 l3 k3) (hl1:h.IsList l1 xs) (hl2:h.IsList l2 ys) (hl3:h.IsList l3 zs) (hT:TI≠TO) (h12:i1≠i2) (h13:i1≠i3) (h23:i2≠i3):Z3 z TI TO i1 i2 i3 l1 l2 l3:=by
 obtain ⟨o1,g1,c1,_⟩:=h1;obtain ⟨o2,g2,c2,_⟩:=h2;obtain ⟨o3,g3,c3,_⟩:=h3;have ne:∀{a b:Addr} {o u:Obj} {A B:String},h.get? a=some o->h.get? b=some u->o.cls=.type A->u.cls=.type B->A≠B->a≠b:=λha hb ca cb hn=>cX ha hb (by rw[ca,cb];exact kv hn)
 have li:∀{l:Addr} {ws:Array Value},h.IsList l ws->l∉[z,TO,i1,i2,i3]:=λhl=>by
  obtain ⟨p,q,d,_⟩:=hl;simp only[ay,aG,or_false,not_or];exact ⟨ne q hz d rfl (by decide),ne q hTO d rfl (by decide),ne q g1 d c1 (by decide),ne q g2 d c2 (by decide),ne q g3 d c3 (by decide)⟩
 refine ⟨?_,?_,li hl1,li hl2,li hl3⟩
 ·simp only[cR,ay,aG,or_false,not_or,jD,and_true,not_false_eq_true];exact ⟨⟨ne hz hTO rfl rfl (by decide),ne hz g1 rfl c1 (by decide),ne hz g2 rfl c2 (by decide),ne hz g3 rfl c3 (by decide)⟩,⟨ne hTO g1 rfl c1 (by decide),ne hTO g2 rfl c2 (by decide),ne hTO g3 rfl c3 (by decide)⟩,⟨h12,h13⟩,h23⟩
 ·simp only[ay,aG,or_false,not_or];exact ⟨ne hTI hz rfl rfl (by decide),hT,ne hTI g1 rfl c1 (by decide),ne hTI g2 rfl c2 (by decide),ne hTI g3 rfl c3 (by decide)⟩
theorem Jd {P:Program} {w:World} {K:FG9} {elts:List Expr} {kk:Nat} {tpos:Pos} (z TI TO i1 i2 i3 l1 l2 l3:Addr) (hT:TI≠TO) (h12:i1≠i2) (h13:i1≠i3) (h23:i2≠i3):Turn P w K (.Tuple elts kk tpos) (QT K l1 l2 l3) [z,TI,TO,i1,i2,i3] z (S5 z TI TO i1 i2 i3 l1 l2 l3) where
 mem:=by simp
 obj:=λi h st b hb=>by
  obtain ⟨hz,hTI,⟨a,c,e,hTO⟩,⟨o1,g1,c1,d1⟩,⟨o2,g2,c2,d2⟩,⟨o3,g3,c3,d3⟩⟩:=st;simp only[ay,aG,or_false] at hb;rcases hb with rfl | rfl | rfl | rfl | rfl | rfl
  ·exact ⟨_,hz,λv q=>nomatch q⟩
  ·exact ⟨_,hTI,λv q=>nomatch q⟩
  ·exact ⟨_,hTO,λv q=>nomatch q⟩
  ·exact ⟨o1,g1,λv q=>by rw[d1] at q;cases q⟩
  ·exact ⟨o2,g2,λv q=>by rw[d2] at q;cases q⟩
  ·exact ⟨o3,g3,λv q=>by rw[d3] at q;cases q⟩
 keep:=λi h h' st k=>by
  obtain ⟨hz,hTI,⟨a,c,e,hTO⟩,h1,h2,h3⟩:=st;exact ⟨k z (by simp) _ hz,k TI (by simp) _ hTI,⟨a,c,e,k TO (by simp) _ hTO⟩,h1.at λo e=>k i1 (by simp) o e,h2.at λo e=>k i2 (by simp) o e,h3.at λo e=>k i3 (by simp) o e⟩
 item:=by
  intro X hP hw hK hc i pins s σ H E I hf st hg;subst hP hw hK;obtain ⟨hz,hTI,⟨a,c,d,hTO⟩,h1,h2,h3⟩:=st;obtain ⟨xs,ys,zs,x,y,t,qx,qy,qz,ex,ey,ez⟩:=hg;obtain ⟨us,rx,px,_⟩:=I.list qx;obtain ⟨ws,ry,py,_⟩:=I.list qy;obtain ⟨ts,rz,pz,_⟩:=I.list qz;obtain ⟨u,eu,ru⟩:=rx.get ex;obtain ⟨v,ev,rv⟩:=ry.get ey;obtain ⟨t',et,rt⟩:=rz.get ez;have D:=DY hz hTI hTO h1 h2 h3 px.isList py.isList pz.isList hT h12 h13 h23;refine NL D hz hTI hTO h1 h2 h3 px.isList py.isList pz.isList (u:=u) (v:=v) (t:=t') (by simpa using eu) (by simpa using ev) (by simpa using et) λh' a1 a2 a3 a4 a5 a6 hk=>?_
  refine ⟨_,rfl,wpAny_letOwnedTupleGo_zip a1 λh'' hz'' hs=>?_⟩;have hT0:H s.heap.objs.size=none:=I.hok.fresh (aj _);have zne:s.heap.objs.size≠z:=mO (Heap.lt_size hz)
  have up:∀b o,b∉[z,TO,i1,i2,i3]->s.heap.get? b=some o->h''.get? b=some o:=λb o hb e=>by
   have:=hk b o hb e;exact (hs.2 b λq=>hb (by simp [q])).trans this
  have fx:∀b∈[z,TO,i1,i2,i3],jv X pins H b:=λb hb=>hf b (by
   simp only[ay,aG,or_false] at hb ⊢;rcases hb with rfl | rfl | rfl | rfl | rfl <;> simp)
  have nx:∀b o,H b=some o->b∉[z,TO,i1,i2,i3]:=λb o e hb=>by
   have:=(fx b hb).1;rw[this] at e;cases e
  have nT:∀{b:Addr} {o:HO},H b=some o->b≠s.heap.objs.size:=λe q=>by rw[q,hT0] at e;cases e
  have tup:h''.get? s.heap.objs.size=some { cls:=.type "tuple",data:=.seq #[u,v,t'] }:=(hs.2 _ zne).trans a6
  have I2:Inv X pins σ (upd H s.heap.objs.size (.tup [x,y,t])) { s with heap:=h'' }:=by
   refine I.step (g':=s.gens) (d':=s.drawn) (t':=s.toks) (ch:=[z,TO,i1,i2,i3]) (λb hb=>?_) (λb o _ _ hb e _=>up b o hb e) (λb o _ _ hb e _=>⟨o.slots,up b o hb e⟩) (λb o hb e n=>?_)
    (λb o hb e=>⟨o,up b o hb e⟩) (λb q e=>by rw[aU (nT e)];exact e) (λb o q e=>by rw[aU (nT e)];exact e) (λb q e=>⟨#[],by rw[aU (nT e),e];simp⟩) (λm hm=>?_) (λb o e=>?_) I.bare
   ·obtain ⟨_,f1,_,f3,f4,f5⟩:=fx b hb;exact ⟨f3,f1,f4,f5⟩
   ·rw[aU (bN (Heap.lt_size e))];exact n
   ·obtain ⟨o,es,ep,ho,r⟩:=hm;exact ⟨o,es,ep,up _ o (λz=>(fx _ z).2.1 rfl) ho,r⟩
   ·by_cases hb:b=s.heap.objs.size
    ·subst hb;rw[aH] at e;cases e;exact ⟨il rfl,[u,v,t'],.cons ru (.cons rv (.cons rt .nil)),⟨_,tup,rfl,_,rfl⟩⟩
    ·rw[aU hb] at e;refine (I.hok b o e).stay (λc v' hc q=>up c v' ?_ q) (λc q=>by rw[aU (nT q)];exact q) λc xs q=>by rw[aU (nT q)];exact q
     rcases hc with rfl | hc
     ·exact nx _ _ e
     ·exact nx _ _ hc
  refine ⟨.ref s.heap.objs.size,_,I2,rfl,⟨_,x,y,t,rfl,hT0,rfl,λxs' q=>by rw[I.list_inj q qx];exact ex,λys' q=>by rw[I.list_inj q qy];exact ey,λzs' q=>by rw[I.list_inj q qz];exact ez⟩,?_,λb hb=>?_⟩
  ·have nd:=D.nd;simp only[cR,ay,aG,or_false,not_or,jD,and_true,not_false_eq_true] at nd;obtain ⟨⟨zT,z1,z2,z3⟩,_⟩:=nd;exact ⟨hz'',up _ _ D.ti hTI,⟨_,_,_,(hs.2 _ (Ne.symm zT)).trans a2⟩,a3.at λo e=>(hs.2 _ (Ne.symm z1)).trans e,a4.at λo e=>(hs.2 _ (Ne.symm z2)).trans e,a5.at λo e=>(hs.2 _ (Ne.symm z3)).trans e⟩
  ·obtain ⟨o,e,_⟩:∃o,s.heap.get? b=some o/\True:=by
    obtain ⟨o1,g1,_⟩:=h1;obtain ⟨o2,g2,_⟩:=h2;obtain ⟨o3,g3,_⟩:=h3;simp only[ay,aG,or_false] at hb;rcases hb with rfl | rfl | rfl | rfl | rfl | rfl
    ·exact ⟨_,hz,trivial⟩
    ·exact ⟨_,hTI,trivial⟩
    ·exact ⟨_,hTO,trivial⟩
    ·exact ⟨_,g1,trivial⟩
    ·exact ⟨_,g2,trivial⟩
    ·exact ⟨_,g3,trivial⟩
   rw[aU (bN (Heap.lt_size e))];exact (hf b hb).1
 done:=by
  intro X hP hw hK hc i pins s σ H E I hf st hg;subst hP hw hK;obtain ⟨hz,hTI,⟨a,c,d,hTO⟩,h1,h2,h3⟩:=st;obtain ⟨xs,ys,zs,qx,qy,qz,hend⟩:=hg;obtain ⟨us,rx,px,_⟩:=I.list qx;obtain ⟨ws,ry,py,_⟩:=I.list qy;obtain ⟨ts,rz,pz,_⟩:=I.list qz;have lx:=rx.length;have D:=DY hz hTI hTO h1 h2 h3 px.isList py.isList pz.isList hT h12 h13 h23;refine EH (I.ok.hd hc) D hz hTI h1 px.isList (by simp;lia) λh' hk=>⟨rfl,?_⟩
  have fx:∀b∈[z,TO,i1,i2,i3],jv X pins H b:=λb hb=>hf b (by
   simp only[ay,aG,or_false] at hb ⊢;rcases hb with rfl | rfl | rfl | rfl | rfl <;> simp)
  have nx:∀b o,H b=some o->b∉[z,TO,i1,i2,i3]:=λb o e hb=>by
   have:=(fx b hb).1;rw[this] at e;cases e
  refine I.step (g':=s.gens) (d':=s.drawn) (t':=s.toks) (ch:=[z,TO,i1,i2,i3]) (λb hb=>?_) (λb o _ _ hb e _=>hk b o hb e) (λb o _ _ hb e _=>⟨o.slots,hk b o hb e⟩) (λb o hb e n=>n)
   (λb o hb e=>⟨o,hk b o hb e⟩) (λb q e=>e) (λb o q e=>e) (λb q e=>⟨#[],by rw[e];simp⟩) (λm hm=>?_) (λb o e=>?_) I.bare
  ·obtain ⟨_,f1,_,f3,f4,f5⟩:=fx b hb;exact ⟨f3,f1,f4,f5⟩
  ·obtain ⟨o,es,ep,ho,r⟩:=hm;exact ⟨o,es,ep,hk _ o (λz=>(fx _ z).2.1 rfl) ho,r⟩
  ·refine (I.hok b o e).stay (λc v' hc q=>hk c v' ?_ q) (λc q=>q) λc xs q=>q
   rcases hc with rfl | hc
   ·exact nx _ _ e
   ·exact nx _ _ hc
 self:=λ_ _ _ _ _ st h=>wpAny_pyIter_zip st.1 h
def OQ (K:FG9) (ta:TA):TI:=λσ H R=>ta σ H λvs H1=>∃l1 l2 l3,vs=[.ref l1,.ref l2,.ref l3]/\(∃xs,bE K H1 l1 xs)/\(∃ys,bE K H1 l2 ys)/\(∃zs,bE K H1 l3 zs)/\R (QT K l1 l2 l3) H1
theorem Ny {X:Cx} {a b c:Expr} {ta:TA} {p pos tpos:Pos} {elts:List Expr} {kk:Nat} (hg:Gl X "zip") (hm:X.mg "zip"=none) (ha:PA X [a,b,c] ta) (hs:starEach [a,b,c] X.env=[(false,eval a X.env),(false,eval b X.env),(false,eval c X.env)]:=by rfl) (hs2:starEach [b,c] X.env=[(false,eval b X.env),(false,eval c X.env)]:=by rfl) :
  PI X (.Tuple elts kk tpos) (.Call (.Name "zip" p) [a,b,c] [] pos) (OQ X.K ta):=by
 intro pins s σ H R I h;refine Call_ (jR I hg hm boot_zip (PyProof.Rows.callWith_type1 (fz (ha pos pins s σ H _ I h) λus s1 ⟨vs,H1,I1,r1,q1⟩=>?_) (by rw[hs,hs2]) (by rw[hs2];rfl)));obtain ⟨l1,l2,l3,e,⟨xs,qx⟩,⟨ys,qy⟩,⟨zs,qz⟩,q⟩:=q1;subst e;obtain ⟨u,v,t,rfl,ru,rv,rt⟩:=vals3 r1;cases ru;cases rv;cases rt;obtain ⟨us,rx,px,_⟩:=I1.list qx;obtain ⟨ws,ry,py,_⟩:=I1.list qy;obtain ⟨ts,rz,pz,_⟩:=I1.list qz;refine JW px.isList py.isList pz.isList λh' a1 a2 a3 a4 a5 a6 hk=>wpAny_pyIter_zip a1 ?_
 have I2:Inv X pins σ H1 { s1 with heap:=h' }:=I1.kept (t':=s1.toks) hk;have lt:∀{i j:Nat},i < j->s1.heap.objs.size+i≠s1.heap.objs.size+j:=λh e=>bN h (Nat.add_left_cancel e)
 refine ⟨_,[s1.heap.objs.size+5,s1.heap.objs.size+3,s1.heap.objs.size+4,s1.heap.objs.size,s1.heap.objs.size+1,s1.heap.objs.size+2],_,_,H1,rfl,I2,Jd (s1.heap.objs.size+5) (s1.heap.objs.size+3) (s1.heap.objs.size+4) s1.heap.objs.size (s1.heap.objs.size+1) (s1.heap.objs.size+2) l1 l2 l3 (lt (by decide)) (lt (i:=0) (by decide)) (lt (i:=0) (by decide)) (lt (by decide)),⟨a1,a2,⟨_,_,_,a3⟩,a4,a5,a6⟩,λb hb=>?_,q⟩
 have hb':s1.heap.objs.size<=b:=by
  simp only[ay,aG,or_false] at hb;rcases hb with rfl | rfl | rfl | rfl | rfl | rfl <;> first | exact ot _ _ | exact aj _
 exact I1.fpOk hb' (I1.hok.fresh hb')
theorem JT {K:FG9} {g:TG} (Pv:Nat->List V->Hp->Prop) (hz:xs.length<=sizeLine) (hw:ws.length=xs.length) (hv:zs.length=xs.length) (h0:Pv 0 [] H) (hl:∀i ys H,i<=xs.length->Pv i ys H->bE K H l1 xs/\bE K H l2 ws/\bE K H l3 zs)
  (hs:∀i x y t ys H p,xs[i]?=some x->ws[i]?=some y->zs[i]?=some t->ys.length<=i->Pv i ys H->H p=none->qv σ₀ g tf te (.ref p) (upd H p (.tup [x,y,t])) (λy H'=>Pv (i+1) (ys++[y]) H') (λH'=>Pv (i+1) ys H'))
  (hd:∀ys H,ys.length<=xs.length->Pv xs.length ys H->∀p,H p=none->Q (.ref p) (upd H p (.lst ys))):rP (QT K l1 l2 l3) σ₀ g tf te Q H:=by
 refine ⟨λi m ys H=>m=xs.length - i/\i<=xs.length/\ys.length<=i/\Pv i ys H,⟨xs.length,by simp,aW _,aW _,h0⟩,?_⟩;rintro i m ys H ⟨rfl,hi,hy,p⟩;obtain ⟨q1,q2,q3⟩:=hl i ys H hi p;by_cases hlt:i < xs.length
 ·refine .inr ⟨⟨xs,ws,zs,xs[i],ws[i]'(by lia),zs[i]'(by lia),q1,q2,q3,by simp [hlt],by simp,by simp⟩,by lia,λy H'=>Pv (i+1) (ys++[y]) H',λH'=>Pv (i+1) ys H',λy H' p'=>⟨xs.length - (i+1),by lia,rfl,hlt,by rw[au,aV];lia,p'⟩,λH' p'=>⟨xs.length - (i+1),by lia,rfl,hlt,by lia,p'⟩,λx H' y=>?_⟩;obtain ⟨r,x',y',t',rfl,hr,rfl,e1,e2,e3⟩:=y;exact hs i x' y' t' ys _ r (e1 xs q1) (e2 ws q2) (e3 zs q3) hy p hr
 ·have e:i=xs.length:=by lia
  subst e;exact .inl ⟨⟨xs,ws,zs,q1,q2,q3,aj _⟩,by lia,hd ys H hy p⟩
def Kx (K:FG9) (C S:Addr) (f:Str):Sp:=λvs H Q _=>∃e y,vs=[.ref e,y]/\H e=some (Gs e (.ref C) none)/\∀dx,H dx=none->dx≠e->Q .non (upd (upd H dx (.xd [(f,y)])) e (Gs e (.ref C) (some dx)))
theorem Er (hn:H e=none) (s:aI H H1) (hd:H1 dx=none):aI H (yb (upd (upd (upd H1 e u) dx o) e u') e):=λb w q=>by
 have be:b≠e:=λz=>by rw[z,hn] at q;cases q
 have bd:b≠dx:=λz=>by have:=s _ _ q;rw[z,hd] at this;cases this
 rw[rh be,aU be,aU bd,aU be];exact s _ _ q
inductive Kw (K:FG9) (C Cn:Addr) (vs:List V) (H:Hp) (Q:VK) (E:XK):Prop
 | mk (x:Addr) (a c:Nat) (H0:Hp) (mv pt lk:LR9):vs=[.ref x]->kH K H0 H C x mv pt lk->gF mv pt lk->lZ mv pt a c->(∀R ps,bX (jw mv pt mv.length) mv.length R ps->(∃w,A2 R mv.length w)/\∀xs∈R,∀x∈xs,j4 x)->(∀R ps H',aI H H'->bX (jw mv pt mv.length) mv.length R ps->ps.length=mv.length->Q .non H')->(∀R ps r dx H',bX (jw mv pt mv.length) mv.length R ps->ps.length < mv.length->aI H H'->H r=none->cP K H' r ((ig R ps mv.length).getD 0 [])->H' dx=some (.xd [("price",.ref r)])->E (.ref Cn) (some dx) H')->Kw K C Cn vs H Q E
theorem KN (RR:bX rows n R ps):ps.length<=n:=by
 have inc:∀j,j < ps.length->j<=ps.getD j 0:=by
  intro j
  induction j with
  | zero=>intro _;exact aW _
  | succ j ih =>
   intro hj;have:=ih (by lia);have:=RR.2.2.inc j (j+1) (by lia) hj
   lia
 rcases dg ps.length with z | z
 ·lia
 ·have h1:=inc (ps.length - 1) (by lia);have h2:=RR.2.2.low (ps.length - 1) (by lia)
  lia
theorem JB (h:ps.length < n):0 < (ig R ps n).length:=by
 unfold ig;rw[ah];refine Nat.pos_of_ne_zero λz=>?_
 have e:Fm ps n=[]:=List.length_eq_zero_iff.mp z
 have all:∀c,c < n->c∈ps:=λc hc=>Classical.byContradiction λq=>by
  have:=Dt.mpr ⟨hc,q⟩;rw[e] at this;cases this
 have:∀(k:Nat) (qs:List Nat),qs.length < k->∃c,c < k/\c∉qs:=by
  intro k
  induction k with
  | zero=>exact λqs h=>absurd h (cQ _)
  | succ k ih =>
   intro qs h;by_cases hk:k∈qs
   ·obtain ⟨c,hc,hn⟩:=ih (qs.erase k) (by rw[List.length_erase_of_mem hk];have:=yt hk;lia);exact ⟨c,by lia,λz=>hn ((List.mem_erase_of_ne (by lia)).mpr z)⟩
   ·exact ⟨k,fL _,hk⟩
 obtain ⟨c,hc,hn⟩:=this n ps h;exact hn (all c hc)
def Ms (xs:List Rat):Prop:=∃M,Fd M (xs.map nm)
theorem KH (h0:0 < M) (h1:M<=2^215000) (h2:W<=2^215000) (h:∀x∈xs,Tp M W x):Ms xs:=by
 refine ⟨M,by lia,?_,λy hy=>?_⟩
 ·show ((M:Nat):Int).natAbs < 2^220000
  rw[dj];exact bc h1 (df (by decide) (by decide))
 ·obtain ⟨x,hx',rfl⟩:=ax.mp hy;have t:=h x hx';refine ⟨ij x,sZ t,?_⟩;obtain ⟨s,e,b⟩:=yw t h0 (ij x) (Jb _) (sZ t);have e2:(((nm x).1:Int):Rat)=(s:Rat):=by rw[<- e];exact mH x
  rw[dD.mp e2];exact bc (ag b h2) (df (by decide) (by decide))
inductive HF (K:FG9) (vs:List V) (H:Hp) (Q:VK) (E9:XK):Prop
 | mk (p q:Addr) (xs ys:List Rat):vs=[.ref p,.ref q]->cP K H p xs->cP K H q ys->ys.length=xs.length->xs.length<=1000->Ms xs/\Ms ys->(∀r H',aI H H'->cA K H' (eT xs ys) (.ref r)->Q (.ref r) H')->HF K vs H Q E9
inductive Hy (K:FG9) (vs:List V) (H:Hp) (Q:VK) (E9:XK):Prop
 | mk (p q:Addr) (H0:Hp) (rows:LR9) (ys:List Rat):vs=[.ref p,.ref q]->bG K H0 H p rows->cP K H q ys->rows.length<=1000->ys.length<=1000->((∀xs∈rows,xs.length=ys.length/\(Ms xs/\Ms ys)))->(∀r H',H r=none->aI H H'->cP K H' r (rows.map λxs=>eT xs ys)->Q (.ref r) H')->Hy K vs H Q E9
inductive yI (K:FG9) (vs:List V) (H:Hp) (Q:VK) (E9:XK):Prop
 | mk (p q:Addr) (w:Nat) (H0 H1:Hp) (one other:LR9):vs=[.ref p,.ref q,.int w]->bG K H0 H p one->bG K H1 H q other->one.length<=1000->other.length<=1000->w<=1000->((∀xs∈one,xs.length=other.length/\∀ys∈cm other w,Ms ys/\Ms xs))->(∀xs∈other,xs.length=w)->(∀r H',H r=none->aI H H'->bG K H H' r (gH one other w)->Q (.ref r) H')->yI K vs H Q E9
inductive Bl (K:FG9) (C:Addr) (vs:List V) (H:Hp) (Q:VK) (E9:XK):Prop
 | mk (x p:Addr) (H0 H1:Hp) (mv pt lk N:LR9):vs=[.ref x,.ref p]->kH K H0 H C x mv pt lk->gF mv pt lk->bG K H1 H p N->N.length<=100->((∀xs∈N,xs.length=mv.length/\∀ys∈cm mv mv.length,Ms ys/\Ms xs))->(∀r H',H r=none->aI H H'->bG K H H' r (gH N mv mv.length)->Q (.ref r) H')->Bl K C vs H Q E9
def SI (K:FG9) (a:Addr) (n:Nat):It :=
 ⟨λi H=>i < n/\∃xs x,bE K H a xs/\xs[n - 1 - i]?=some x,λi H x H'=>H'=H/\∀xs,bE K H a xs->xs[n - 1 - i]?=some x,λi _=>n<=i⟩
theorem Kn {P:Program} {w:World} {K:FG9} {tg:Expr} (a it:Addr) (n:Nat):Turn P w K tg (SI K a n) [it] it (λi h=>i<=n/\h.IsRevIter it a ((n:Int) - 1 - (i:Nat))) where
 mem:=by simp
 obj:=λi h st b hb=>by
  have e:b=it:=by simpa using hb
  subst e;obtain ⟨_,o,e,c,d⟩:=st;exact ⟨o,e,λv z=>by rw[d] at z;cases z⟩
 keep:=λi h h' st k=>⟨st.1,st.2.at λo e=>k it (by simp) o e⟩
 item:=by
  intro X hP hw hK hc i pins s σ H E I hf st hg;subst hP hw hK;obtain ⟨hi,xs,x,hq,hx⟩:=hg;obtain ⟨its,rv,p,hz⟩:=I.list hq;obtain ⟨u,hu,ru⟩:=rv.get hx;obtain ⟨f0,f1,f2,f3,f4,f5⟩:=hf it (by simp);have st2:=st.2;rw[show (n:Int) - 1 - (i:Nat)=((n - 1 - i:Nat):Int) by lia] at st2;refine wpAny_pyNext_rev_item st2 p.isList (x:=u) (by simpa using hu) λh' st' sb=>?_
  have I1:Inv X pins σ H { s with heap:=h' }:=I.turned (t':=s.toks) (λb o hb e=>(sb.2 b hb).trans e) f0 f1 f3 f4 f5;rw[show ((n - 1 - i:Nat):Int) - 1=(n:Int) - 1 - ((i+1:Nat):Int) by lia] at st';obtain ⟨o,e,c,d⟩:=id st';exact ⟨u,rfl,Ie (s:={ s with heap:=h' }) e c d (by decide) ⟨x,H,I1,ru,⟨rfl,λys hy=>by rw[I.list_inj hy hq];exact hx⟩,⟨hi,st'⟩,λb hb=>(hf b hb).1⟩⟩
 done:=by
  intro X hP hw hK hc i pins s σ H E I hf st hg;subst hP hw hK;obtain ⟨f0,f1,f2,f3,f4,f5⟩:=hf it (by simp);have st2:=st.2;have:n<=i:=hg;have:=st.1;rw[show (n:Int) - 1 - (i:Nat)=-1 by lia] at st2;exact wpAny_pyNext_rev_end (I.ok.hd hc) st2 λh' eb=>⟨rfl,I.turned (t':=s.toks) (λb o hb e=>eb b o hb e) f0 f1 f3 f4 f5⟩
 self:=λ_ _ _ _ _ st h=>wpAny_pyIter_revIter st.2 h
def Sh (K:FG9) (ta:TA):TI:=λσ H R=>ta σ H λvs H1=>∃l xs,vs=[.ref l]/\bE K H1 l xs/\R (SI K l xs.length) H1
theorem Qc {X:Cx} {e1:Expr} {ta:TA} {p pos:Pos} {tg:Expr} (hg:Gl X "reversed") (hm:X.mg "reversed"=none) (ha:PA X [e1] ta) (hs:starEach [e1] X.env=[(false,eval e1 X.env)]:=by rfl) :
  PI X tg (.Call (.Name "reversed" p) [e1] [] pos) (Sh X.K ta):=by
 intro pins s σ H R I h;refine Call_ (jR I hg hm boot_reversed (PyProof.Rows.callWith_type1 (fz (ha pos pins s σ H _ I h) λus s1 ⟨vs,H1,I1,r1,q1⟩=>?_) hs rfl));obtain ⟨l,xs,e,qx,q⟩:=q1;subst e;obtain ⟨u,rfl,ru⟩:=vals1 r1;cases ru;obtain ⟨us,rx,px,_⟩:=I1.list qx;have lx:=rx.length;have kp:∀b o,s1.heap.get? b=some o->(s1.heap.push (revObj l ((us.toArray.size:Int) - 1))).get? b=some o:=λb o e=>Heap.get?_push_of_some _ e
 have st:(s1.heap.push (revObj l ((us.toArray.size:Int) - 1))).IsRevIter s1.heap.objs.size l ((us.toArray.size:Int) - 1):=⟨_,Heap.get?_push_size _ rfl,rfl,rfl⟩;refine call_reversed_list px.isList (wpAny_pyIter_revIter st ?_);have I2:Inv X pins σ H1 { s1 with heap:=s1.heap.push (revObj l ((us.toArray.size:Int) - 1)) }:=I1.kept (t':=s1.toks) kp;refine ⟨_,[s1.heap.objs.size],_,_,H1,rfl,I2,Kn l s1.heap.objs.size xs.length,⟨aW _,?_⟩,λb hb=>?_,q⟩
 ·have e:((us.toArray.size:Int) - 1)=(xs.length:Int) - 1 - ((0:Nat):Int):=by rw[aZ];lia
  rw[<- e];exact st
 ·have hb':b=s1.heap.objs.size:=by simpa using hb
  subst hb';exact I1.fpOk (aj _) (I1.hok.fresh (aj _))
theorem NW {K:FG9} {g:TG} {tb:TS} {D:Ends} (Pv:Nat->St->Hp->Prop) (h0:Pv 0 σ H) (hl:∀i σ H,i<=xs.length->Pv i σ H->bE K H a xs)
  (hs:∀i x σ H,i < xs.length->xs[xs.length - 1 - i]?=some x->Pv i σ H->g x σ H λσ2 H2=>tb { D with nx:=Pv (i+1),ct:=Pv (i+1),bk:=D.nx } σ2 H2) (hd:∀σ H,Pv xs.length σ H->D.nx σ H) :
  ∃W:Nat->Nat->St->Hp->Prop,(∃m,W 0 m σ H)/\∀i m σ H,W i m σ H →
   ((SI K a xs.length).stop i H/\D.nx σ H)\/((SI K a xs.length).go i H/\∃N:St->Hp->Prop,(∀σ' H',N σ' H'->∃m',m' < m/\W (i+1) m' σ' H')/\∀x H',(SI K a xs.length).yld i H x H'->g x σ H' λσ2 H2=>tb { D with nx:=N,ct:=N,bk:=D.nx } σ2 H2):=by
 refine ⟨λi m σ H=>m=xs.length - i/\i<=xs.length/\Pv i σ H,⟨xs.length,by simp,aW _,h0⟩,?_⟩;rintro i m σ H ⟨rfl,hi,p⟩;have q:=hl i σ H hi p;by_cases hlt:i < xs.length
 ·refine .inr ⟨⟨hlt,xs,xs[xs.length - 1 - i]'(by lia),q,af _⟩,Pv (i+1),λσ' H' p'=>⟨xs.length - (i+1),by lia,rfl,hlt,p'⟩,λx H' y=>?_⟩;obtain ⟨rfl,e⟩:=y;exact hs i x σ _ hlt (e xs q) p
 ·have e:i=xs.length:=by lia
  subst e;exact .inl ⟨aj _,hd σ H p⟩
def Cz (mv:LR9) (x:List Rat):List Rat:=(cm mv mv.length).map λys=>eT ys x
def vA (mv:LR9) (row wish:List Rat):Nat->List Rat
 | 0=>row
 | k+1=>List.zipWith (λx y=>x - y) (Cz mv (vA mv row wish k)) (row.map λy=>wish.getD (wish.length - 1 - k) 0*y)
theorem Cy:(Cz mv x).length=mv.length:=by unfold Cz;rw[ah,iK]
theorem wH {mv:LR9} {row wish:List Rat} (h:row.length=mv.length):∀k,(vA mv row wish k).length=mv.length
 | 0=>h
 | k+1=>by
  show (List.zipWith _ _ _).length=_
  rw[aP,Cy,ah,h,yr]
structure Tv (mv:LR9) (row wish:List Rat):Prop where
 col:∀ys∈cm mv mv.length,Ms ys
 rw:∀k,k < wish.length->Ms (vA mv row wish k)
 tk:∀k,k < wish.length->∀z∈Cz mv (vA mv row wish k),j4 z
 rz:∀z∈row,j4 z
 ws:∀z∈wish,j4 z
 mul:∀a∈wish,∀z∈row,j4 (a*z)
inductive Eh (K:FG9) (C:Addr) (vs:List V) (H:Hp) (Q:VK) (E9:XK):Prop
 | mk (x p q:Addr) (H0:Hp) (mv pt lk:LR9) (row wish:List Rat):vs=[.ref x,.ref p,.ref q]->kH K H0 H C x mv pt lk->gF mv pt lk->cP K H p row->row.length=mv.length->cP K H q wish->wish.length<=100->Tv mv row wish->(∀r H',aI H H'->cP K H' r (vA mv row wish wish.length)->Q (.ref r) H')->Eh K C vs H Q E9
structure Tu (mv pt lk F:LR9):Prop where
 f2:∀xs∈cm pt mv.length,∀ys∈cm F mv.length,vw ys xs
 sm:∀line∈mv,∀x∈line,j4 x
 st:∀more∈gH (cm pt mv.length) F mv.length,∀x∈more,j4 x
 ok:Kf (fw mv pt F)/\Kf pt/\Kf lk
inductive yK (K:FG9) (C:Addr) (vs:List V) (H:Hp) (Q:VK) (E9:XK):Prop
 | mk (x p:Addr) (H0 H1:Hp) (mv pt lk F:LR9):vs=[.ref x,.ref p]->kH K H0 H C x mv pt lk->gF mv pt lk->bG K H1 H p F->F.length=pt.length->(∀xs∈F,xs.length=mv.length)->Tu mv pt lk F->(∀r H',H r=none->aI H H'->kH K H H' C r (fw mv pt F) pt lk->Q (.ref r) H')->yK K C vs H Q E9
def jm (sts gv:LR9) (n:Nat):LR9:=(List.range (n+1)).map λj=>sts.getD j []++gv.getD j []++[if j=n then 1 else 0]
def fR (R:LR9) (n i:Nat):LR9:=cm (R.map (·.drop n)) (i+1)
structure Tq (mv pt lk:LR9) (wish:List Rat) (pu:List Rat) (R:LR9):Prop where
 cl:Tu mv pt lk ((fR R mv.length pt.length).take pt.length)
 am:Tv (fw mv pt ((fR R mv.length pt.length).take pt.length)) ((fR R mv.length pt.length).getD pt.length []) wish
 rz:∀xs∈(fR R mv.length pt.length).take pt.length,∀z∈xs,j4 z
 mz:∀z∈vA (fw mv pt ((fR R mv.length pt.length).take pt.length)) ((fR R mv.length pt.length).getD pt.length []) wish wish.length,j4 z/\∀b∈pu,j4 (b*z)
 gz:∃M N,0 < M/\M<=2^3000/\0 < N/\N<=2^3000/\(∀xs∈(fR R mv.length pt.length).take pt.length,∀z∈xs,Fr M (2^3000) z)/\∀z∈vA (fw mv pt ((fR R mv.length pt.length).take pt.length)) ((fR R mv.length pt.length).getD pt.length []) wish wish.length,Fr N (2^3000) z
def QM (mv pt lk:LR9) (wish:List Rat):Prop:=∀sts pus,Fo mv pt sts pus->pus.length=mv.length->(∀pu∈pus,∀z∈pu,z=(0:Rat)\/z=1)->∃w,A2 ((jm sts (pus++[List.replicate pt.length 0]) mv.length).drop 1) (mv.length+pt.length+1) w/\∀R ps,bX ((jm sts (pus++[List.replicate pt.length 0]) mv.length).drop 1) (mv.length+pt.length+1) R ps->ps.length=mv.length->Tq mv pt lk wish ((pus++[List.replicate pt.length 0]).getD 0 []) R
def SG (mv pt:LR9) (wish:List Rat) (G:LR9):Prop:=(∀x:List Rat,x.length=mv.length->∀c,(dH (fw mv pt G) mv.length x).getD c 0=aS mv.length λi=>wish.getD i 0*(dH (fw mv pt G) i x).getD c 0)/\∃N,0 < N/\N<=2^6000/\∀xs∈G,∀z∈xs,Fr N (2^3001) z
inductive D6 (K:FG9) (C Cn:Addr) (vs:List V) (H:Hp) (Q:VK) (E:XK):Prop
 | mk (x q:Addr) (a c:Nat) (H0:Hp) (mv pt lk:LR9) (wish:List Rat):vs=[.ref x,.ref q]->kH K H0 H C x mv pt lk->gF mv pt lk->MB mv pt lk->lZ mv pt a c->(∀R ps,bX (jw mv pt mv.length) mv.length R ps->(∃w,A2 R mv.length w)/\∀xs∈R,∀x∈xs,j4 x)->Oq mv pt->QM mv pt lk wish->cP K H q wish->wish.length=mv.length->(∀R ps r G H',aI H H'->bX (jw mv pt mv.length) mv.length R ps->ps.length=mv.length->H r=none->bG K H H' r G->G.length=pt.length->(∀xs∈G,xs.length=mv.length)->SG mv pt wish G->Q (.ref r) H')->(∀R ps r dx H',bX (jw mv pt mv.length) mv.length R ps->ps.length < mv.length->aI H H'->H r=none->cP K H' r ((ig R ps mv.length).getD 0 [])->H' dx=some (.xd [("price",.ref r)])->E (.ref Cn) (some dx) H')->D6 K C Cn vs H Q E
theorem Mi (h:xs.length=k+1):nW xs none (some (-1))=xs.take k:=by
 unfold nW
 have e:HT.CY xs.length xs.length (some (-1))=k:=by
  show (if (-1:Int) < 0 then ((-1:Int)+(xs.length:Int)).toNat else min (-1:Int).toNat xs.length)=k
  rw[if_pos (by decide),h]
  lia
 rw[e,HT.qS,List.drop_zero,Nat.sub_zero]
theorem Pn (h:z=0\/z=1):j4 z:=by
 rcases h with rfl | rfl
 ·exact yx
 ·exact kl (M:=1) (W:=1) ⟨1,by rw[show ((1:Nat):Rat)=1 from rfl,show ((1:Int):Rat)=1 from rfl];grind,by decide⟩ (by decide) b8 b8
theorem Gz {mv pt sts pus:LR9} {M1 M2 V1 B:Nat} (gm:GF M1 V1 mv) (gp:GF M2 V1 pt) (hB:(mv.length+pt.length)*V1<=B) (B1:1<=B) (C:Fo mv pt sts pus) (z01:∀pu∈pus,∀z∈pu,z=(0:Rat)\/z=1):∀j,j < sts.length->∀c,Fr (M1^j*M2) (B^j) (bC sts j c)
 | 0,_,c=>by rw[C.zero c];exact Fr.zero
 | j+1,hj,c=>by
  have hj':j < pus.length:=by have:=C.len;lia
  rw[C.step j hj' c];have ih:=Gz gm gp hB B1 C z01 j (by lia)
  have f1:Fr (M1^(j+1)*M2) (mv.length*(V1*B^j)) (aS mv.length λi=>bC mv c i*bC sts j i):=yg _ λi _=>by
   have:=(zS (i:=c) (j:=i) gm).mul (ih i);rw[show M1*(M1^j*M2)=M1^(j+1)*M2 by rw[cY,<- cC,bH M1 (M1^j)]] at this;exact this
  have f2:Fr (M1^(j+1)*M2) (pt.length*V1) (aS pt.length λl=>bC pus j l*bC pt l c):=yg _ λl _=>by
   have hz:bC pus j l=0\/bC pus j l=1:=by
    unfold bC;rw[aa (l:=pus),af hj'];show (pus[j]).getD l 0=0\/(pus[j]).getD l 0=1
    rw[aa];cases e:(pus[j])[l]? with
    | none=>exact .inl rfl
    | some z=>exact z01 _ (aB hj') z (ak e)
   rcases hz with z | z
   ·rw[z,show (0:Rat)*bC pt l c=0 by grind];exact Fr.zero
   ·rw[z,show (1:Rat)*bC pt l c=bC pt l c by grind];exact (zS gp).scaleL (M1^(j+1))
  refine (f1.add f2).mono ?_;have b1:1<=B^j:=Nat.one_le_pow _ _ B1
  have e1:mv.length*(V1*B^j)+pt.length*V1<=(mv.length+pt.length)*V1*B^j:=by
   rw[Cq,Cq,cC mv.length];exact Nat.add_le_add_left (dM _ b1) _
  rw[cY,bH (B^j) B];exact ag e1 (aw _ hB)
section
variable {mv pt lk sts pus:LR9} {M1 M2 V1 B a b:Nat}
theorem IE (D:gF mv pt lk) (m1:0 < M1) (m2:0 < M2) (gm:GF M1 V1 mv) (gp:GF M2 V1 pt) (v1:1<=V1) (hB:(mv.length+pt.length)*V1<=B) (ha:M1^mv.length*M2<=2^a) (hb:B^mv.length<=2^b) (f1:(a+a)+(b+b)<=196500) (a15:a<=1500) (b18:b<=1800) (f2:8*(a+b+4)<=445000):Oq mv pt:=by
 intro sts pus C z01 hk;have d8:=D.n8;have n1:1<=mv.length:=by lia
 have B1:V1<=B:=ag (cH _ (by lia)) hB;have B0:1<=B:=ag v1 B1;have lC:=C.len;have fr:=Gz gm gp hB B0 C z01;have pM:∀j,j<=mv.length->∃q,0 < q/\M1^mv.length*M2=q*(M1^j*M2):=λj hj=>⟨M1^(mv.length - j),jC m1,by rw[<- cC,<- bh,Fs hj]⟩
 have pB:∀j,j<=mv.length->B^j<=B^mv.length:=λj hj=>av B0 hj
 have up:∀{j:Nat} {V':Nat} {x:Rat},j<=mv.length->Fr (M1^j*M2) V' x->V'<=B^mv.length->Fr (M1^mv.length*M2) (B^mv.length) x:=λ{j V' x} hj h hv=>by
  obtain ⟨q,_,e⟩:=pM j hj;rw[e];exact (h.scaleL q).mono hv
 have M0:0 < M1^mv.length*M2:=cv (jC m1) m2;have st:∀j,j < sts.length->∀c,Fr (M1^mv.length*M2) (B^mv.length) (bC sts j c):=λj hj c=>up (by lia) (fr j hj c) (pB j (by lia))
 have lst:∀x∈sts.getD pus.length [],Fr (M1^mv.length*M2) (B^mv.length) x:=λx hx=>by
  obtain ⟨c,hc,rfl⟩:=bO hx;have:=st pus.length (by lia) c;unfold bC at this;rw[aa (l:=sts.getD pus.length []),af hc] at this;exact this
 have gmv:∀xs∈mv,∀x∈xs,Fr (M1^mv.length*M2) (B^mv.length) x:=λxs hx x hx'=>by
  have h:=(gm xs hx x hx').scaleL (M1^(mv.length - 1)*M2)
  rw[show M1^(mv.length - 1)*M2*M1=M1^mv.length*M2 by
   have:M1^mv.length=M1^(mv.length - 1)*M1:=by rw[<- cY,Nat.succ_eq_add_one,Fs n1]
   rw[this,cC,cC,bH M2 M1]] at h
  exact h.mono (ag B1 (by have:=pB 1 n1;rwa [Nat.pow_one] at this))
 have gpt:∀xs∈pt,∀x∈xs,Fr (M1^mv.length*M2) (B^mv.length) x:=λxs hx x hx'=>by
  refine up (j:=0) (aW _) (V':=V1) ?_ (ag B1 (by have:=pB 1 n1;rwa [Nat.pow_one] at this));rw[Nat.pow_zero,vz];exact gp xs hx x hx'
 refine ⟨λxs hx=>⟨a,b,a,b,⟨_,_,M0,ha,hb,gmv xs hx⟩,⟨_,_,M0,ha,hb,lst⟩,by lia⟩,⟨a+b,_,B^mv.length*(M1^mv.length*M2),M0,ag ha (av (by decide) (by lia)),cv (jC B0) M0,?_,λys hy x hx=>?_,by lia,?_,?_⟩,λpu hpu=>⟨_,_,M0,ag ha (av (by decide) a15),ag hb (av (by decide) b18),λx hx=>?_⟩⟩
 ·rw[bh,bH];exact aX ha hb
 ·unfold cm at hy;obtain ⟨c,hc,rfl⟩:=ax.mp hy;obtain ⟨xs,hxs,rfl⟩:=ax.mp hx
  have key:∀y∈xs,Fr (M1^mv.length*M2) (B^mv.length) y:=by
   rcases aD.mp hxs with z | z
   ·intro y hy;obtain ⟨j,hj,rfl⟩:=bO z;obtain ⟨d,hd,rfl⟩:=bO hy;have:=st j hj d;unfold bC at this;rw[aa (l:=sts),af hj] at this;show Fr _ _ _
    rw[show ((some sts[j]).getD [])=sts[j] from rfl,aa,af hd] at this;exact this
   ·rcases ay.mp z with rfl | z
    ·intro y hy;obtain ⟨d,hd,rfl⟩:=bO hy
     have lw:(sts.getD pus.length []).length=mv.length:=by
      rw[aa,af (by lia)];exact C.wide _ (aB _)
     have e:=BC (R:=[sts.getD pus.length []]) (i:=0) rfl D.mw (λxs hx=>by rw[bB.mp hx];exact lw) Nat.one_pos d
     have e':(kb mv (sts.getD pus.length []))[d]=aS mv.length λi=>bC mv d i*bC sts pus.length i:=by
      rw[<- show (kb mv (sts.getD pus.length [])).getD d 0=(kb mv (sts.getD pus.length []))[d] by rw[aa,af hd];rfl];exact e
     rw[e'];refine up (j:=pus.length+1) (by lia) (V':=mv.length*(V1*B^pus.length)) (yg _ λi _=>?_) ?_
     ·have:=(zS (i:=d) (j:=i) gm).mul (fr pus.length (by lia) i);rw[show M1*(M1^pus.length*M2)=M1^(pus.length+1)*M2 by rw[cY,<- cC,bH M1 (M1^pus.length)]] at this;exact this
     ·refine ag ?_ (pB (pus.length+1) (by lia));rw[cY,bH (B^_) B,<- cC];exact aw _ (ag (aw _ (ot _ _)) hB)
    ·exact gpt xs z
  have:Fr (M1^mv.length*M2) (B^mv.length) (xs.getD c 0):=by
   rw[aa];cases e:xs[c]? with
   | none=>exact Fr.zero
   | some y=>exact key y (ak e)
  exact this
 ·rw[iK];lia
 ·refine ag (aw _ (Nat.min_le_left ..)) ?_;rw[iK];exact ag (aw _ d8) f2
 ·rcases aD.mp hx with z | z
  ·exact lst x z
  ·rcases hpu x z with rfl | rfl
   ·exact Fr.zero
   ·exact ⟨((M1^mv.length*M2:Nat):Int),by rw[bV];grind,by rw[dj];exact cH _ (jC B0)⟩
end
section
variable {mv pt lk sts pus R:LR9} {M1 M2 V1 a1 a2 c:Nat} {wish:List Rat}
theorem Pf (h:M<=W):Tp M W 1:=⟨((M:Nat):Int),by rw[bV];grind,by rw[dj];exact h⟩
theorem Ko (h:M<=W) (hz:z=0\/z=1):Tp M W z:=by
 rcases hz with rfl | rfl
 ·exact Tp.zero
 ·exact Pf h
theorem Qi (h:x∈rows.getD j []):∃d,x=bC rows j d:=by
 obtain ⟨d,hd,rfl⟩:=bO h;refine ⟨d,?_⟩;unfold bC;rw[aa (l:=rows.getD j []),af hd];rfl
theorem dW (h:a<=b):2^a<=2^b:=av (by decide) h
theorem gK (h1:x<=2^a) (h2:y<=2^b):x*y<=2^(a+b):=by rw[bh];exact aX h1 h2
theorem qU (h:x<=2^a) (n:Nat):x^n<=2^(a*n):=by rw[Co];exact rQ h n
theorem R5 (B:Bd mv pt M1 M2 V1 a1 a2 c) (D:gF mv pt lk) (C:Fo mv pt sts pus) (lp:pus.length=mv.length) (z01:∀pu∈pus,∀z∈pu,z=(0:Rat)\/z=1):∀xs∈(jm sts (pus++[List.replicate pt.length 0]) mv.length).drop 1,∀x∈xs,Tp (M1^mv.length*M2) (2^(a1*mv.length+a2+c*mv.length)) x:=by
 intro xs hx x hx';have i4:=D.i4;have B0:1<=2^c:=b8;have hM:M1^mv.length*M2<=2^(a1*mv.length+a2):=gK (qU B.b1 _) B.b2;have hM':M1^mv.length*M2<=2^(a1*mv.length+a2+c*mv.length):=ag hM (dW (by lia));have fr:=Gz B.gm B.gp (B:=2^c) (ag (aw _ (by lia)) B.vc) B0 C z01;unfold jm at hx;obtain ⟨j,hj,rfl⟩:=ax.mp (jF hx);have hj':=jE.mp hj;have lC:=C.len;rcases aD.mp hx' with hx' | hx'
 ·rcases aD.mp hx' with hx' | hx'
  ·obtain ⟨d,rfl⟩:=Qi hx';have e:M1^mv.length*M2=M1^(mv.length - j)*(M1^j*M2):=by rw[<- cC,<- bh,Fs (by lia)]
   have f:=(fr j (by lia) d).scaleL (M1^(mv.length - j));rw[<- e] at f;refine Tp.of (f.mono (av B0 (show j<=mv.length by lia))) ?_;rw[fE (a1*mv.length+a2)];exact gK (qU (aj _) _) hM
  ·refine Ko hM' ?_;rw[aa] at hx';cases e:(pus++[List.replicate pt.length (0:Rat)])[j]? with
   | none=>rw[e] at hx';cases hx'
   | some pu =>
    rw[e] at hx';rcases aD.mp (ak e) with z | z
    ·exact z01 pu z x hx'
    ·rw[bB.mp z] at hx';exact .inl (gG hx')
 ·refine Ko hM' ?_;rw[bB.mp hx']
  split
  ·exact .inr rfl
  ·exact .inl rfl
theorem Ss (B:Bd mv pt M1 M2 V1 a1 a2 c) (i4:pt.length<=4) (M0:0 < M) (hM:M<=2^e) (hF:∀xs∈F,∀x∈xs,Tp M (2^e) x):∀xs∈fw mv pt F,∀x∈xs,Tp (M1*(M2*M)) (2^(c+a1+a2+e+1)) x:=by
 intro xs hx x hx';have vc:=B.vc;have v4:4*V1<=2^c:=ag (aw _ (by lia)) vc;unfold fw rj at hx;obtain ⟨a,_,rfl⟩:=ax.mp hx;obtain ⟨b,_,rfl⟩:=ax.mp hx'
 have t1:Tp (M1*(M2*M)) (2^(c+a1+a2+e)) (bC mv a b):=by
  refine Tp.up (Tp.of (zS B.gm) (aj _)) _ ?_;rw[show c+a1+a2+e=(c+a1)+(a2+e) by lia];exact gK (gK (by lia) B.b1) (gK B.b2 hM)
 have t2:Tp (M1*(M2*M)) (2^(c+a1+a2+e)) (aS pt.length λk=>bC pt k a*bC F k b):=by
  have h:Tp (M2*M) (pt.length*(V1*M2*2^e)) (aS pt.length λk=>bC pt k a*bC F k b):=Tp.sum λk _=>Tp.mul (Tp.of (zS B.gp) (aj _)) (Ow hF k b)
  have h2:=h.up M1 (aj _);rw[bH (M2*M)] at h2;refine h2.mono ?_;rw[show c+a1+a2+e=(c+(a2+e))+a1 by lia,show pt.length*(V1*M2*2^e)=(pt.length*V1)*(M2*2^e) by simp only[cC]];exact gK (gK (ag (aw _ i4) v4) (gK B.b2 (aj _))) B.b1
 refine (t1.add t2).mono ?_;rw[cY]
 lia
theorem Su {M Mc e g Mw ew:Nat} (hMw:Mw<=2^ew) (n4:A.length<=4) (lr:row.length=A.length) (hA:∀xs∈A,∀x∈xs,Tp Mc (2^g) x) (hg:Mc<=2^g) (hr:∀x∈row,Tp M (2^e) x) (hw:∀z∈wish,Tp Mw (2^ew) z):∀k,(∀x∈vA A row wish k,Tp (Mc^k*(M*Mw)) (2^(e+ew+k*(g+3))) x)/\∀x∈Cz A (vA A row wish k),Tp (Mc^(k+1)*(M*Mw)) (2^(e+ew+k*(g+3)+(g+2))) x:=by
 have tk:∀(k:Nat) (l:List Rat),l.length=A.length->(∀x∈l,Tp (Mc^k*(M*Mw)) (2^(e+ew+k*(g+3))) x)->∀x∈Cz A l,Tp (Mc^(k+1)*(M*Mw)) (2^(e+ew+k*(g+3)+(g+2))) x:=by
  intro k l ll h x hx;unfold Cz at hx;obtain ⟨ys,hy,rfl⟩:=ax.mp hx;have ly:ys.length=A.length:=iL ys hy;rw[gP (by rw[ly,ll])];have t:=tY (n:=A.length) hA ys hy;have s:Tp (Mc*(Mc^k*(M*Mw))) (ys.length*(2^g*2^(e+ew+k*(g+3)))) (aS ys.length λj=>ys.getD j 0*l.getD j 0):=Tp.sum λj _=>Tp.mul (kD t j) (kD h j)
  rw[<- cC,bH Mc (Mc^k),<- cY] at s;refine s.mono ?_;rw[show e+ew+k*(g+3)+(g+2)=2+(g+(e+ew+k*(g+3))) by lia];exact gK (by lia) (gK (aj _) (aj _))
 intro k
 have main:∀x∈vA A row wish k,Tp (Mc^k*(M*Mw)) (2^(e+ew+k*(g+3))) x:=by
  induction k with
  | zero =>
   intro x hx;rw[Nat.pow_zero,vz,Nat.zero_mul,Nat.add_zero];refine (hr x hx).up Mw ?_;exact gK (aj _) hMw
  | succ k ih =>
   intro x hx;have hx:x∈List.zipWith (λx y=>x - y) (Cz A (vA A row wish k)) (row.map λy=>wish.getD (wish.length - 1 - k) 0*y):=hx;obtain ⟨i,hi,rfl⟩:=bO hx;have hi1:i < (Cz A (vA A row wish k)).length:=by rw[aP] at hi;lia
   have hi2:i < row.length:=by rw[aP,ah] at hi;lia
   rw[dh,dN,Fp];have h1:=tk k _ (wH lr k) ih _ (aB hi1)
   have h2:Tp (M*Mw) (2^(ew+e)) (wish.getD (wish.length - 1 - k) 0*row[i]):=by
    have:=Tp.mul (kD hw (wish.length - 1 - k)) (hr _ (aB hi2));rw[bH Mw M,<- bh] at this;exact this
   have h3:=(h2.up (Mc^(k+1)) (aj _)).neg;rw[bH (M*Mw)] at h3;refine (h1.add h3).mono ?_;have b1:2^(ew+e)*Mc^(k+1)<=2^(ew+e+g*(k+1)):=gK (aj _) (qU hg _)
   have b2:ew+e+g*(k+1)<=e+ew+k*(g+3)+(g+2):=by
    rw[pY,bH g k,pY]
    lia
   have b3:=dW b2;rw[show e+ew+(k+1)*(g+3)=e+ew+k*(g+3)+(g+2)+1 by rw[dZ];lia,cY 2]
   lia
 exact ⟨main,tk k _ (wH lr k) main⟩
theorem Hs (Mw0:0 < Mw) (hMw:Mw<=2^ew) (B:Bd mv pt M1 M2 V1 a1 a2 c) (D:gF mv pt lk) (n4:mv.length<=4) (hl:Kf lk) (lw:wish.length=mv.length) (hw:∀z∈wish,Tp Mw (2^ew) z) {e g:Nat} (he:mv.length*(a1*mv.length+a2+c*mv.length+4)=e) (hg:c+a1+a2+e+1=g) (hz:e+ew+mv.length*(g+3)<=198500) (hz2:2*e+a2+c<=196500) (hz3:e+g+ew+20<=198500) (hz4:c+a1<=3000) (hz5:e+ew+mv.length*(g+3)<=3000):QM mv pt lk wish:=by
 intro sts pus C lp z01;have i4:=D.i4;have m1:=B.m1;have m2:=B.m2;have v0:V1<=2^c:=ag (cH _ (by lia)) B.vc;have t0:=R5 B D C lp z01;have lC:=C.len;have lL:((jm sts (pus++[List.replicate pt.length 0]) mv.length).drop 1).length=mv.length:=by unfold jm;rw[ic,ah,bI];lia
 have wL:∀xs∈(jm sts (pus++[List.replicate pt.length 0]) mv.length).drop 1,xs.length=mv.length+pt.length+1:=λxs hx=>by
  unfold jm at hx;obtain ⟨j,hj,rfl⟩:=ax.mp (jF hx);have hj':=jE.mp hj;rw[au,au,aV]
  have e1:(sts.getD j []).length=mv.length:=by
   rw[aa,af (by lia)];exact C.wide _ (aB _)
  have e2:((pus++[List.replicate pt.length 0]).getD j []).length=pt.length:=by
   have hl:j < (pus++[List.replicate pt.length (0:Rat)]).length:=by rw[au,aV];lia
   rw[aa,af hl];rcases aD.mp (aB hl) with z | z
   ·exact C.wpu _ z
   ·show ((pus++[List.replicate pt.length (0:Rat)])[j]).length=_
    rw[bB.mp z];exact cp
  lia
 generalize (jm sts (pus++[List.replicate pt.length 0]) mv.length).drop 1=L at t0 lL wL ⊢
 have zp:∀b∈(pus++[List.replicate pt.length (0:Rat)]).getD 0 [],b=0\/b=1:=λb hb=>by
  rw[aa] at hb;cases e:(pus++[List.replicate pt.length (0:Rat)])[0]? with
  | none=>rw[e] at hb;cases hb
  | some pu =>
   rw[e] at hb;rcases aD.mp (ak e) with z | z
   ·exact z01 pu z b hb
   ·rw[bB.mp z] at hb;exact .inl (gG hb)
 generalize (pus++[List.replicate pt.length (0:Rat)]).getD 0 []=p0 at zp ⊢;have hM:M1^mv.length*M2<=2^(a1*mv.length+a2):=gK (qU B.b1 _) B.b2;have M0:0 < M1^mv.length*M2:=cv (jC m1) m2;have mn:min L.length (mv.length+pt.length+1)=mv.length:=by rw[lL];lia
 have sw:mv.length=0\/a1*mv.length+a2+c*mv.length+4<=e:=by
  rcases dg mv.length with z | z
  ·exact .inl z
  ·exact .inr (by rw[<- he];exact cH _ z)
 have sw':a1*mv.length+a2+c*mv.length<=200000:=by
  rcases sw with z | z
  ·rw[z];lia
  ·lia
 have SL:A2 L (mv.length+pt.length+1) (a1*mv.length+a2+c*mv.length):=⟨_,_,M0,ag hM (dW (by lia)),b8,aj _,t0,by lia,by lia,by rw[mn,he];lia⟩;refine ⟨_,SL,λR ps RR rk=>?_⟩;obtain ⟨_,M,Mp,Me,tR⟩:=OH wL SL RR;rw[mn,he] at Me tR
 have tS:∀xs∈fR R mv.length pt.length,∀x∈xs,Tp M (2^e) x:=by
  unfold fR;refine tY λxs hx x hx'=>?_
  obtain ⟨ys,hy,rfl⟩:=ax.mp hx;exact tR ys hy x (jF hx')
 have lR:R.length=mv.length:=RR.1.trans rk;have lS:(fR R mv.length pt.length).length=pt.length+1:=iK
 have wS:∀xs∈fR R mv.length pt.length,xs.length=mv.length:=λxs hx=>by
  unfold fR at hx;rw[iL xs hx,ah,lR]
 have mr:(fR R mv.length pt.length).getD pt.length []∈fR R mv.length pt.length:=by
  rw[aa,af (by lia)];exact aB _
 have lr:=wS _ mr;have tr:=tS _ mr;have tF:∀xs∈(fR R mv.length pt.length).take pt.length,∀x∈xs,Tp M (2^e) x:=λxs hx=>tS xs (bW hx)
 have lF:((fR R mv.length pt.length).take pt.length).length<=4:=by rw[bZ];lia
 suffices h:Tu mv pt lk ((fR R mv.length pt.length).take pt.length)/\Tv (fw mv pt ((fR R mv.length pt.length).take pt.length)) ((fR R mv.length pt.length).getD pt.length []) wish/\(∀xs∈((fR R mv.length pt.length).take pt.length),∀z∈xs,j4 z)/\(∀z∈vA (fw mv pt ((fR R mv.length pt.length).take pt.length)) ((fR R mv.length pt.length).getD pt.length []) wish wish.length,j4 z/\∀b∈p0,j4 (b*z))/\∃M N,0 < M/\M<=2^3000/\0 < N/\N<=2^3000/\(∀xs∈(fR R mv.length pt.length).take pt.length,∀z∈xs,Fr M (2^3000) z)/\∀z∈vA (fw mv pt ((fR R mv.length pt.length).take pt.length)) ((fR R mv.length pt.length).getD pt.length []) wish wish.length,Fr N (2^3000) z from ⟨h.1,h.2.1,h.2.2.1,h.2.2.2.1,h.2.2.2.2⟩
 generalize (fR R mv.length pt.length).getD pt.length []=row at lr tr ⊢;have tC:=Ss B i4 Mp Me tF;rw[hg] at tC;have hMc:M1*(M2*M)<=2^g:=ag (gK B.b1 (gK B.b2 Me)) (dW (by lia));have Mc0:0 < M1*(M2*M):=cv m1 (cv m2 Mp);have lc:(fw mv pt ((fR R mv.length pt.length).take pt.length)).length=mv.length:=fD;generalize (fR R mv.length pt.length).take pt.length=F at tF lF tC lc ⊢;have g39:g<=198500:=by lia
 have e39:e<=198500:=by lia
 have AM:=Su (wish:=wish) hMw (by rw[lc];exact n4) (by rw[lc,lr]) tC hMc tr hw;have kk:∀k,k<=mv.length->e+ew+k*(g+3)<=198500:=λk hk=>ag (Nat.add_le_add_left (aw _ hk) _) hz
 have mk:∀k,k<=mv.length->(M1*(M2*M))^k*(M*Mw)<=2^199500:=λk hk=>by
  refine ag (gK (qU hMc k) (gK Me hMw)) (dW ?_);have:=kk k hk;rw[pY] at this;rw[bH g k]
  lia
 have mp:∀k,0 < (M1*(M2*M))^k*(M*Mw):=λk=>cv (jC Mc0) (cv Mp Mw0)
 have amz:∀k,k<=mv.length->∀x∈vA (fw mv pt F) row wish k,j4 x:=λk hk x hx=>kl ((AM k).1 x hx) (mp k) (ag (mk k hk) (dW (by decide))) (dW (ag (kk k hk) (by decide)))
 have zr:∀x∈row,j4 x:=λx hx=>wV (tr x hx) Mp Me (aj _) (by lia)
 refine ⟨⟨λxs hx ys hy=>⟨e,e,a2,c,⟨M,_,Mp,Me,aj _,λx h=>(tY tF ys hy x h).fr Mp⟩,⟨M2,V1,m2,B.b2,v0,Cu B.gp xs hx⟩,by lia⟩,λxs hx x h=>?_,λxs hx x h=>?_,λxs hx x h=>?_,λxs hx x h=>?_,hl⟩,⟨λys hy=>?_,λk hk=>?_,λk hk x hx=>?_,zr,λz hz'=>wV (hw z hz') Mw0 hMw (aj _) (by lia),λa ha z hz'=>?_⟩,λxs hx x h=>wV (tF xs hx x h) Mp Me (aj _) (by lia),λz hz'=>?_,⟨M,_,Mp,ag Me (dW (by lia)),mp mv.length,?_,λxs hx z h=>((tF xs hx z h).fr Mp).mono (dW (by lia)),λz hz'=>(((AM mv.length).1 z (by rw[lw] at hz';exact hz')).fr (mp _)).mono (dW hz5)⟩⟩
 ·exact wV (Tp.of (B.gm xs hx x h) (gK v0 B.b1)) m1 (ag B.b1 (dW (by lia))) (aj _) (by lia)
 ·unfold gH at hx;obtain ⟨us,hu,rfl⟩:=ax.mp hx;obtain ⟨ys,hy,rfl⟩:=ax.mp h;have ly:ys.length=F.length:=iL ys hy;have f:=Fr.dot (λx h=>(tY tF ys hy x h).fr Mp) (Cu B.gp us hu);refine wV (Tp.of f (aj _)) (cv Mp m2) (a:=2+(e+c)+(e+a2)) (ag (gK Me B.b2) (dW (by lia))) (gK (gK (by lia) (gK (aj _) v0)) (gK Me B.b2)) (by lia)
 ·exact CA (wV (tC xs hx x h) Mc0 hMc (aj _) (by lia))
 ·exact CA (wV (Tp.of (B.gp xs hx x h) (gK v0 B.b2)) m2 (ag B.b2 (dW (by lia))) (aj _) (by lia))
 ·exact KH Mc0 (ag hMc (dW (by lia))) (dW (by lia)) (tY tC ys hy)
 ·exact KH (mp k) (ag (mk k (by lia)) (dW (by decide))) (dW (ag (kk k (by lia)) (by decide))) (AM k).1
 ·refine kl ((AM k).2 x hx) (mp (k+1)) (ag (mk (k+1) (by lia)) (dW (by decide))) (dW ?_);have:=kk (k+1) (by lia);rw[dZ] at this
  lia
 ·have:=Tp.mul (hw a ha) (tr z hz');exact wV this (cv Mw0 Mp) (a:=ew+e) (gK hMw Me) (gK (aj _) (aj _)) (by lia)
 ·rw[lw] at hz';have h0:=amz _ (aj _) z hz';refine ⟨h0,λb hb=>?_⟩;rcases zp b hb with rfl | rfl
  ·rw[show (0:Rat)*z=0 by grind];exact yx
  ·rw[show (1:Rat)*z=z by grind];exact h0
 ·refine ag (gK (qU hMc mv.length) (gK Me hMw)) (dW ?_);rw[pY] at hz5;rw[bH g mv.length]
  lia
end
section
variable {X:Cx} {pins:List (Addr×Obj)} {σ:St} {H H':Hp} {s:Shared} {C:Addr} {x:Str} {hpos np:Pos}
theorem Inv.unsm (ok:X.Ok) (I:Inv (X.sm ea) pins σ H s):Inv X pins σ H s:=⟨ok,I.os,I.bare,I.base,I.loc,I.cell,I.free,I.freeC,I.pin,I.hok,I.len⟩
def hNo (K:FG9) (C:Addr) (ts:Addr->TS) (hr:Ends->St->Value->Option Addr->Hp->Prop):Ends->St->Value->Option Addr->Hp->Prop:=λD σ cls dx H =>
 (PySem.W.exmOne K cls (.ref C)=some true/\∀ea,ts ea (Pu D) σ H)\/(PySem.W.exmOne K cls (.ref C)=some false/\hr D σ cls dx H)
theorem Si {b₀:Stmt} {suite:List Stmt} {rest:List ExceptHandler} {ts:Addr->TS} {hr:Ends->St->Value->Option Addr->Hp->Prop} (hex:X.ex=[]) (hg:Gl X x) (hm:X.mg x=some (.ref C))
  (hs:∀ea,DU (X.sm ea) (b₀ :: suite) (ts ea)) (hrest:HB X rest hr) (hdb:(x == ("__debug__":Str))=false:=by decide) :
  HB X (.ExceptHandler (some (.Name x np)) none (b₀ :: suite) hpos :: rest) (hNo X.K C ts hr):=by
 intro pins σ H0 s0 H' ea tt cls dx B s1 h D L fl up dc hq;have J:=L.inv fl up;refine wpAny_handleBy_cons (codeAny_handlers_test (rV (X:=X.sm ea) (J.sm ea) hg hm ?_ hdb)) (by intro q;cases q)
 have LT:PySem.W.Looks (model X.prog X.w) h (typeOf (.ref ea)) cls:=by
  obtain ⟨o,e,c⟩:=fl.there;exact c ▸ (PySem.W.Looks.ld e).andThen .now
 rcases hq with ⟨hb,hts⟩ | ⟨hb,hq⟩
 ·refine (PySem.W.exm_one (show X.K.In h from J.kIn) LT hb) _ _ _ _ (λ_ _ q=>q) ?_;refine codeAny_handlers_suite ?_;refine wpAny_mono (lands_againW (E:=λ_ _=>False) (Q:=λ_ s2=>∃h6,s2={ s1 with heap:=h6 }/\Heap.FlyingW B X.stack ea cls (.ref tt) h6/\h.UpToSlots h6) fl λh6 fl6 up6=>⟨h6,rfl,fl6,up6⟩) ?_ (λ_ _ z=>z.elim);rintro _ _ ⟨h6,rfl,fl6,up6⟩;have J6:=(L.inv fl6 (up.trans up6)).sm ea;refine wpAny_mono (hs ea pins _ _ _ _ J6 (hts ea)) (λf s2 hsp=>?_) λ_ _ z=>False.elim z
  cases f with
  | next=>obtain ⟨_,_,_,z⟩:=hsp;exact False.elim z
  | brk=>obtain ⟨_,_,_,z⟩:=hsp;exact False.elim z
  | cont=>obtain ⟨_,_,_,z⟩:=hsp;exact False.elim z
  | ret u =>
   obtain ⟨v,σ',H2,J2,rv,q⟩:=hsp;exact ⟨v,_,H2,J2.unsm L.I.ok,rv,q⟩
 ·refine (PySem.W.exm_one (show X.K.In h from J.kIn) LT hb) _ _ _ _ (λ_ _ q=>q) ?_;exact hrest pins σ H0 s0 H' ea tt cls dx B s1 h D L fl up dc hq
end
structure Of (mv pt lk:LR9):Prop where
 un:To mv pt 500
 lw:∃w a,LwF (jw mv pt mv.length) mv.length w a
 pr:∃a c,lZ mv pt a c/\mv.length*(a+c)<=300
 cs:Oq mv pt
 st:∀(wish:List Rat) (Mw:Nat),wish.length=mv.length->0 < Mw->Mw<=2^50->(∀z∈wish,Tp Mw (2^50) z)->QM mv pt lk wish
section
variable {mv pt lk:LR9} {M1 M2 M3 V1 n i o w c:Nat}
theorem RY (K:lZ mv pt a c) (D:gF mv pt lk) (h:2*(mv.length*(mv.length*(a+c)+4)+mv.length*a)<=199500):LwF (jw mv pt mv.length) mv.length (mv.length*(a+c)) (mv.length*a):=by
 obtain ⟨M,V,M0,Ma,hV,fm,fp,_⟩:=K;have d8:=D.n8;have f:=Ge rfl D.mw D.pw hV fm fp mv.length;have hM:M^mv.length<=2^(mv.length*a):=by rw[bH];exact qU Ma _
 refine ⟨M^mv.length,2^(mv.length*(a+c)),jC M0,hM,b8,aj _,λxs hx x hx'=>Tp.of (f xs hx x hx') ?_,ag (oq ..) (by lia),?_⟩
 ·rw[show mv.length*(a+c)=c*mv.length+mv.length*a by rw[pY,bH c];lia];exact gK (aj _) hM
 ·refine ag (cN _ (Nat.add_le_add_right (aw _ (oq ..)) _)) h
theorem ye (B:Bd mv pt M1 M2 V1 a1 a2 c) (D:gF mv pt lk) (v1:1<=V1) (hl:Kf lk) (h:(mv.length<=4/\M2=M1/\a1=12/\a2=12/\c=16)\/(mv.length<=2/\a1=40/\a2=80/\c=23)):Of mv pt lk:=by
 have vc:=B.vc;have i4:=D.i4;have d8:=D.n8;have n04:mv.length<=4:=by lia
 rcases h with ⟨n4,rfl,rfl,rfl,rfl⟩ | ⟨n2,rfl,rfl,rfl⟩
 ·have hn:mv.length=0\/mv.length=1\/mv.length=2\/mv.length=3\/mv.length=4:=by lia
  have KF:lZ mv pt 12 16:=⟨M2,V1,B.m1,B.b1,ag (aw _ (by lia)) vc,B.gm,B.gp,by decide,by decide,by rcases hn with h | h | h | h | h <;> rw[h] <;> decide,by rcases hn with h | h | h | h | h <;> rw[h] <;> decide⟩;refine ⟨⟨d8,D.mw,D.pw,⟨12,16,KF,?_,?_⟩,by decide⟩,⟨_,_,RY KF D (by rcases hn with h | h | h | h | h <;> rw[h] <;> decide)⟩,⟨12,16,KF,by lia⟩,?_,λwish Mw lw Mw0 Mwb hw=>?_⟩
  ·rcases hn with h | h | h | h | h <;> rw[h] <;> decide
  ·rcases hn with h | h | h | h | h <;> rw[h] <;> decide
  ·refine IE D B.m1 B.m1 B.gm B.gp v1 (B:=2^16) (ag (aw _ (by lia)) vc) (a:=12*mv.length+12) (b:=16*mv.length) (gK (qU B.b1 _) B.b1) (qU (aj _) _) (by lia) (by lia) (by lia) (by lia)
  ·refine Hs Mw0 Mwb B D n4 hl lw hw rfl rfl ?_ ?_ ?_ (by decide) ?_
   ·rcases hn with h | h | h | h | h <;> rw[h] <;> decide
   ·rcases hn with h | h | h | h | h <;> rw[h] <;> decide
   ·rcases hn with h | h | h | h | h <;> rw[h] <;> decide
   ·rcases hn with h | h | h | h | h <;> rw[h] <;> decide
 ·have hn:mv.length=0\/mv.length=1\/mv.length=2:=by lia
  have dv1:M1∣M1*M2:=mQ ..;have dv2:M2∣M1*M2:=cS ..;have KF:lZ mv pt 120 23:=⟨M1*M2,V1,cv B.m1 B.m2,gK B.b1 B.b2,ag (aw _ (by lia)) vc,λxs hx x hx'=>(B.gm xs hx x hx').dvd dv1,λxs hx x hx'=>(B.gp xs hx x hx').dvd dv2,by decide,by decide,by rcases hn with h | h | h <;> rw[h] <;> decide,by rcases hn with h | h | h <;> rw[h] <;> decide⟩;refine ⟨⟨d8,D.mw,D.pw,⟨120,23,KF,?_,?_⟩,by decide⟩,⟨_,_,RY KF D (by rcases hn with h | h | h <;> rw[h] <;> decide)⟩,⟨120,23,KF,by lia⟩,?_,λwish Mw lw Mw0 Mwb hw=>?_⟩
  ·rcases hn with h | h | h <;> rw[h] <;> decide
  ·rcases hn with h | h | h <;> rw[h] <;> decide
  ·refine IE D B.m1 B.m2 B.gm B.gp v1 (B:=2^23) (ag (aw _ (by lia)) vc) (a:=40*mv.length+80) (b:=23*mv.length) (gK (qU B.b1 _) B.b2) (qU (aj _) _) (by lia) (by lia) (by lia) (by lia)
  ·refine Hs Mw0 Mwb B D n04 hl lw hw rfl rfl ?_ ?_ ?_ (by decide) ?_
   ·rcases hn with h | h | h <;> rw[h] <;> decide
   ·rcases hn with h | h | h <;> rw[h] <;> decide
   ·rcases hn with h | h | h <;> rw[h] <;> decide
   ·rcases hn with h | h | h <;> rw[h] <;> decide
theorem Ig {M V:Nat} (h:GF M V rows) (m0:0 < M) (hM:M<=2^100) (hV:V<=2^30):Kf rows:=λxs hx x hx'=>CA (Pl (h xs hx x hx') m0 (ag hM (dW (by decide))) (ag hV (dW (by decide))))
theorem Nq (P:Tt n i o w c mv pt lk) (D:gF mv pt lk) (lm:mv.length=n) (i4:i<=4) (o4:o<=4) (hw:(n<=4/\w<=9)\/(n<=2/\c=10)):Of mv pt lk/\Of (cm mv mv.length) lk pt/\MB mv pt lk:=by
 obtain ⟨M1,M2,M3,V1,p1,p2,p3,g1,g2,g3,hc⟩:=P;have et:(cm mv mv.length).length=mv.length:=dz;have D':gF (cm mv mv.length) lk pt:=D.turn;have g1':GF M1 V1 (cm mv mv.length):=Cu g1;have fin:∀{a1 a2 a3 c:Nat},M1<=2^a1->M2<=2^a2->M3<=2^a3->V1<=2^30->a1+(a2+a3)<=400->MB mv pt lk:=λ{a1 a2 a3 c} h1 h2 h3 h4 h5=>⟨M1*(M2*M3),V1,cv p1 (cv p2 p3),ag (gK h1 (gK h2 h3)) (dW h5),ag h4 (dW (by decide)),λxs hx x hx'=>(g1 xs hx x hx').dvd (mQ ..),λxs hx x hx'=>(g2 xs hx x hx').dvd (kC (mQ ..) (cS ..)),λxs hx x hx'=>(g3 xs hx x hx').dvd (kC (cS ..) (cS ..))⟩
 rcases hc with ⟨w9,rfl,rfl,rfl,rfl⟩ | ⟨w9,b1,b2,b3,rfl⟩
 ·have n4:mv.length<=4:=by lia
  have vc:(mv.length+4)*(9^3*9)<=2^16:=ag (aw _ (show mv.length+4<=8 by lia)) (by decide);exact ⟨ye ⟨p1,p2,by decide,by decide,g1,g2,vc⟩ D (by decide) (Ig g3 p3 (by decide) (by decide)) (.inl ⟨n4,rfl,rfl,rfl,rfl⟩),ye ⟨p1,p3,by decide,by decide,g1',g3,by rw[et];exact vc⟩ D' (by decide) (Ig g2 p2 (by decide) (by decide)) (.inl ⟨by rw[et];exact n4,rfl,rfl,rfl,rfl⟩),fin (a1:=12) (a2:=12) (a3:=12) (c:=0) (by decide) (by decide) (by decide) (by decide) (by decide)⟩
 ·obtain ⟨n2,rfl⟩:n<=2/\c=10:=by lia
  have e1:10*(n*n)<=40:=by have:n*n<=2*2:=aX n2 n2;lia
  have e2:10*(i*n)<=80:=by have:i*n<=4*2:=aX i4 n2;lia
  have e3:10*(o*n)<=80:=by have:o*n<=4*2:=aX o4 n2;lia
  have b1:=ag b1 (dW e1);have b2:=ag b2 (dW e2);have b3:=ag b3 (dW e3);have vc:(mv.length+4)*(9^3*2^10)<=2^23:=ag (aw _ (show mv.length+4<=6 by lia)) (by decide);exact ⟨ye ⟨p1,p2,b1,b2,g1,g2,vc⟩ D (by decide) (Ig g3 p3 (ag b3 (dW (by decide))) (by decide)) (.inr ⟨by lia,rfl,rfl,rfl⟩),ye ⟨p1,p3,b1,b3,g1',g3,by rw[et];exact vc⟩ D' (by decide) (Ig g2 p2 (ag b2 (dW (by decide))) (by decide)) (.inr ⟨by rw[et];lia,rfl,rfl,rfl⟩),fin (c:=0) b1 b2 b3 (by decide) (by decide)⟩
end
def mF (n:Nat) (A:Nat->Nat->Rat) (x:Nat->Rat):Nat->Rat:=λc=>aS n λi=>A c i*x i
def pF (n:Nat) (A:Nat->Nat->Rat):Nat->(Nat->Rat)->Nat->Rat
 | 0,x=>x
 | t+1,x=>mF n A (pF n A t x)
def dF (n:Nat) (g x:Nat->Rat):Rat:=aS n λi=>g i*x i
section
variable {n:Nat} {A A':Nat->Nat->Rat} {g m w:Nat->Rat} {s:Nat->Nat->Rat} {x y:Nat->Rat} {k:Rat}
theorem Lv:mF n A (λc=>x c+k*y c)=λc=>mF n A x c+k*mF n A y c:=by
 funext c;unfold mF;rw[<- cg,<- gg];exact aF λi _=>by grind
theorem Lf:∀t,pF n A t (λc=>x c+k*y c)=λc=>pF n A t x c+k*pF n A t y c
 | 0=>rfl
 | t+1=>by
  show mF n A (pF n A t _)=_
  rw[Lf t,Lv];rfl
theorem oT:∀t,pF n A (t+1) x=pF n A t (mF n A x)
 | 0=>rfl
 | t+1=>by
  show mF n A (pF n A (t+1) x)=_
  rw[oT t];rfl
theorem L9:dF n g (λc=>x c+k*y c)=dF n g x+k*dF n g y:=by
 unfold dF;rw[<- cg,<- gg];exact aF λi _=>by grind
theorem Lu {f:Nat->Nat->Rat}:mF n A (λc=>aS q λi=>w i*f i c)=λc=>aS q λi=>w i*mF n A (f i) c:=by
 funext c;unfold mF
 have:∀j,A c j*(aS q λi=>w i*f i j)=aS q λi=>w i*(A c j*f i j):=λj=>by
  rw[<- cg];exact aF λi _=>by grind
 rw[aF λj _=>this j,eY];exact aF λi _=>by rw[cg]
theorem Le {q:Nat} {f:Nat->Nat->Rat} {w:Nat->Rat}:∀t,pF n A t (λc=>aS q λi=>w i*f i c)=λc=>aS q λi=>w i*pF n A t (f i) c
 | 0=>rfl
 | t+1=>by
  show mF n A (pF n A t _)=_
  rw[Le t,Lu];rfl
theorem L8 {f:Nat->Nat->Rat}:dF n g (λc=>aS q λi=>w i*f i c)=aS q λi=>w i*dF n g (f i):=by
 unfold dF
 have:∀j,g j*(aS q λi=>w i*f i j)=aS q λi=>w i*(g j*f i j):=λj=>by
  rw[<- cg];exact aF λi _=>by grind
 rw[aF λj _=>this j,eY];exact aF λi _=>by rw[cg]
theorem ack (h1:∀j,1<=j->j < n->mF n A (s j)=s (j+1)) (h2:∀j,1<=j->j<=n->dF n g (s j)=if j=n then 1 else 0) (h3:∀x,dF n m x=dF n g (pF n A n x) - aS n λi=>w i*dF n g (pF n A i x)) (h4:∀x,mF n A' x=λc=>mF n A x c+-(dF n m x)*s 1 c)
  (C:(Nat->Rat)->Prop) (h5:∀x,C x->∃k:Nat->Rat,x=λc=>aS n λj=>k j*s (j+1) c) (h6:∀x,C x->C (mF n A' x)) (h7:∀x,C x->C λc=>pF n A' n x c+-1*aS n λi=>w i*pF n A' i x c):∀x,C x->∀c,pF n A' n x c=aS n λi=>w i*pF n A' i x c:=by
 have it:∀i j,1<=j->i+j<=n->pF n A i (s j)=s (i+j):=by
  intro i
  induction i with
  | zero=>intro j _ _;rw[Nat.zero_add];rfl
  | succ i ih =>
   intro j hj hn;show mF n A (pF n A i (s j))=_
   rw[ih j hj (by lia),h1 _ (by lia) (by lia)];congr 1
   lia
 have stp:∀i x,i < n->(∀x,dF n g (pF n A' i x)=dF n g (pF n A i x))->dF n g (pF n A' (i+1) x)=dF n g (pF n A (i+1) x)+-(dF n m x)*dF n g (s (i+1)):=λi x hi ih=>by
  rw[oT,ih,h4,Lf,L9,it i 1 (by lia) (by lia),<- oT]
 have gA:∀i,i < n->∀x,dF n g (pF n A' i x)=dF n g (pF n A i x):=by
  intro i
  induction i with
  | zero=>intro _ _;rfl
  | succ i ih =>
   intro hi x;rw[stp i x (by lia) (ih (by lia)),h2 (i+1) (by lia) (by lia),if_neg (by lia)];grind
 intro x hx;obtain ⟨z,ez⟩:∃z:(Nat->Rat)->Nat->Rat,z=λx c=>pF n A' n x c+-1*aS n λi=>w i*pF n A' i x c:=⟨_,rfl⟩
 have gz:∀x,dF n g (z x)=0:=λx=>by
  rw[ez];show dF n g (λc=>pF n A' n x c+-1*aS n λi=>w i*pF n A' i x c)=0
  rw[L9,L8];cases n with
  | zero=>show (0:Rat)+-1*0=0;grind
  | succ n' =>
   have e1:=stp n' x (by lia) (gA n' (by lia));rw[h2 (n'+1) (by lia) (aj _),if_pos rfl] at e1;rw[e1,aF λi hi=>by rw[gA i hi x],h3 x];grind
 have zc:∀x,mF n A' (z x)=z (mF n A' x):=λx=>by
  rw[ez];show mF n A' (λc=>pF n A' n x c+-1*aS n λi=>w i*pF n A' i x c)=_
  rw[Lv,Lu];funext c
  dsimp only
  rw[<- oT];congr 2;exact aF λi _=>by rw[<- oT];rfl
 have zp:∀i x,pF n A' i (z x)=z (pF n A' i x):=by
  intro i
  induction i with
  | zero=>intro x;rfl
  | succ i ih =>
   intro x;show mF n A' (pF n A' i (z x))=_
   rw[ih,zc];rfl
 have all0:∀i,i < n->dF n g (pF n A i (z x))=0:=λi hi=>by rw[<- gA i hi,zp,gz]
 obtain ⟨k,ek⟩:=h5 (z x) (by rw[ez];exact h7 x hx)
 have kz:∀d,d < n->k (n - 1 - d)=0:=by
  intro d
  induction d using Nat.strongRecOn with
  | ind d ih =>
   intro hd;have e:=all0 d hd;rw[ek,Le,L8,fZ (show n - 1 - d < n by lia) λj hj ne=>?_,it d (n - 1 - d+1) (by lia) (by lia),h2 _ (by lia) (by lia),if_pos (by lia),Rat.mul_one] at e
   ·exact e
   ·rcases aT j (n - 1 - d) with q | q
    ·rw[it d (j+1) (by lia) (by lia),h2 _ (by lia) (by lia),if_neg (by lia),iB]
    ·have:=ih (n - 1 - j) (by lia) (by lia);rw[show n - 1 - (n - 1 - j)=j by lia] at this;rw[this,dC]
 intro c
 have e0:z x c=0:=by
  rw[ek]
  exact b7 λj hj=>by
   have:=kz (n - 1 - j) (by lia);rw[show n - 1 - (n - 1 - j)=j by lia] at this;rw[this,dC]
 rw[ez] at e0
 dsimp only at e0
 grind
end
section
variable {mv pt sts pus R F G L:LR9} {wish x:List Rat} {ps:List Nat} {n i m:Nat}
theorem Qs {p:Nat->Nat} (h1:∀i j,i < j->j < k->p i < p j) (h2:∀j,j < k->p j < k):∀j,j < k->p j=j:=by
 have lo:∀j,j < k->j<=p j:=by
  intro j
  induction j with
  | zero=>intro _;exact aW _
  | succ j ih=>intro h;have:=ih (by lia);have:=h1 j (j+1) (by lia) h;lia
 have hi:∀d j,j+d+1=k->p j<=j:=by
  intro d
  induction d with
  | zero=>intro j h;have:=h2 j (by lia);lia
  | succ d ih=>intro j h;have:=ih (j+1) (by lia);have:=h1 j (j+1) (by lia) (by lia);lia
 exact λj hj=>AA (hi (k - 1 - j) j (by lia)) (lo j hj)
theorem Ql (ls:sts.length=n+1) (lg:gv.length=n+1) (ws:∀xs∈sts,xs.length=n) (wg:∀xs∈gv,xs.length=i) (hj:j < n):(∀c,c < n->bC ((jm sts gv n).drop 1) j c=bC sts (j+1) c)/\(∀c,c < i->bC ((jm sts gv n).drop 1) j (n+c)=bC gv (j+1) c)/\bC ((jm sts gv n).drop 1) j (n+i)=if j+1=n then 1 else 0:=by
 have e1:((jm sts gv n).drop 1).getD j []=sts.getD (j+1) []++gv.getD (j+1) []++[if j+1=n then 1 else 0]:=by
  unfold jm;rw[aa,Fw,fE 1 j,az,bo (by lia)];rfl
 have w1:(sts.getD (j+1) []).length=n:=by
  rw[aa,af (by lia)];exact ws _ (aB _)
 have w2:(gv.getD (j+1) []).length=i:=by
  rw[aa,af (by lia)];exact wg _ (aB _)
 unfold bC;rw[e1];refine ⟨λc hc=>?_,λc hc=>?_,?_⟩
 ·rw[aa,cz,bY (by lia),<- aa]
 ·rw[aa,bY (by rw[au];lia),bQ (by lia),w1,Nat.add_sub_cancel_left,<- aa]
 ·rw[aa,bQ (by rw[au];lia),au,w1,w2,iC];rfl
theorem Qm (C:Fo mv pt sts pus) (lp:pus.length=n) (lm:mv.length=n) (hl:∀j,j < n->∀c,c < n->bC L j c=bC sts (j+1) c) (lL:L.length=n) (RR:bX L m R ps) (hps:ps.length=n):(∀j,j < n->ps.getD j 0=j)/\(∀j,j < n->∀c,bC L j c=aS n λt=>bC sts (j+1) t*bC R t c)/\∀t,t < n->∃y:Nat->Rat,∀c,c < n->aS n (λj=>y j*bC sts (j+1) c)=if t=c then 1 else 0:=by
 have rr:=RR.2.2;rw[lL,hps] at rr
 have sw:∀j,j<=n->∀c,n<=c->bC sts j c=0:=λj hj c hc=>by
  unfold bC;rw[aa (l:=sts),af (by have:=C.len;lia),aa,aJ (by rw[ib,C.wide _ (aB _),lm];exact hc)];rfl
 have lt:∀t,t < n->ps.getD t 0 < n:=λt ht=>by
  rcases aT (ps.getD t 0) n with q | q
  ·exact q
  ·obtain ⟨y,hy⟩:=rr.back t ht
   have y0:=IJ C (y:=y) (λc=>by
    rw[lp];rcases aT c n with hc | hc
    ·rw[<- rr.lead t ht c (by lia),hy c];exact aF λj hj=>by rw[hl j hj c hc]
    ·exact b7 λj hj=>by rw[sw (j+1) (by lia) c hc,iB])
   have u:=rr.unit t ht t ht;rw[if_pos rfl,hy,b7 λj hj=>by rw[y0 j (by lia),dC]] at u;exact absurd u (by decide)
 have id_:=Qs (p:=λj=>ps.getD j 0) (k:=n) rr.inc lt;refine ⟨id_,λj hj c=>?_,λt ht=>?_⟩
 ·rw[rr.coef (rr.span j hj) c];exact aF λt ht=>by rw[show ps.getD t 0=t from id_ t ht,hl j hj t ht]
 ·obtain ⟨y,hy⟩:=rr.back t ht;refine ⟨y,λc hc=>?_⟩;have u:=rr.unit t ht c hc;rw[show ps.getD c 0=c from id_ c hc,hy c] at u;rw[<- u];exact aF λj hj=>by rw[hl j hj c hc]
theorem K9 {A:LR9} (lA:A.length=n) (wA:∀xs∈A,xs.length=n) (lx:x.length=n):∀t,(λc=>(dH A t x).getD c 0)=pF n (bC A) t λc=>x.getD c 0
 | 0=>rfl
 | t+1=>by
  show _=mF n (bC A) (pF n (bC A) t _)
  rw[<- K9 lA wA lx t];funext c;show ((A.map λxs=>eT xs (dH A t x)).getD c 0)=_
  unfold mF;rcases aT c n with hc | hc
  ·have w:=wA _ (aB (l:=A) (n:=c) (by lia));rw[getD_map (by lia),gP (by rw[w,HK (by rw[lx,lA]),lA]),w];refine aF λi hi=>?_
   congr 1;unfold bC;rw[aa (l:=A),af (by lia)];rfl
  ·rw[aa,aJ (by rw[ah];lia)];refine (b7 λi hi=>?_).symm
   have:bC A c i=0:=by
    unfold bC;rw[aa (l:=A),aJ (by lia)];rfl
   rw[this,dC]
end
section
variable {mv pt lk sts pus R F G L:LR9} {wish x row p0 me:List Rat} {ps:List Nat} {n i m:Nat}
theorem Sq:bC rows k t=(rows.getD k []).getD t 0:=rfl
theorem RB (hk:k < i+1) (ht:t < R.length):bC (fR R n i) k t=bC R t (n+k):=by
 unfold fR bC;rw[aa (l:=cm _ _),qq hk];show ((R.map (·.drop n)).map λxs=>xs.getD k 0).getD t 0=_
 rw[List.map_map,getD_map ht,aa (l:=R),af ht];show (R[t].drop n).getD k 0=R[t].getD (n+k) 0
 rw[aa,Fw,aa]
theorem Oe (lA:A.length=n) (wA:∀xs∈A,xs.length=n) (lr:row.length=n) (lw:wish.length=n):∀k,k<=n->∀y:Nat->Rat,dF n (λc=>(vA A row wish k).getD c 0) y=dF n (λc=>row.getD c 0) (pF n (bC A) k y) - aS k λl=>wish.getD (n - k+l) 0*dF n (λc=>row.getD c 0) (pF n (bC A) l y):=by
 have tk:∀(r:List Rat) (y:Nat->Rat),r.length=n->dF n (λc=>(Cz A r).getD c 0) y=dF n (λc=>r.getD c 0) (mF n (bC A) y):=λr y hr=>by
  unfold dF mF
  have e:∀c,c < n->(Cz A r).getD c 0=aS n λa=>bC A a c*r.getD a 0:=λc hc=>by
   unfold Cz;rw[aa,az,lA,qq hc];show eT (A.map λxs=>xs.getD c 0) r=_
   rw[gP (by rw[ah,lA,hr]),ah,lA];refine aF λa ha=>?_
   rw[getD_map (by lia)];unfold bC;rw[aa (l:=A),af (by lia)];rfl
  have e1:∀c,c < n->(Cz A r).getD c 0*y c=aS n λa=>r.getD a 0*(bC A a c*y c):=λc hc=>by
   rw[e c hc,cT,<- cg];exact aF λa _=>by grind
  rw[aF e1,eY];exact aF λa _=>by rw[cg]
 intro k
 induction k with
 | zero =>
  intro _ y;show dF n (λc=>row.getD c 0) y=dF n (λc=>row.getD c 0) y - 0
  generalize dF n (λc=>row.getD c 0) y=q;clear tk;grind
 | succ k ih =>
  intro hk y;have la:=wH (mv:=A) (wish:=wish) (show row.length=A.length by rw[lr,lA]) k;rw[lA] at la
  have e1:dF n (λc=>(vA A row wish (k+1)).getD c 0) y=dF n (λc=>(Cz A (vA A row wish k)).getD c 0+-(wish.getD (n - 1 - k) 0)*row.getD c 0) y:=aF λc hc=>by
   have lt:(Cz A (vA A row wish k)).length=n:=by rw[Cy,lA]
   dsimp only
   congr 1;show (List.zipWith _ _ _).getD c 0=_
   rw[Kk (by rw[lt,ah,lr]) (by lia),getD_map (by lia),lw,aa (l:=row),af (by lia),ib];grind
  have e2:dF n (λc=>(Cz A (vA A row wish k)).getD c 0+-(wish.getD (n - 1 - k) 0)*row.getD c 0) y=dF n (λc=>(Cz A (vA A row wish k)).getD c 0) y+-(wish.getD (n - 1 - k) 0)*dF n (λc=>row.getD c 0) y:=by
   unfold dF;rw[<- cg,<- gg];exact aF λc _=>by grind
  rw[e1,e2,tk _ _ la,ih (by lia),<- oT,mi,show n - (k+1)+0=n - 1 - k by lia];have e3:(aS k λl=>wish.getD (n - k+l) 0*dF n (λc=>row.getD c 0) (pF n (bC A) l (mF n (bC A) y)))=aS k λl=>wish.getD (n - (k+1)+(l+1)) 0*dF n (λc=>row.getD c 0) (pF n (bC A) (l+1) y):=aF λl _=>by rw[<- oT,show n - (k+1)+(l+1)=n - k+l by lia]
  rw[e3];show _=_ - (wish.getD (n - 1 - k) 0*dF n _ y+_)
  grind
set_option maxHeartbeats 4000000 in
theorem NP (D:gF mv pt lk) (C:Fo mv pt sts pus) (lp:pus.length=mv.length) (RR:bX ((jm sts (pus++[List.replicate pt.length 0]) mv.length).drop 1) (mv.length+pt.length+1) R ps) (hps:ps.length=mv.length) (lq:wish.length=mv.length)
  (hF:F=(fR R mv.length pt.length).take pt.length) (hr:row=(fR R mv.length pt.length).getD pt.length []) (hm:me=vA (fw mv pt F) row wish wish.length) (hp:p0=(pus++[List.replicate pt.length 0]).getD 0 []) (hG:G=List.zipWith (λrow b=>List.zipWith (λx y=>x - y) row (me.map λy=>b*y)) F p0) :
  ∀x:List Rat,x.length=mv.length->∀c,(dH (fw mv pt G) mv.length x).getD c 0=aS mv.length λi=>wish.getD i 0*(dH (fw mv pt G) i x).getD c 0:=by
 obtain ⟨n,en⟩:∃n,mv.length=n:=⟨_,rfl⟩;obtain ⟨gv,eg⟩:∃gv,pus++[List.replicate pt.length (0:Rat)]=gv:=⟨_,rfl⟩;rw[eg] at RR hp;rw[en] at lp RR hps lq hF hr ⊢;have lR:R.length=n:=by rw[RR.1,hps]
 have lg:gv.length=n+1:=by rw[<- eg,au,lp];rfl
 have wg:∀xs∈gv,xs.length=pt.length:=λxs hx=>by
  rw[<- eg] at hx;rcases aD.mp hx with hx | hx
  ·exact C.wpu xs hx
  ·rw[bB.mp hx,cp]
 have ls:sts.length=n+1:=by rw[C.len,lp]
 have ws:∀xs∈sts,xs.length=n:=λxs hx=>by rw[C.wide xs hx,en]
 have lL:((jm sts gv n).drop 1).length=n:=by unfold jm;rw[ic,ah,bI];rfl
 have lnr:=λj (hj:j < n)=>Ql (i:=pt.length) ls lg ws wg hj
 obtain ⟨_,cf,ba⟩:=Qm C lp en (λj hj c hc=>(lnr j hj).1 c hc) lL RR hps;obtain ⟨S9,eS⟩:∃S,fR R n pt.length=S:=⟨_,rfl⟩;rw[eS] at hF hr;have lS:S9.length=pt.length+1:=by rw[<- eS];exact dz
 have wS:∀xs∈S9,xs.length=n:=λxs hx=>by rw[<- eS] at hx;rw[iL xs hx,ah,lR]
 have fS:∀k,k < pt.length+1->∀t,t < n->bC S9 k t=bC R t (n+k):=λk hk t ht=>by rw[<- eS];exact RB hk (by lia)
 have lF:F.length=pt.length:=by rw[hF,bZ];lia
 have fF:∀k,k < pt.length->∀t,bC F k t=bC S9 k t:=λk hk t=>by
  rw[hF];unfold bC;rw[aa (l:=S9.take _),vC hk,<- aa]
 have tell:∀j,j < n->∀k,k < pt.length->aS n (λt=>bC F k t*bC sts (j+1) t)=bC gv (j+1) k:=λj hj k hk=>by
  rw[<- (lnr j hj).2.1 k hk,cf j hj];exact aF λt ht=>by rw[fF k hk,fS k (by lia) t ht,cT]
 have tellg:∀j,j < n->aS n (λt=>row.getD t 0*bC sts (j+1) t)=if j+1=n then 1 else 0:=λj hj=>by
  rw[<- (lnr j hj).2.2,cf j hj];refine aF λt ht=>?_
  rw[hr,<- Sq,fS _ (by lia) t ht,cT]
 have lr:row.length=n:=by
  rw[hr,aa,af (by lia)];exact wS _ (aB _)
 have sw:∀j,j < n+1->∀c,n<=c->bC sts j c=0:=λj hj c hc=>by
  unfold bC;rw[aa (l:=sts),af (by lia),aa,aJ (by rw[ib,ws _ (aB _)];exact hc)];rfl
 have far:∀{X:LR9} {c t:Nat},X.length=n->n<=c->bC X c t=0:=λ{X c t} h hc=>by
  unfold bC;rw[aa (l:=X),aJ (by lia)];rfl
 have lA:(fw mv pt F).length=n:=by rw[fD,en]
 have wA:∀xs∈fw mv pt F,xs.length=n:=λxs hx=>by rw[IG xs hx,en]
 have lA':(fw mv pt G).length=n:=by rw[fD,en]
 have wA':∀xs∈fw mv pt G,xs.length=n:=λxs hx=>by rw[IG xs hx,en]
 have lp0:p0.length=pt.length:=by
  rw[hp,aa,af (by lia)];exact wg _ (aB _)
 have lme:me.length=n:=by
  rw[hm];have:=wH (wish:=wish) (show row.length=(fw mv pt F).length by rw[lr,lA]) wish.length;rw[this,lA]
 have wF:∀xs∈F,xs.length=n:=λxs hx=>wS xs (by rw[hF] at hx;exact bW hx)
 have fG:∀k,k < pt.length->∀b,b < n->bC G k b=bC F k b - p0.getD k 0*me.getD b 0:=λk hk b hb=>by
  have w1:=wF _ (aB (l:=F) (n:=k) (by lia));rw[hG];unfold bC;rw[aa (l:=List.zipWith _ _ _),bF,af (show k < F.length by lia),af (show k < p0.length by lia),aa (l:=F),af (show k < F.length by lia),aa (l:=p0),af (show k < p0.length by lia)];show (List.zipWith (λx y=>x - y) F[k] (me.map λy=>p0[k]*y)).getD b 0=_
  rw[Kk (by rw[w1,ah,lme]) (by lia),getD_map (by lia),aa (l:=me),af (by lia)];rfl
 have s1:∀c,c < n->bC sts 1 c=aS pt.length λl=>p0.getD l 0*bC pt l c:=λc hc=>by
  have:=C.step 0;rcases dg n with z | z
  ·lia
  rw[this (by lia) c,b7 λt ht=>by rw[C.zero,iB],Rat.zero_add];refine aF λl hl=>?_
  congr 1;rw[hp,<- eg];unfold bC;rw[aa (l:=pus++_),bY (by lia),<- aa]
 intro x lx c;have pe:∀t,(dH (fw mv pt G) t x).getD c 0=pF n (bC (fw mv pt G)) t (λc=>x.getD c 0) c:=λt=>congrFun (K9 lA' wA' lx t) c
 rw[pe,aF λt _=>by rw[pe]];refine ack (A:=bC (fw mv pt F)) (g:=λc=>row.getD c 0) (m:=λc=>me.getD c 0) (w:=λj=>wish.getD j 0) (s:=bC sts) ?_ ?_ ?_ ?_ (λy=>∀c,n<=c->y c=0) ?_ ?_ ?_ (λc=>x.getD c 0) (λc hc=>by rw[aa,aJ (by lia)];rfl) c
 ·intro j h1 h2;funext a;unfold mF;rcases aT a n with ha | ha
  ·obtain ⟨j,rfl⟩:∃j',j=j'+1:=⟨j - 1,by lia⟩;rw[C.step (j+1) (by lia) a,en]
   have e:∀b,b < n->bC (fw mv pt F) a b*bC sts (j+1) b=bC mv a b*bC sts (j+1) b+aS pt.length λk=>bC pt k a*(bC F k b*bC sts (j+1) b):=λb hb=>by
    rw[DB (by lia) (by lia),Rat.add_mul,cT (aS _ _),<- cg];congr 1;exact aF λk _=>by grind
   rw[aF e,gg,eY];congr 1;refine aF λk hk=>?_
   rw[cg,tell j (by lia) k hk,cT];congr 1;rw[<- eg];unfold bC;rw[aa (l:=pus++_),bY (by lia),<- aa]
  ·rw[sw (j+1) (by lia) a ha];exact b7 λb _=>by rw[far lA ha,dC]
 ·intro j h1 h2;obtain ⟨j,rfl⟩:∃j',j=j'+1:=⟨j - 1,by lia⟩;exact tellg j (by lia)
 ·intro y;have:=Oe lA wA lr lq n (aj _) y;rw[hm,lq,this];congr 1;exact aF λl _=>by rw[iC,Nat.zero_add]
 ·intro y;funext a;unfold mF;rcases aT a n with ha | ha
  ·have e:∀b,b < n->bC (fw mv pt G) a b*y b=bC (fw mv pt F) a b*y b+-(bC sts 1 a)*(me.getD b 0*y b):=λb hb=>by
    rw[DB (by lia) (by lia),DB (by lia) (by lia),s1 a ha]
    have e2:(aS pt.length λk=>bC pt k a*bC G k b)=(aS pt.length λk=>bC pt k a*bC F k b)+-(me.getD b 0)*aS pt.length λl=>p0.getD l 0*bC pt l a:=by
     rw[<- cg,<- gg];exact aF λk hk=>by rw[fG k hk b hb];grind
    rw[e2];grind
   rw[aF e,gg,cg];unfold dF;grind
  ·rw[b7 λb _=>by rw[far lA' ha,dC],b7 λb _=>by rw[far lA ha,dC],show bC sts 1 a=0 from by
    rcases dg n with z | z
    ·unfold bC;rw[aa (l:=sts),aJ (by lia)];rfl
    ·exact sw 1 (by lia) a ha]
   grind
 ·intro y hy
  have:∀t,∃z:Nat->Rat,t < n->∀c,c < n->aS n (λj=>z j*bC sts (j+1) c)=if t=c then 1 else 0:=λt=>by
   by_cases ht:t < n
   ·obtain ⟨z,hz⟩:=ba t ht;exact ⟨z,λ_=>hz⟩
   ·exact ⟨λ_=>0,λh=>absurd h ht⟩
  obtain ⟨z,hz⟩:=Classical.axiomOfChoice this;refine ⟨λj=>aS n λt=>y t*z t j,?_⟩;funext c;rcases aT c n with hc | hc
  ·have e:∀j,(aS n λt=>y t*z t j)*bC sts (j+1) c=aS n λt=>y t*(z t j*bC sts (j+1) c):=λj=>by
    rw[cT,<- cg];exact aF λt _=>by grind
   rw[aF λj _=>e j,eY,fZ hc λt ht ne=>by rw[cg,hz t ht c hc,if_neg ne,iB],cg,hz c hc c hc,if_pos rfl,Rat.mul_one]
  ·rw[hy c hc];exact (b7 λj hj=>by rw[sw (j+1) (by lia) c hc,iB]).symm
 ·intro y _ c hc;exact b7 λb _=>by rw[far lA' hc,dC]
 ·intro y hy c hc
  have z:∀t,pF n (bC (fw mv pt G)) t y c=0:=λt=>by
   cases t with
   | zero=>exact hy c hc
   | succ t=>exact b7 λb _=>by rw[far lA' hc,dC]
  dsimp only
  rw[z,b7 λt _=>by rw[z,iB]];grind
end
section
variable {mv pt lk G:LR9} {st x:List Rat} {M1 M2 V a1 a2 c N Mg p q ν μ t T:Nat}
theorem Qz (h1:Fr M W f) (h2:Fr M W m) (hb:b=0\/b=1):Fr M (W+W) (f - b*m):=by
 rcases hb with rfl | rfl
 ·rw[dC,Fp,Rat.neg_zero,rX];exact h1.mono (ot _ _)
 ·rw[Mx];exact h1.sub h2
theorem II (D:gF mv pt lk) (lx:x.length=mv.length) (lG:G.length=pt.length) (wG:∀xs∈G,xs.length=mv.length):ft mv pt x (kb G x)=kb (fw mv pt G) x:=by
 have l1:(ft mv pt x (kb G x)).length=mv.length:=HU D;refine Dn (by rw[l1,oW,fD]) λa ha=>?_
 rw[l1] at ha
 have e1:(kb (fw mv pt G) x).getD a 0=aS mv.length λb=>bC (fw mv pt G) a b*x.getD b 0:=by
  unfold kb;have w:=IG _ (aB (l:=fw mv pt G) (n:=a) (by rw[fD];exact ha));rw[getD_map (by rw[fD];exact ha),gP (by rw[w,lx]),w];refine aF λb _=>?_
  congr 1;unfold bC;rw[aa (l:=fw mv pt G),af (by rw[fD];exact ha)];rfl
 rw[EJ D lx (by unfold kb;rw[ah,lG]) ha,e1]
 have e2:∀k,k < pt.length->(kb G x).getD k 0=aS mv.length λb=>bC G k b*x.getD b 0:=λk hk=>by
  unfold kb;have w:=wG _ (aB (l:=G) (n:=k) (by lia));rw[getD_map (by lia),gP (by rw[w,lx]),w];refine aF λb _=>?_
  congr 1;unfold bC;rw[aa (l:=G),af (by lia)];rfl
 have e3:∀b,b < mv.length->bC (fw mv pt G) a b*x.getD b 0=bC mv a b*x.getD b 0+aS pt.length λk=>bC pt k a*(bC G k b*x.getD b 0):=λb hb=>by
  rw[DB ha hb,Rat.add_mul,cT (aS _ _),<- cg];congr 1;exact aF λk _=>by grind
 rw[aF e3,gg,eY];congr 1;refine aF λk hk=>?_
 rw[e2 k hk,cg,cT]
theorem kY (lx:x.length=mv.length) (t:Nat):(dH (fw mv pt G) t x).length=mv.length:=by
 have:=HK (mv:=fw mv pt G) (st:=x) (by rw[fD];exact lx) t;rwa [fD] at this
theorem Mq (X:Bd mv pt M1 M2 V a1 a2 c) (D:gF mv pt lk) (ls:st.length=mv.length) (lG:G.length=pt.length) (wG:∀xs∈G,xs.length=mv.length) (N0:0 < N) (Nb:N<=2^ν) (hs:∀x∈st,Fr N (2^p) x) (Mg0:0 < Mg) (Mgb:Mg<=2^μ) (hG:∀xs∈G,∀z∈xs,Fr Mg (2^q) z) (hT:ν+T*(a1+a2+μ)+p+T*(q+3+c)+a1+a2+μ+q+c+10<=195000):(∃NT,0 < NT/\NT<=2^(ν+T*(a1+a2+μ))/\∀t,t<=T->∀x∈dH (fw mv pt G) t st,Fr NT (2^(p+T*(q+3+c))) x)/\∀t,t<=T->(∀xs∈G,vw xs (dH (fw mv pt G) t st))/\SA mv pt (dH (fw mv pt G) t st) (kb G (dH (fw mv pt G) t st)):=by
 have d8:=D.n8
 have key:∀t,t<=T->∀Nt,0 < Nt->Nt<=2^(ν+t*(a1+a2+μ))->(∀x∈dH (fw mv pt G) t st,Fr Nt (2^(p+t*(q+3+c))) x)->(∀xs∈G,vw xs (dH (fw mv pt G) t st))/\SA mv pt (dH (fw mv pt G) t st) (kb G (dH (fw mv pt G) t st))/\∃Nn,Nt∣Nn/\0 < Nn/\Nn<=2^(ν+(t+1)*(a1+a2+μ))/\∀x∈dH (fw mv pt G) (t+1) st,Fr Nn (2^(p+(t+1)*(q+3+c))) x:=by
  intro t ht Nt h0 hb hf;have e1:t*(a1+a2+μ)<=T*(a1+a2+μ):=aw _ ht;have e2:t*(q+3+c)<=T*(q+3+c):=aw _ ht;have lx:=kY (pt:=pt) (G:=G) ls t
  have hu:∀z∈kb G (dH (fw mv pt G) t st),Fr (Mg*Nt) (2^(p+t*(q+3+c)+q+3)) z:=λz hz=>by
   unfold kb at hz;obtain ⟨xs,hx,rfl⟩:=ax.mp hz;refine (Fr.dot (hG xs hx) hf).mono ?_;rw[wG xs hx,show p+t*(q+3+c)+q+3=3+(q+(p+t*(q+3+c))) by lia,bh 2 3,bh 2 q];exact aw _ (show mv.length<=2^3 by lia)
  have N1:0 < M2*(Mg*Nt):=cv X.m2 (cv Mg0 h0)
  have N1b:M2*(Mg*Nt)<=2^(a2+(μ+(ν+t*(a1+a2+μ)))):=by
   rw[bh,bh];exact aX X.b2 (aX Mgb hb)
  obtain ⟨nx,mf⟩:=X.next D (st:=dH (fw mv pt G) t st) (pu:=kb G (dH (fw mv pt G) t st)) (N:=M2*(Mg*Nt)) (Np:=Mg*Nt) (p:=p+t*(q+3+c)+q+3) (ν:=a2+(μ+(ν+t*(a1+a2+μ)))) lx (by unfold kb;rw[ah,lG]) N1 (cS _ _) (λx hx=>Fr.up (hf x hx) (kC (cS _ _) (cS _ _)) (dW (by lia))) hu N1b (by lia) (by lia);refine ⟨λxs hx=>⟨μ,q,ν+t*(a1+a2+μ),p+t*(q+3+c),⟨Mg,_,Mg0,Mgb,aj _,hG xs hx⟩,⟨Nt,_,h0,hb,aj _,hf⟩,by lia⟩,nx,M1*(M2*(Mg*Nt)),kC (kC (cS _ _) (cS _ _)) (cS _ _),cv X.m1 N1,?_,?_⟩
  ·refine ag (aX X.b1 N1b) ?_;rw[<- bh];exact dW (by rw[dZ];lia)
  ·rw[II D lx lG wG] at mf;exact λx hx=>(mf x hx).mono (dW (by rw[dZ];lia))
 have all:∀t,t<=T->∃Nt,0 < Nt/\Nt<=2^(ν+t*(a1+a2+μ))/\∀s,s<=t->∀x∈dH (fw mv pt G) s st,Fr Nt (2^(p+t*(q+3+c))) x:=by
  intro t
  induction t with
  | zero=>intro _;exact ⟨N,N0,by rw[Nat.zero_mul];exact Nb,λs h x hx=>by rw[Nat.zero_mul];rw[show s=0 by lia] at hx;exact hs x hx⟩
  | succ t ih =>
   intro ht;obtain ⟨Nt,h0,hb,hf⟩:=ih (by lia);obtain ⟨_,_,Nn,dv,n0,nb,nf⟩:=key t (by lia) Nt h0 hb (hf t (aj _));refine ⟨Nn,n0,nb,λs hs' x hx=>?_⟩;rcases aT t s with z | z
   ·rw[show s=t+1 by lia] at hx;exact nf x hx
   ·exact Fr.up (hf s z x hx) dv (dW (by rw[dZ];lia))
 refine ⟨all T (aj _),λt ht=>?_⟩;obtain ⟨Nt,h0,hb,hf⟩:=all t ht;obtain ⟨k1,k2,_⟩:=key t ht Nt h0 hb (hf t (aj _));exact ⟨k1,k2⟩
theorem pow_add {A:LR9} {x:List Rat} {u:Nat}:∀t,dH A t (dH A u x)=dH A (u+t) x
 | 0=>rfl
 | t+1=>by
  show kb A (dH A t (dH A u x))=kb A (dH A (u+t) x)
  rw[pow_add t]
theorem ON (lx:st.length=mv.length) (lw:wish.length=mv.length) (h:∀x:List Rat,x.length=mv.length->∀c,(dH (fw mv pt G) mv.length x).getD c 0=aS mv.length λi=>wish.getD i 0*(dH (fw mv pt G) i x).getD c 0) (u:Nat):Ou ((List.range mv.length).map λi=>dH (fw mv pt G) (u+i) st) wish mv.length=dH (fw mv pt G) (u+mv.length) st:=by
 have wl:(Ou ((List.range mv.length).map λi=>dH (fw mv pt G) (u+i) st) wish mv.length).length=mv.length:=sY;refine Dn (by rw[wl,kY lx]) λc hc=>?_
 rw[wl] at hc;rw[GW hc,lw,<- pow_add,h _ (kY lx u) c];refine aF λi hi=>?_
 congr 1;unfold bC;rw[aa (l:=List.map _ _),az,bo hi,pow_add];rfl
theorem Jc:Ou rows (List.replicate k 0) n=List.replicate n 0:=by
 have wl:(Ou rows (List.replicate k 0) n).length=n:=sY;refine Dn (by rw[wl,cp]) λc hc=>?_
 rw[wl] at hc
 have z:∀(m j:Nat),(List.replicate m (0:Rat)).getD j 0=0:=λm j=>by
  rw[aa,l9]
  split <;> rfl
 rw[GW hc,z,b7 λi _=>by rw[z,dC]]
theorem FO (ls:st.length=mv.length) (lw:wish.length=mv.length) (h:∀x:List Rat,x.length=mv.length->∀c,(dH (fw mv pt G) mv.length x).getD c 0=aS mv.length λi=>wish.getD i 0*(dH (fw mv pt G) i x).getD c 0) (z:wish=List.replicate mv.length 0):((List.range (mv.length+2+1)).map λt=>dH (fw mv pt G) t st).drop mv.length=List.replicate 3 (List.replicate mv.length 0):=by
 have e:∀u,dH (fw mv pt G) (u+mv.length) st=List.replicate mv.length 0:=λu=>by rw[<- ON ls lw h u,z,Jc]
 refine dO (by rw[ic,ah,bI,cp];lia) λi h1 h2=>?_
 rw[List.getElem_drop,dN,kR,List.getElem_replicate,fE,e]
theorem Bg (ls:st.length=mv.length) (lw:wish.length=mv.length) (h:∀x:List Rat,x.length=mv.length->∀c,(dH (fw mv pt G) mv.length x).getD c 0=aS mv.length λi=>wish.getD i 0*(dH (fw mv pt G) i x).getD c 0) (z:wish=(List.range mv.length).map λj=>if j=0 then (1:Rat) else 0):dH (fw mv pt G) mv.length st=st:=by
 refine Dn (by rw[kY ls,ls]) λc hc=>?_
 rw[kY ls] at hc;rw[h st ls c,fZ (show 0 < mv.length by lia) λj hj ne=>?_]
 ·have:wish.getD 0 0=1:=by rw[z,aa,az,bo (by lia)];rfl
  rw[this,Mx];rfl
 ·have:wish.getD j 0=0:=by
   rw[z,aa,az,bo hj];exact if_neg ne
  rw[this,dC]
end
structure QR (n T:Nat) (S:Nat->List Rat) (ws:List Rat):Prop where
 len:∀t,(S t).length=n
 sz:∀t,t<=T->∀x∈S t,j4 x
 sw:∀w∈ws,j4 w
 mul:∀w∈ws,∀t,t<=T->∀x∈S t,j4 (w*x)
 tot:∀u j,u+n<=T->j<=n->∀x∈GX ((List.range n).map λi=>S (u+i)) ws n j,j4 x
section
variable {T:Nat}
theorem NO (hl:∀t,(S t).length=n) (n8:n<=8) (N0:0 < NT) (Nb:NT<=2^a) (hS:∀t,t<=T->∀x∈S t,Fr NT (2^b) x) (hw:∃Mw,0 < Mw/\Mw<=2^50/\∀z∈ws,Tp Mw (2^50) z) (lw:ws.length=n) (hz:a+b+120<=195000):QR n T S ws:=by
 obtain ⟨Mw,m0,mb,tw⟩:=hw;have tS:∀t,t<=T->∀x∈S t,Tp NT (2^(b+a)) x:=λt ht x hx=>Tp.of (hS t ht x hx) (by rw[bh];exact cN _ Nb)
 have pb:Mw*NT<=2^(50+a):=gK mb Nb;refine ⟨hl,λt ht x hx=>kl (tS t ht x hx) N0 (ag Nb (dW (by lia))) (dW (by lia)),λw h=>kl (tw w h) m0 (ag mb (dW (by decide))) (dW (by decide)),λw h t ht x hx=>kl ((tw w h).mul (tS t ht x hx)) (cv m0 N0) (ag pb (dW (by lia))) (by rw[<- bh];exact dW (by lia)),λu j hu hj x hx=>?_⟩;obtain ⟨c,_,rfl⟩:=ax.mp hx
 have t:=Tp.sum (k:=j) (M:=Mw*NT) (W:=2^50*2^(b+a)) (f:=λi=>ws.getD i 0*bC ((List.range n).map λi=>S (u+i)) i c) λi hi=>by
  refine (kD tw i).mul ?_;unfold bC;rw[aa (l:=List.map _ _),az,bo (by lia)];exact kD (tS (u+i) (by lia)) c
 refine kl t (cv m0 N0) (ag pb (dW (by lia))) ?_;rw[<- bh];refine ag (aw _ (show j<=2^3 by lia)) ?_;rw[<- bh];exact dW (by lia)
end
structure Fl (K:FG9) (C:Addr) (H0 H:Hp) (sy:Addr) (mv pt lk:LR9):Prop where
 S:kH K H0 H C sy mv pt lk
 D:gF mv pt lk
 F:MB mv pt lk
 Y:Of mv pt lk
theorem Fl.same {K:FG9} (h:Fl K C H0 H sy mv pt lk) (s:aI H H'):Fl K C H0 H' sy mv pt lk:=⟨h.S.same s,h.D,h.F,h.Y⟩
def GG (wish:List Rat):Prop:=∃Mw,0 < Mw/\Mw<=2^50/\∀z∈wish,Tp Mw (2^50) z
inductive D7 (K:FG9) (C:Addr) (vs:List V) (H:Hp) (Q:VK) (E9:XK):Prop
 | mk (sy wq:Addr) (H0:Hp) (mv pt lk R:LR9) (ps:List Nat) (wish:List Rat):vs=[.ref sy,.ref wq]->Fl K C H0 H sy mv pt lk->cP K H wq wish->wish.length=mv.length->GG wish->bX (jw mv pt mv.length) mv.length R ps->(ps.length=mv.length->∀t r G H',aI H H'->H' t=some (.tup [.str (Str.ofString "yes"),.ref r])->H r=none->bG K H H' r G->G.length=pt.length->(∀xs∈G,xs.length=mv.length)->SG mv pt wish G->Q (.ref t) H')->(ps.length < mv.length->∀t H',aI H H'->H' t=some (.tup [.str (Str.ofString "no"),.non])->Q (.ref t) H')->D7 K C vs H Q E9
inductive Ei (K:FG9) (vs:List V) (H:Hp) (Q:VK) (E9:XK):Prop
 | mk (r g s:Addr) (T:Nat) (H0 H1:Hp) (mv pt lk G:LR9) (st:List Rat):vs=[.ref r,.ref g,.ref s,.int T]->lY K H0 H r mv pt lk->gF mv pt lk->bG K H1 H g G->G.length=pt.length->(∀xs∈G,xs.length=mv.length)->cP K H s st->st.length=mv.length->T<=20->(∀t,t<=T->(∀xs∈G,vw xs (dH (fw mv pt G) t st))/\SA mv pt (dH (fw mv pt G) t st) (kb G (dH (fw mv pt G) t st)))->(∀l us H',H l=none->aI H H'->H' l=some (.lst us)->Paired (cU K (F1 l) H') ((List.range (T+1)).map λt=>dH (fw mv pt G) t st) us->Q (.ref l) H')->Ei K vs H Q E9
inductive yF (K:FG9) (vs:List V) (H:Hp) (Q:VK) (E9:XK):Prop
 | mk (l w:Addr) (n T:Nat) (S:Nat->List Rat) (ws:List Rat) (us:List V) (H0:Hp):vs=[.ref l,.ref w]->H l=some (.lst us)->Paired (cU K H0 H) ((List.range (T+1)).map S) us->n<=T->T<=20->cP K H w ws->ws.length=n->QR n T S ws->(∀u,Ou ((List.range n).map λi=>S (u+i)) ws n=S (u+n))->(∀H',aI H H'->Q (.bl true) H')->yF K vs H Q E9
inductive Bx (K:FG9) (C:Addr) (vs:List V) (H:Hp) (Q:VK) (E9:XK):Prop
 | mk (r sy wq s:Addr) (N M1 M2 V:Nat) (H0 H1:Hp) (mv pt lk R:LR9) (ps:List Nat) (wish st:List Rat):vs=[.ref r,.ref sy,.ref wq,.ref s]->lY K H0 H r mv pt lk->Fl K C H1 H sy mv pt lk->mv.length<=4->Bd mv pt M1 M2 V 40 80 23->cP K H wq wish->wish.length=mv.length->GG wish->cP K H s st->st.length=mv.length->0 < N->N<=2^50->(∀x∈st,Fr N (2^50) x)->bX (jw mv pt mv.length) mv.length R ps->ps.length=mv.length->(∀H',aI H H'->Q (.bl true) H')->Bx K C vs H Q E9
theorem Nr (P:Tt n i o w c mv pt lk) (lm:mv.length=n) (n4:n<=4) (i4:i<=4) (hw:(n<=4/\w<=9)\/(n<=2/\c=10)):∃M1 M2 V,Bd mv pt M1 M2 V 40 80 23:=by
 obtain ⟨M1,M2,M3,V1,p1,p2',p3,g1,g2,g3,hc⟩:=P;rcases hc with ⟨w9,rfl,rfl,rfl,rfl⟩ | ⟨w9,b1,b2,b3,rfl⟩
 ·exact ⟨_,_,_,p1,p2',by decide,by decide,g1,g2,ag (aw _ (show mv.length+4<=8 by lia)) (by decide)⟩
 ·obtain ⟨n2,rfl⟩:n<=2/\c=10:=by lia
  have e1:10*(n*n)<=40:=by have:n*n<=2*2:=aX n2 n2;lia
  have e2:10*(i*n)<=80:=by have:i*n<=4*2:=aX i4 n2;lia
  exact ⟨_,_,_,p1,p2',ag b1 (dW e1),ag b2 (dW e2),g1,g2,ag (aw _ (show mv.length+4<=6 by lia)) (by decide)⟩
theorem LY {l:List Rat} (h:∀x∈l,Dr (max f 6) x) (hf:(f=9/\l.length<=4)\/(f=1000/\l.length<=2)):∃B,0 < B/\B<=2^22/\∀x∈l,Fr B (2^22) x:=by
 rcases hf with ⟨rfl,hl⟩ | ⟨rfl,hl⟩
 ·obtain ⟨B,h0,h1,h2⟩:=BM (c:=4) (l:=l) (λx hx=>⟨ag (h x hx).1 (by decide),ag (h x hx).2 (by decide)⟩) (by decide);exact ⟨B,h0,ag h1 (dW (by lia)),h2⟩
 ·obtain ⟨B,h0,h1,h2⟩:=BM (c:=10) (l:=l) (λx hx=>⟨ag (h x hx).1 (by decide),ag (h x hx).2 (by decide)⟩) (by decide);exact ⟨B,h0,ag h1 (dW (by lia)),h2⟩
theorem Pc (h:∃B,0 < B/\B<=2^22/\∀x∈l,Fr B (2^22) x):GG l:=by
 obtain ⟨B,h0,h1,h2⟩:=h;exact ⟨B,h0,ag h1 (dW (by decide)),λz hz=>Tp.of (h2 z hz) (ag (cN _ h1) (by rw[<- bh];exact dW (by decide)))⟩
theorem Ov (h:∀z∈l,z=0\/z=1):GG l:=⟨1,by decide,b8,λz hz=>Ko b8 (h z hz)⟩
end L2
open L2
local macro_rules | `(tactic| walk_at "hl") => `(tactic| first | (show _ ≤ sizeLine; with_unfolding_all decide) | (with_unfolding_all exact (by decide)))
local macro_rules | `(tactic| walk_at "sq") => `(tactic| first | with_reducible assumption | with_reducible exact pZ.of (by assumption) | with_reducible exact bE.of (by assumption) | with_reducible exact pZ.of aH | with_reducible exact bE.of aH | assumption)
local macro_rules | `(tactic| walk_at "sc") => `(tactic| first | (with_reducible show (0 : Int) < _; decide) | with_reducible exact N8 (by decide) (by decide) | with_reducible exact IF (by decide) (by decide) | with_reducible exact cpow_of (by decide) (by decide) (by decide))
local macro_rules | `(tactic| walk_at "rd") => `(tactic| first
  | with_reducible refine PB ?_
  | with_reducible refine MY ?_
  | with_reducible refine P5 ?_
  | with_reducible refine K3 ?_
  | ((with_reducible refine' Px ?hx1 ?_); (case hx1 => with_unfolding_all rfl))
  | with_reducible refine S7 ?_
  | with_reducible refine RK ?_
  | with_reducible refine RN ?_
  | with_reducible refine RG ?_
  | with_reducible refine S8 ?_
  | with_reducible refine P1 ?_
  | with_reducible refine PL ?_
  | with_reducible refine PZ ?_
  | with_reducible refine rd_neS ?_
  | with_reducible refine rd_eqB ?_
  | with_reducible refine rd_neB ?_
  | with_reducible refine M6 ?_
  | with_reducible refine FP ?_
  | with_reducible refine PY ?_
  | with_reducible refine MV ?_
  | with_reducible refine M4 ?_
  | with_reducible refine M5 ?_
  | with_reducible refine K2 ?_
  | with_reducible refine MU ?_
  | with_reducible refine RH ?_
  | with_reducible refine PC ?_
  | with_reducible refine rd_retN ?_
  | with_reducible refine PU ?_
  | with_reducible refine P6 ?_
  | with_reducible refine RJ ?_
  | with_reducible refine PJ ?_
  | with_reducible refine Nj ?_
  | with_reducible refine PH ?_
  | with_reducible refine MX ?_
  | with_reducible refine PV ?_
  | with_reducible refine Pw ?_
  | with_reducible refine NQ ?_
  | with_reducible refine Sd ?_
  | with_reducible refine Se ?_
  | with_reducible refine Sf ?_
  | with_reducible refine OI ?_
  | with_reducible refine PK ?_
  | with_reducible refine Nf ?_
  | with_reducible refine Py ?_
  | with_reducible refine PM ?_
  | with_reducible refine Nh ?_
  | with_reducible refine RL ?_
  | with_reducible refine Nd ?_
  | with_reducible refine PD ?_
  | with_reducible refine Ni ?_
  | ((with_reducible refine' rd_aug ?hx1 ?_); (case hx1 => with_unfolding_all rfl))
  | with_reducible refine PR ?_
  | with_reducible refine M9 ?_
  | with_reducible refine K4 ?_
  | with_reducible refine Na ?_
  | with_reducible refine RI ?_
  | with_reducible refine Jq ?_
  | with_reducible refine MW ?_
  | with_reducible refine PX ?_
  | with_reducible refine KZ ?_
  | with_reducible refine M7 ?_
  | with_reducible refine KY ?_
  | with_reducible refine KW ?_
  | ((with_reducible refine' Ng ?hx1 ?_); (case hx1 => with_unfolding_all rfl))
  | with_reducible refine MT ?_
  | with_reducible refine RM ?_
  | with_reducible refine rd_bm0 ?_
  | with_reducible refine rd_brk ?_
  | ((with_reducible refine' M8 ?hx1 ?hx2 ?_); (case hx1 => walk_at "sq"); (case hx2 => with_unfolding_all rfl))
  | with_reducible refine rd_cont ?_
  | ((with_reducible refine' fM ?hx1 ?_); (case hx1 => walk_at "sc"))
  | ((with_reducible refine' PN ?hx1 ?hx2 ?_); (case hx1 => walk_at "sq"); (case hx2 => with_unfolding_all rfl))
  | ((with_reducible refine' cB ?hx1 ?hx2 ?_); (case hx1 => walk_at "sq"); (case hx2 => with_unfolding_all rfl))
  | ((with_reducible refine' Nc ?hx1 ?hx2 ?_); (case hx1 => walk_at "sq"); (case hx2 => with_unfolding_all rfl))
  | ((with_reducible refine' fA ?hx1 ?hx2 ?hx3 ?_); (case hx1 => with_reducible first | assumption | exact aH); (case hx2 => with_unfolding_all rfl); (case hx3 => with_unfolding_all rfl))
  | with_reducible refine ⟨_, rfl, ?_⟩
  | with_reducible refine ⟨_, _, rfl, ?_⟩)
local macro_rules | `(tactic| walk_at "w") => `(tactic| repeat walk_at "rd")
local macro_rules | `(tactic| walk_at "d") => `(tactic| exact ⟨rfl,rfl,rfl,by decide +kernel,rfl,by decide +kernel,by decide +kernel⟩)
namespace Lw
open PySem PySem.Spec PyProof.Rows L2 Nm
local macro_rules | `(tactic| exists $e) => `(tactic| (walk_at "w";refine $e))
set_option maxHeartbeats 4000000
def top (i:Nat):Stmt:=PySem.Challenge.pw_helmsum_k85_whole_wished_courses.main.body.getD i (.Pass ⟨0,0,0,0⟩)
abbrev tG:Stmt:=top 67
abbrev qK:Stmt:=top 68
abbrev kE:Stmt:=top 85
abbrev tD:Stmt:=top 69
abbrev m7:Stmt:=top 74
abbrev tz:Stmt:=top 75
abbrev qP:Stmt:=top 82
abbrev tx:Stmt:=top 70
abbrev qN:Stmt:=top 77
abbrev qM:Stmt:=top 72
abbrev vT:Stmt:=top 78
abbrev oM:Stmt:=top 83
abbrev oK:Stmt:=top 84
abbrev qF:Stmt:=top 55
abbrev tu:Stmt:=top 10
abbrev jI:Stmt:=top 11
abbrev qJ:Stmt:=top 13
abbrev yR:Stmt:=top 19
abbrev m6:Stmt:=top 56
abbrev dX:Stmt:=inClass (top 57) 0
abbrev m9:Stmt:=top 86
abbrev qQ:Stmt:=top 87
abbrev qG:Stmt:=top 24
abbrev ja:Stmt:=top 12
abbrev kq:Stmt:=top 23
abbrev oI:Stmt:=top 36
abbrev vR:Stmt:=top 38
abbrev oJ:Stmt:=top 37
abbrev CP:Stmt:=top 39
abbrev yQ:Stmt:=top 14
abbrev vN:Stmt:=top 40
abbrev vM:Stmt:=top 25
abbrev vQ:Stmt:=top 29
abbrev oG:Stmt:=top 46
abbrev mX:Stmt:=top 47
abbrev oC:Stmt:=top 48
abbrev c6:Stmt:=inClass (top 6) 0
abbrev tm:Stmt:=top 27
abbrev ko:Stmt:=top 33
abbrev vP:Stmt:=top 34
abbrev CT:Stmt:=top 16
abbrev vO:Stmt:=top 43
abbrev m5:Stmt:=top 35
abbrev CQ:Stmt:=top 44
abbrev iF:Stmt:=top 61
abbrev oE:Stmt:=top 26
abbrev mZ:Stmt:=top 30
abbrev oF:Stmt:=top 41
abbrev mY:Stmt:=top 62
abbrev fI:Stmt:=inClass (top 57) 1
abbrev CU:Stmt:=top 63
abbrev qI:Stmt:=top 21
abbrev oH:Stmt:=top 31
abbrev oB:Stmt:=top 50
abbrev CO:Stmt:=top 17
abbrev qH:Stmt:=top 22
abbrev CV:Stmt:=top 64
abbrev FJ:Stmt:=top 15
abbrev tq:Stmt:=top 20
abbrev yS:Stmt:=top 59
abbrev vL:Stmt:=top 65
abbrev qL:Stmt:=top 92
abbrev jJ:Stmt:=top 79
abbrev m8:Stmt:=top 80
abbrev kX:Stmt:=top 81
abbrev tE:Stmt:=top 76
abbrev vS:Stmt:=top 88
abbrev qO:Stmt:=top 89
abbrev oO:Stmt:=top 90
abbrev oN:Stmt:=top 91
abbrev qR:Stmt:=top 93
abbrev KG:Stmt:=top 94
set_option genInjectivity false in
set_option genSizeOf false in
structure Ads where
 Aq:Addr
 z9:FuncData
 xG:Addr
 xn:FuncData
 vg:Addr
 uT:FuncData
 Ao:Addr
 z7:FuncData
 sT:Addr
 sI:FuncData
 An:Addr
 z6:FuncData
 xM:Addr
 xv:FuncData
 Am:Addr
 zZ:FuncData
 xJ:Addr
 xt:FuncData
 xI:Addr
 xp:FuncData
 Cj:Addr
 BV:FuncData
 vm:Addr
 uV:FuncData
 vh:Addr
 uU:FuncData
 xB:Addr
 xg:FuncData
 Al:Addr
 zY:FuncData
 nZ:Addr
 nU:FuncData
 xF:Addr
 xm:FuncData
 E8:Addr
 EW:FuncData
 sS:Addr
 sH:FuncData
 jr:Addr
 jo:FuncData
 sV:Addr
 sL:FuncData
 xN:Addr
 xx:FuncData
 xC:Addr
 xh:FuncData
 mL:Addr
 mK:FuncData
 pW:Addr
 pT:FuncData
 ve:Addr
 uR:FuncData
 Cg:Addr
 BS:FuncData
 vf:Addr
 uS:FuncData
 IP:Addr
 Iy:FuncData
 E7:Addr
 EV:FuncData
 Cd:Addr
 BP:FuncData
 wI:Addr
 wB:FuncData
 wJ:Addr
 wC:FuncData
 vd:Addr
 uQ:FuncData
 sO:Addr
 sv:FuncData
 u6:Addr
 uN:FuncData
 eN:Addr
 gC:FuncData
 Aj:Addr
 zW:FuncData
 pV:Addr
 pS:FuncData
 Cf:Addr
 BR:FuncData
 IS:Addr
 IA:FuncData
 Ce:Addr
 BQ:FuncData
 sR:Addr
 sG:FuncData
 IQ:Addr
 Iz:FuncData
 lW:Addr
 lQ:FuncData
 u9:Addr
 uO:FuncData
 sQ:Addr
 sF:FuncData
 va:Addr
 uP:FuncData
 sP:Addr
 sE:FuncData
 lX:Addr
 lU:FuncData
 IT:Addr
 IB:FuncData
 xE:Addr
 xk:FuncData
 pL:Addr
 pH:FuncData
 uZ:Addr
 uM:FuncData
 IM:Addr
 Iw:FuncData
 xD:Addr
 xj:FuncData
 IU:Addr
 IC:FuncData
 Mr:Addr
 L7:FuncData
 Ak:Addr
 zX:FuncData
 Fb:Addr
 EX:FuncData
 Cc:Addr
 BO:FuncData
 xH:Addr
 xo:FuncData
 oa:Addr
 nV:FuncData
 sU:Addr
 sJ:FuncData
 rJ:Addr
 rE:FuncData
 Ap:Addr
 z8:FuncData
 Ci:Addr
 BU:FuncData
 xK:Addr
 xu:FuncData
 vq:Addr
 uX:FuncData
 vo:Addr
 uW:FuncData
 xO:Addr
 xy:FuncData
 O1:Addr
 O0:FuncData
 a_NOUGHT:Addr
 a_ONE:Addr
 t_MOST_STATES:Tok
 t_MOST_PUTS:Tok
 t_MOST_LOOKS:Tok
 a_System:Addr
 a_SumError:Addr
 a_NotSteered:Addr
structure Txt (K:W.Frag) (mg:Str->Option Value) (Z:Ads):Prop where
 rf:Df K mg "_law_bag" tG ["_law_script"] Z.Aq Z.z9
 bT:Df K mg "_law_take" qK ["_law_bag_here","_law_many"] Z.xG Z.xn
 nG:Df K mg "_law_sizes" kE ["_law_bag_here"] Z.vg Z.uT
 gN:Df K mg "_law_low" tD ["_law_top","_law_bottom"] Z.Ao Z.z7
 lM:Df K mg "_law_number" m7 ["_law_bag_here","_law_wide"] Z.sT Z.sI
 gM:Df K mg "_law_row" tz ["_law_bag_here","_law_many","_law_wide"] Z.An Z.z6
 pd:Df K mg "_law_move" qP ["_law_bag_here","_law_n","_law_way","_law_first","_law_wide"] Z.xM Z.xv
 iQ:Df K mg "_law_sum" tx ["_law_one","_law_other"] Z.Am Z.zZ
 ji:Df K mg "_law_plus" qN ["_law_one","_law_other"] Z.xJ Z.xt
 gZ:Df K mg "_law_prod" qM ["_law_one","_law_other"] Z.xI Z.xp
 lO:Df K mg "_law_by" vT ["_law_by_here","_law_row_here"] Z.Cj Z.BV
 nI:Df K mg "_law_mixed" oM ["_law_bag_here","_law_move_here","_law_put","_law_look"] Z.vm Z.uV
 nH:Df K mg "_law_parts" oK ["_law_bag_here","_law_n","_law_ins","_law_outs","_law_wide"] Z.vh Z.uU
 jh:Df K mg "want_list" qF ["thing","at","most"] Z.xB Z.xg
 mJ:Df K mg "is_whole" tu ["thing"] Z.Al Z.zY
 eZ:Df K mg "common_divisor" jI ["one","other"] Z.nZ Z.nU
 o7:Df K mg "is_number" qJ ["thing"] Z.xF Z.xm
 we:Df K mg "is_row" yR ["thing","many"] Z.E8 Z.EW
 gL:Df K mg "copied_rows" m6 ["things","wide"] Z.sS Z.sH
 jq:Binds K Z.jo ["self","move","put","look"] []
 mM:J8 K "__init__" "System.__init__" dX Z.jr Z.jo
 gO:Df K mg "_law_copied" m9 ["_law_grid"] Z.sV Z.sL
 ph:Df K mg "_law_made" qQ ["_law_parts_here"] Z.xN Z.xx
 fW:Df K mg "tops_over" qG ["row","bottom"] Z.xC Z.xh
 iG:Df K mg "common_multiple" ja ["wholes"] Z.mL Z.mK
 dI:Df K mg "common_bottom" kq ["row"] Z.pW Z.pT
 nE:Df K mg "first_with" oI ["lines","begin","place"] Z.ve Z.uR
 tP:Df K mg "cleared" vR ["lines","at","place","before"] Z.Cg Z.BS
 nF:Df K mg "brought_up" oJ ["lines","at","to"] Z.vf Z.uS
 uz:Df K mg "swept" CP ["rows","wide"] Z.IP Z.Iy
 iP:Df K mg "lowest" yQ ["top","bottom"] Z.E7 Z.EV
 lH:Df K mg "reduced" vN ["rows","wide"] Z.Cd Z.BP
 jO:Df K mg "row_dot" vM ["one","other"] Z.wI Z.wB
 jQ:Df K mg "grid_on" vQ ["grid","row"] Z.wJ Z.wC
 jX:Df K mg "moved_rows" oG ["system","rows"] Z.vd Z.uQ
 lI:Df K mg "reach_grown" mX ["system","steps"] Z.sO Z.sv
 nC:Df K mg "reach_rows" oC ["system","steps"] Z.u6 Z.uN
 jz:Binds K Z.gC ["self","price"] []
 jA:J8 K "__init__" "NotSteered.__init__" c6 Z.eN Z.gC
 mI:Df K mg "unit_row" tm ["many","at"] Z.Aj Z.zW
 jP:Df K mg "leading_place" ko ["row"] Z.pV Z.pS
 o6:Df K mg "leading" vP ["rows"] Z.Cf Z.BR
 uA:Df K mg "minus" CT ["one","other"] Z.IS Z.IA
 tO:Df K mg "null_at" vO ["rows","wide","at"] Z.Ce Z.BQ
 lK:Df K mg "free_places" m5 ["rows","wide"] Z.sR Z.sG
 zE:Df K mg "nulls" CQ ["rows","wide"] Z.IQ Z.Iz
 eo:Df K mg "refuse_unsteered" iF ["system"] Z.lW Z.lQ
 iq:Df K mg "nought_row" oE ["many"] Z.u9 Z.uO
 dS:Df K mg "grid_turned" mZ ["grid","wide"] Z.sQ Z.sF
 nD:Df K mg "new_places" oF ["rows","wide"] Z.va Z.uP
 lJ:Df K mg "leading_out" mY ["system","states"] Z.sP Z.sE
 pR:QQ K Z.a_System "moved" Z.lX
 rG:Binds K Z.lU ["self","state","puts"] []
 rO:J8 K "moved" "System.moved" fI Z.lX Z.lU
 zF:Df K mg "chain" CU ["system"] Z.IT Z.IB
 kG:Df K mg "row_minus" qI ["one","other"] Z.xE Z.xk
 ir:Df K mg "grid_times" oH ["one","other","wide"] Z.pL Z.pH
 nv:Df K mg "taken_over" oB ["system","rows"] Z.uZ Z.uM
 zD:Df K mg "times" CO ["one","other"] Z.IM Z.Iw
 kF:Df K mg "row_times" qH ["by","row"] Z.xD Z.xj
 zG:Df K mg "amiss" CV ["system","row","wish"] Z.IU Z.IC
 Dg:Df K mg "plus" FJ ["one","other"] Z.Mr Z.L7
 qZ:Df K mg "row_plus" tq ["one","other"] Z.Ak Z.zX
 wo:Df K mg "closed" yS ["system","rows"] Z.Fb Z.EX
 lE:Df K mg "steered" vL ["system","wish"] Z.Cc Z.BO
 gY:Df K mg "_law_rows" qL ["_law_system","_law_wish"] Z.xH Z.xo
 jk:Df K mg "_law_is_number" jJ ["_law_thing"] Z.oa Z.nV
 lN:Df K mg "_law_is_row" m8 ["_law_thing","_law_many"] Z.sU Z.sJ
 ks:Df K mg "_law_is_grid" kX ["_law_thing","_law_many","_law_wide"] Z.rJ Z.rE
 rd:Df K mg "_law_dot" tE ["_law_one","_law_other"] Z.Ap Z.z8
 o8:Df K mg "_law_on" vS ["_law_grid","_law_row_here"] Z.Ci Z.BU
 o9:Df K mg "_law_next" qO ["_law_parts_here","_law_state","_law_puts"] Z.xK Z.xu
 nK:Df K mg "_law_along" oO ["_law_parts_here","_law_rows_here","_law_start","_law_steps"] Z.vq Z.uX
 nJ:Df K mg "_law_keeps" oN ["_law_states","_law_wish"] Z.vo Z.uW
 pA:Df K mg "_law_good" qR ["_law_parts_here","_law_system","_law_wish","_law_start"] Z.xO Z.xy
 O5:J8 K "law" "law" KG Z.O1 Z.O0
 abs:mg "abs"=none
 len:mg "len"=none
 min:mg "min"=none
 range:mg "range"=none
 int:mg "int"=none
 isinstance:mg "isinstance"=none
 list:mg "list"=none
 bool:mg "bool"=none
 tuple:mg "tuple"=none
 all:mg "all"=none
 enumerate:mg "enumerate"=none
 zip:mg "zip"=none
 sum:mg "sum"=none
 reversed:mg "reversed"=none
 max:mg "max"=none
 mg_NOUGHT:mg "NOUGHT"=some (.ref Z.a_NOUGHT)
 sq_NOUGHT:∀H,pZ K H Z.a_NOUGHT [.int 0,.int 1]
 mg_ONE:mg "ONE"=some (.ref Z.a_ONE)
 sq_ONE:∀H,pZ K H Z.a_ONE [.int 1,.int 1]
 mg_MOST_STATES:mg "MOST_STATES"=some (.int 8 Z.t_MOST_STATES)
 mg_MOST_PUTS:mg "MOST_PUTS"=some (.int 4 Z.t_MOST_PUTS)
 mg_MOST_LOOKS:mg "MOST_LOOKS"=some (.int 4 Z.t_MOST_LOOKS)
 mg_System:mg "System"=some (.ref Z.a_System)
 cl_System:Kg K Z.a_System
 na_move:jt K Z.a_System "move"
 na_states:jt K Z.a_System "states"
 na_put:jt K Z.a_System "put"
 na_ins:jt K Z.a_System "ins"
 na_look:jt K Z.a_System "look"
 na_outs:jt K Z.a_System "outs"
 mk_System:Mk K Z.a_System Z.jr
 mg_SumError:mg "SumError"=some (.ref Z.a_SumError)
 mg_NotSteered:mg "NotSteered"=some (.ref Z.a_NotSteered)
 xi_NotSteered:Q4 K Z.a_NotSteered Z.a_SumError
 in_NotSteered:W.findIn K (.ref Z.a_NotSteered) "__init__"=some (some (.ref Z.eN))
 fn_NotSteered:W.typeIn K (.ref Z.eN)=some (.type "function")
 kp_NotSteered:W.keepIn K (.ref Z.a_NotSteered)=true
 nt_NotSteered:W.findIn K (.ref Z.a_NotSteered) "price"=some none
 ex_SumError:W.excIn K Z.a_SumError vD "ValueError.__new__"=true
 xm_NotSteered_NotSteered:W.exmOne K (.ref Z.a_NotSteered) (.ref Z.a_NotSteered)=some true
 xc_NotSteered:ExC K Z.a_NotSteered
section
variable {P:Program} {w:World} {K:W.Frag} {mg:Str->Option Value} {base:Heap} {Z:Ads}
theorem Ep:aR ["_law_script"] ["_law_script"] (aK tG):=by walk_at "d"
theorem EF (T:Txt K mg Z) (ptree:P.given.tree=none):cD P w K mg base fN 1 Z.Aq Z.z9 ["_law_script"] (KA K):=by
 refine T.rf.F.ok Ep (λvs H Q E h=>?_) (λcdv A outer s H vs Q E hr h=>?_)
 ·obtain ⟨a,ns,rfl,_⟩:=h;rfl
 ·obtain ⟨a,ns,rfl,hS,hlen,k⟩:=h;refine ⟨_,(aA (aY (eX (ae ao (ae ao (ae ao (ae (cy ["_law_cell"] [] [] (cL (kZ oy (pv 0) oS (oR ao))) (λ_=>(aM (i:=0) (show ND9 ["_law_cell"] by decide +kernel))) (λ_=>cF) (λ_=>(bL Ae (by rfl) T.abs PyProof.Rows.boot_abs (ae (pv 0) ai)))) ai))))))),?_⟩;refine aN (σ:=[some (.ref a)]) rfl ?_;exists ⟨a,_,rfl,hS,λl hl=>?_⟩;have hcl:(nW (ns.map V.int) none (some 63)).length<=63:=ag (xA _ _ _) (by simpa using hlen);refine ⟨l,rfl,⟨_,bE.of aH⟩,?_⟩;refine dY (K:=K) (a:=l) (xs:=nW (ns.map V.int) none (some 63)) (λi ys H'=>H'=upd H l (.lst (nW (ns.map V.int) none (some 63)))/\∃cs:List Int,ys=cs.map V.int/\∀x∈cs,0<=x) (ag hcl (by decide)) ⟨rfl,[],rfl,λ_ z=>nomatch z⟩ (λi ys H' _ ⟨e,_⟩=>by subst e;exact bE.of aH) ?_ ?_
  ·rintro i x ys H' hx hi ⟨rfl,cs,rfl,hcs⟩
   obtain ⟨z,rfl⟩:∃z,x=V.int z:=by
    have hm:x∈ns.map V.int:=jF (bW (ak hx));obtain ⟨z,_,e⟩:=ax.mp hm;exact ⟨z,e.symm⟩
   exists ⟨rfl,cs++[if z < 0 then -z else z],by simp,λx hx=>?_⟩;rcases aD.mp hx with hx | hx
   ·exact hcs x hx
   ·have e:x=if z < 0 then -z else z:=by simpa using hx
    subst e
    split <;> lia
  ·rintro ys H' hy ⟨rfl,cs,rfl,hcs⟩ p hp;exists ⟨by show 4<=sizeLine;decide,λb hb=>?_⟩;have n1:b≠p:=λz=>by rw[z,aH] at hb;cases hb
   have hb1:(upd H l (.lst (nW (ns.map V.int) none (some 63)))) b=none:=by rw[aU n1] at hb;exact hb
   have s1:aI H (upd H l (.lst (nW (ns.map V.int) none (some 63)))):=aI.new hl;refine k b _ (s1.free hb1) ⟨p,0,1234567891,0,cs,aH,by rw[aU n1.symm];exact aH,by decide,by decide,by lia,hcs⟩ ((s1.trans (aI.new hp)).trans (aI.new hb))
theorem eB:aR ["_law_bag_here","_law_many","_law_more","_law_cell","_law_value","_law_first","_law_second"] ["_law_bag_here","_law_many"] (aK qK):=by walk_at "d"
theorem gX (T:Txt K mg Z) (ptree:P.given.tree=none):cD P w K mg base fN 1 Z.xG Z.xn ["_law_bag_here","_law_many"] MO:=by
 refine T.bT.F.ok eB (λvs H Q E h=>?_) (λcdv A outer s H vs Q E hr h=>?_)
 ·obtain ⟨p,n,rfl,_⟩:=h;rfl
 ·obtain ⟨p,n,rfl,⟨q,a,b,c,cs,hp,hq,ha,hc,hcl,hcs⟩,hn,hn2,k⟩:=h;have nqp:q≠p:=JZ hp hq
  refine ⟨_,(gV (dn (bu eU (bf bM (pv 0) ao) ao (bD _)) (ar (a9 (i:=2) eB.nd rfl (Or.inl rfl) ao)
   (gV (dn (bu pQ (bf bM (pv 0) ao) (bL bw (by rfl) T.len bg (ae (bf bM (pv 0) ao) ai)) (bD _)) (ar (a9 (i:=3) eB.nd rfl (Or.inl rfl) (bf bM (bf bM (pv 0) ao) (bf bM (pv 0) ao)))
   (ar (Nv (pv 0) ao LK ao Qr set_list)
   (ar (dn (bu zg (pv 3) ao (bD _)) (aA (fV (pv 3) (ie (pv 0) ao set_list))) cu)
   (aA (a9 (i:=2) eB.nd rfl (Or.inl rfl) (bJ eJ (bJ ni (pv 3) ao) ao)))))) cu)
   (aA (fV (bJ ni (bJ eJ (bJ cW (bf bM (pv 0) ao) ao) (pv 2)) ao) (ie (pv 0) ao set_list))))) cu)
   (ar (dn (bu ze (bf bM (pv 0) ao) ao (bD _)) (ar (a9 (i:=4) eB.nd rfl (Or.inl rfl) (bJ ni (bf bM (pv 0) ao) (pv 1)))
   (ar (fV (bJ (je rfl eB rfl rfl rfl ptree (uI hr)) (bf bM (pv 0) ao) (pv 1)) (ie (pv 0) ao set_list))
   (aA (aY (pv 4))))) cu)
   (ar (a9 (i:=5) eB.nd rfl (Or.inl rfl) (bJ ni (bJ cW (bf bM (pv 0) ao) ao) ao))
   (ar (a9 (i:=6) eB.nd rfl (Or.inl rfl) (bJ ni (bJ cW (pv 5) ao) ao))
   (ar (dn (bu ze (pv 1) ao (bD _)) (aA (aY (bJ ni (bJ eJ (bJ cW (pv 6) ao) (pv 5)) (pv 1)))) cu)
   (aA (aY (bJ ni (bJ (je rfl eB rfl rfl rfl ptree (uI hr)) (pv 6) ao) (pv 1))))))))),?_⟩
  refine aN (σ:=[some (.ref p),some (.int n),none,none,none,none,none]) rfl ?_;refine ⟨λσ' H'=>∃(x y:Option V) (a' b' c':Int),σ'=[some (.ref p),some (.int n),x,y,none,none,none]/\H' p=some (.lst [.int a',.int b',.int c',.ref q])/\0<=a'/\0<=c'/\c'<=cs.length/\cZ p H H',?_,?_⟩
  ·exists iI (λh0=>?_) (λh0=>?_)
   ·exists ⟨λσ' H'=>∃(m:Int) (y:Option V) (a' c':Int),σ'=[some (.ref p),some (.int n),some (.int m),y,none,none,none]/\H' p=some (.lst [.int a',.int b,.int c',.ref q])/\0<=a'/\0<=c'/\c'<=cs.length/\cZ p H H',?_,?_⟩
    ·exists ⟨_,_,rfl,.inl (bE.of hq),?_⟩;exists iI (λh1=>?_) (λh1=>?_)
     ·have h1':c < cs.length:=by simpa using of_decide_eq_true h1
      obtain ⟨z,hz⟩:∃z,cs[c.toNat]?=some z:=⟨_,af (by lia)⟩;have hz0:0<=z:=hcs z (ak hz);exists cB (bE.of hq) (v:=.int z) ?_ ?_
      ·have:=ff (xs:=cs.map V.int) (j:=c.toNat) (v:=.int z) (by rw[az,hz];rfl);rwa [Int.toNat_of_nonneg hc] at this
      exists iI (λh2=>?_) (λh2=>?_)
      ·exists ⟨_,_,z,c+1,rfl,aH,hz0,by lia,by lia,(cZ.set hp).trans (cZ.set aH)⟩
      ·exists ⟨_,_,a,c+1,rfl,aH,ha,by lia,by lia,cZ.set hp⟩
     ·exists ⟨_,_,a,c,rfl,hp,ha,hc,hcl,cZ.refl _⟩
    ·rintro σ' H' ⟨m,y,a',c',rfl,hp',ha',hc',hcl',u'⟩;exists ⟨_,_,a',_,c',rfl,aH,ha',hc',hcl',u'.trans (cZ.set hp')⟩
   ·exists ⟨_,_,a,b,c,rfl,hp,ha,hc,hcl,cZ.refl _⟩
  ·rintro σ' H' ⟨x,y,a',b',c',rfl,hp',ha',hc',hcl',u'⟩;have hq':H' q=some (.lst (cs.map V.int)):=u'.1 q _ hq nqp
   have sn:Sz 449950 n:=by
    show n.natAbs < 2^449950
    exact bA (show n.natAbs < 2^64 by lia) (av (by decide) (by decide))
   exists iI (λh0=>?_) (λh0=>?_)
   ·exists fM (show (0:Int) < n from hn) ?_;exists fM (show pX _ _ from ⟨by lia,sn⟩) ?_;exists k _ _ (kK _ (by lia)) (iD _ hn) ⟨q,_,b',c',cs,aH,by rw[aU nqp];exact hq',?_,hc',hcl',hcs⟩ (u'.trans (cZ.set hp'));rw[cE _ (by lia)];exact Int.ediv_nonneg ha' (by lia)
   ·exists iI (λh1=>?_) (λh1=>?_)
    ·exists fM (show (0:Int) < n from hn) ?_;exact k _ _ (kK _ (by lia)) (iD _ hn) ⟨q,a',b',c',cs,hp',hq',ha',hc',hcl',hcs⟩ u'
    ·exists fM (show pX _ _ from ⟨by decide,by show (3:Nat) < 2^449950;exact bA (show 3 < 2^2 by decide) (av (by decide) (by decide))⟩) ?_;exists fM (show (0:Int) < n from hn) ?_;exact k _ _ (kK _ (by lia)) (iD _ hn) ⟨q,a',b',c',cs,hp',hq',ha',hc',hcl',hcs⟩ u'
theorem A1:∃x1 x2 x3 x4 x5 x6 x7 x8 x9 x10 x11 x12 x13 x14 x15 x16:Expr,x1=(Expr.Constant (Const.int 0) 0 ⟨349,16,349,17⟩)/\x2=(Expr.Constant (Const.int 1) 0 ⟨349,19,349,20⟩)/\x3=(Expr.Constant (Const.int 1) 0 ⟨349,22,349,23⟩)/\x4=(Expr.Constant (Const.int 1) 0 ⟨349,25,349,26⟩)/\x5=(Expr.Constant (Const.int 2) 0 ⟨349,28,349,29⟩)/\x6=(Expr.Constant (Const.int 2) 0 ⟨349,31,349,32⟩)/\x7=(Expr.Constant (Const.int 3) 0 ⟨349,34,349,35⟩)/\x8=(Expr.Constant (Const.int 4) 0 ⟨349,37,349,38⟩)/\x9=(Expr.Constant (Const.int 0) 0 ⟨350,17,350,18⟩)/\x10=(Expr.Constant (Const.int 1) 0 ⟨350,20,350,21⟩)/\x11=(Expr.Constant (Const.int 1) 0 ⟨350,23,350,24⟩)/\x12=(Expr.Constant (Const.int 1) 0 ⟨350,26,350,27⟩)/\x13=(Expr.Constant (Const.int 2) 0 ⟨350,29,350,30⟩)/\x14=(Expr.Constant (Const.int 2) 0 ⟨350,32,350,33⟩)/\x15=(Expr.Constant (Const.int 3) 0 ⟨350,35,350,36⟩)/\x16=(Expr.Constant (Const.int 4) 0 ⟨350,38,350,39⟩)/\hJ kE=[ (Stmt.Assign (targets:=[(Expr.Name "_law_n" ⟨346,4,346,10⟩)]) (value:=(Expr.Call (func:=(Expr.Name "_law_take" ⟨346,13,346,22⟩)) (args:=[ (Expr.Name "_law_bag_here" ⟨346,23,346,36⟩),(Expr.Constant (Const.int 5) 0 ⟨346,38,346,39⟩)]) (keywords:=[]) (pos:=⟨346,13,346,40⟩))) (pos:=⟨346,4,346,40⟩)),(Stmt.If (test:=(Expr.Compare (left:=(Expr.Call (func:=(Expr.Name "_law_take" ⟨347,7,347,16⟩)) (args:=[ (Expr.Name "_law_bag_here" ⟨347,17,347,30⟩),(Expr.Constant (Const.int 8) 0 ⟨347,32,347,33⟩)]) (keywords:=[]) (pos:=⟨347,7,347,34⟩))) (ops:=[PySem.CmpOp.Eq]) (comparators:=[(Expr.Constant (Const.int 7) 0 ⟨347,38,347,39⟩)]) (pos:=⟨347,7,347,39⟩))) (body:=[ (Stmt.Assign (targets:=[(Expr.Name "_law_n" ⟨348,8,348,14⟩)]) (value:=(Expr.Constant (Const.int 5) 0 ⟨348,17,348,18⟩)) (pos:=⟨348,8,348,18⟩))]) (orelse:=[]) (pos:=⟨347,4,348,18⟩)),(Stmt.Assign (targets:=[(Expr.Name "_law_ins" ⟨349,4,349,12⟩)]) (value:=(Expr.Subscript (value:=(Expr.List (elts:=[x1,x2,x3,x4,x5,x6,x7,x8]) (pos:=⟨349,15,349,39⟩))) (slice:=(Expr.Call (func:=(Expr.Name "_law_take" ⟨349,40,349,49⟩)) (args:=[ (Expr.Name "_law_bag_here" ⟨349,50,349,63⟩),(Expr.Constant (Const.int 8) 0 ⟨349,65,349,66⟩)]) (keywords:=[]) (pos:=⟨349,40,349,67⟩))) (pos:=⟨349,15,349,68⟩))) (pos:=⟨349,4,349,68⟩)),(Stmt.Assign (targets:=[(Expr.Name "_law_outs" ⟨350,4,350,13⟩)]) (value:=(Expr.Subscript (value:=(Expr.List (elts:=[x9,x10,x11,x12,x13,x14,x15,x16]) (pos:=⟨350,16,350,40⟩))) (slice:=(Expr.Call (func:=(Expr.Name "_law_take" ⟨350,41,350,50⟩)) (args:=[ (Expr.Name "_law_bag_here" ⟨350,51,350,64⟩),(Expr.Constant (Const.int 8) 0 ⟨350,66,350,67⟩)]) (keywords:=[]) (pos:=⟨350,41,350,68⟩))) (pos:=⟨350,16,350,69⟩))) (pos:=⟨350,4,350,69⟩)),(Stmt.If (test:=(Expr.Compare (left:=(Expr.Name "_law_n" ⟨351,7,351,13⟩)) (ops:=[PySem.CmpOp.Eq]) (comparators:=[(Expr.Constant (Const.int 5) 0 ⟨351,17,351,18⟩)]) (pos:=⟨351,7,351,18⟩))) (body:=[ (Stmt.Assign (targets:=[ (Expr.Tuple (elts:=[(Expr.Name "_law_ins" ⟨352,8,352,16⟩),(Expr.Name "_law_outs" ⟨352,18,352,27⟩)]) (k:=0) (pos:=⟨352,8,352,27⟩))]) (value:=(Expr.Tuple (elts:=[ (Expr.Call (func:=(Expr.Name "min" ⟨352,31,352,34⟩)) (args:=[ (Expr.Name "_law_ins" ⟨352,35,352,43⟩),(Expr.Constant (Const.int 2) 0 ⟨352,45,352,46⟩)]) (keywords:=[]) (pos:=⟨352,31,352,47⟩)),(Expr.Call (func:=(Expr.Name "min" ⟨352,49,352,52⟩)) (args:=[ (Expr.Name "_law_outs" ⟨352,53,352,62⟩),(Expr.Constant (Const.int 2) 0 ⟨352,64,352,65⟩)]) (keywords:=[]) (pos:=⟨352,49,352,66⟩))]) (k:=0) (pos:=⟨352,30,352,67⟩))) (pos:=⟨352,8,352,67⟩))]) (orelse:=[]) (pos:=⟨351,4,352,67⟩)),(Stmt.Assign (targets:=[(Expr.Name "_law_wide" ⟨353,4,353,13⟩)]) (value:=(Expr.Subscript (value:=(Expr.List (elts:=[ (Expr.Constant (Const.int 4) 0 ⟨353,17,353,18⟩),(Expr.Constant (Const.int 4) 0 ⟨353,20,353,21⟩),(Expr.Constant (Const.int 9) 0 ⟨353,23,353,24⟩),(Expr.Constant (Const.int 1000) 0 ⟨353,26,353,30⟩)]) (pos:=⟨353,16,353,31⟩))) (slice:=(Expr.Call (func:=(Expr.Name "_law_take" ⟨353,32,353,41⟩)) (args:=[ (Expr.Name "_law_bag_here" ⟨353,42,353,55⟩),(Expr.Constant (Const.int 4) 0 ⟨353,57,353,58⟩)]) (keywords:=[]) (pos:=⟨353,32,353,59⟩))) (pos:=⟨353,16,353,60⟩))) (pos:=⟨353,4,353,60⟩)),(Stmt.If (test:=(Expr.Compare (left:=(Expr.Name "_law_wide" ⟨354,7,354,16⟩)) (ops:=[PySem.CmpOp.Gt]) (comparators:=[(Expr.Constant (Const.int 9) 0 ⟨354,19,354,20⟩)]) (pos:=⟨354,7,354,20⟩))) (body:=[ (Stmt.Assign (targets:=[(Expr.Name "_law_n" ⟨355,8,355,14⟩)]) (value:=(Expr.Call (func:=(Expr.Name "min" ⟨355,17,355,20⟩)) (args:=[ (Expr.Name "_law_n" ⟨355,21,355,27⟩),(Expr.Constant (Const.int 2) 0 ⟨355,29,355,30⟩)]) (keywords:=[]) (pos:=⟨355,17,355,31⟩))) (pos:=⟨355,8,355,31⟩))]) (orelse:=[]) (pos:=⟨354,4,355,31⟩)),(Stmt.Return (value:=(some (Expr.Tuple (elts:=[ (Expr.Name "_law_n" ⟨356,12,356,18⟩),(Expr.Name "_law_ins" ⟨356,20,356,28⟩),(Expr.Name "_law_outs" ⟨356,30,356,39⟩),(Expr.Name "_law_wide" ⟨356,41,356,50⟩)]) (k:=0) (pos:=⟨356,11,356,51⟩)))) (pos:=⟨356,4,356,51⟩))]:=⟨_,_,_,_,_,_,_,_,_,_,_,_,_,_,_,_,rfl,rfl,rfl,rfl,rfl,rfl,rfl,rfl,rfl,rfl,rfl,rfl,rfl,rfl,rfl,rfl,by with_unfolding_all rfl⟩
theorem eC:aR ["_law_bag_here","_law_n","_law_ins","_law_outs","_law_wide"] ["_law_bag_here"] (aK kE):=by walk_at "d"
theorem AV (T:Txt K mg Z) (ptree:P.given.tree=none):cD P w K mg base fN 2 Z.vg Z.uT ["_law_bag_here"] Jj:=by
 have bS:=gX (P:=P) (w:=w) (base:=base) T ptree;refine T.nG.F.ok eC (λvs H Q E h=>?_) (λcdv A outer s H vs Q E hr h=>?_)
 ·obtain ⟨b,rfl,_⟩:=h;rfl
 ·obtain ⟨b,rfl,hB,k⟩:=h;obtain ⟨x1,x2,x3,x4,x5,x6,x7,x8,x9,x10,x11,x12,x13,x14,x15,x16,hx1,hx2,hx3,hx4,hx5,hx6,hx7,hx8,hx9,hx10,hx11,hx12,hx13,hx14,hx15,hx16,hbd⟩:=A1;rw[hbd]
  refine ⟨_,(ar (a9 (i:=1) eC.nd rfl (Or.inl rfl) (cO bS hr T.bT (ae (pv 0) (ae ao ai))))
   (gV (dn (bu eU (cO bS hr T.bT (ae (pv 0) (ae ao ai))) ao (bD _)) (aA (a9 (i:=1) eC.nd rfl (Or.inl rfl) ao)) cu)
   (ar (a9 (i:=2) eC.nd rfl (Or.inl rfl) (bf bM (eX (d9 hx1 ao (d9 hx2 ao (d9 hx3 ao (d9 hx4 ao (d9 hx5 ao (d9 hx6 ao (d9 hx7 ao (d9 hx8 ao ai))))))))) (cO bS hr T.bT (ae (pv 0) (ae ao ai)))))
   (ar (a9 (i:=3) eC.nd rfl (Or.inl rfl) (bf bM (eX (d9 hx9 ao (d9 hx10 ao (d9 hx11 ao (d9 hx12 ao (d9 hx13 ao (d9 hx14 ao (d9 hx15 ao (d9 hx16 ao ai))))))))) (cO bS hr T.bT (ae (pv 0) (ae ao ai)))))
   (gV (dn (bu eU (pv 1) ao (bD _)) (aA (K7 (i:=2) (j:=3) rfl eC.nd rfl rfl (by decide) rfl rfl (ae (bL (rW rfl) (by rfl) T.min PyProof.Rows.boot_min (ae (pv 2) (ae ao ai))) (ae (bL (rW rfl) (by rfl) T.min PyProof.Rows.boot_min (ae (pv 3) (ae ao ai))) ai)) rfl)) cu)
   (ar (a9 (i:=4) eC.nd rfl (Or.inl rfl) (bf bM (eX (ae ao (ae ao (ae ao (ae ao ai))))) (cO bS hr T.bT (ae (pv 0) (ae ao ai)))))
   (gV (dn (bu ze (pv 4) ao (bD _)) (aA (a9 (i:=1) eC.nd rfl (Or.inl rfl) (bL (rW rfl) (by rfl) T.min PyProof.Rows.boot_min (ae (pv 1) (ae ao ai))))) cu)
   (aA (aY (dR (ae (pv 1) (ae (pv 2) (ae (pv 3) (ae (pv 4) ai)))))))))))))),?_⟩
  refine aN (σ:=[some (.ref b),none,none,none,none]) rfl ?_;exists ⟨b,5,rfl,hB,by decide,by decide,λn H1 n0 n1 B1 u1=>?_⟩;obtain ⟨n,rfl⟩:=xU n0;exists ⟨λσ' H'=>(∃n:Nat,σ'=[some (.ref b),some (.int n),none,none,none]/\n<=5)/\jx H' b/\cZ b H H',?_,?_⟩
  ·exists ⟨b,8,rfl,B1,by decide,by decide,λv H2 v0 v1 B2 u2=>?_⟩;exists iI (λ_=>?_) (λ_=>?_)
   ·exists ⟨⟨5,rfl,by decide⟩,B2,u1.trans u2⟩
   ·exists ⟨⟨n,rfl,by lia⟩,B2,u1.trans u2⟩
  clear n0 n1 u1 B1;rintro σ' H1 ⟨⟨n,rfl,n5⟩,B1,u1⟩;exists dB λl0 H2 s2 n2 g2=>?_
  exists ⟨b,8,rfl,B1.same s2,by decide,by decide,λv H3 v0 v1 B3 u3=>?_⟩;have g3:=u3.other (λz=>B1.at (by rw[<- z];exact n2)) g2;obtain ⟨x,ex,mx,_⟩:=rH (xs:=[V.int 0,V.int 1,V.int 1,V.int 1,V.int 2,V.int 2,V.int 3,V.int 4]) v0 (by simpa using v1)
  obtain ⟨i,rfl,hi⟩:∃z:Nat,x=.int z/\z<=4:=by
   simp only[ay,aG,or_false] at mx;rcases mx with rfl | rfl | rfl | rfl | rfl | rfl | rfl | rfl
   ·exact ⟨0,rfl,by decide⟩
   ·exact ⟨1,rfl,by decide⟩
   ·exact ⟨1,rfl,by decide⟩
   ·exact ⟨1,rfl,by decide⟩
   ·exact ⟨2,rfl,by decide⟩
   ·exact ⟨2,rfl,by decide⟩
   ·exact ⟨3,rfl,by decide⟩
   ·exact ⟨4,rfl,by decide⟩
  exists cB (bE.of g3) ex ?_;clear ex mx g3 g2;exists dB λl1 H4 s4 n4 g4=>?_
  exists ⟨b,8,rfl,B3.same s4,by decide,by decide,λt H5 t0 t1 B5 u5=>?_⟩;have g5:=u5.other (λz=>B3.at (by rw[<- z];exact n4)) g4;obtain ⟨x,ex,mx,_⟩:=rH (xs:=[V.int 0,V.int 1,V.int 1,V.int 1,V.int 2,V.int 2,V.int 3,V.int 4]) t0 (by simpa using t1)
  obtain ⟨o,rfl,ho⟩:∃z:Nat,x=.int z/\z<=4:=by
   simp only[ay,aG,or_false] at mx;rcases mx with rfl | rfl | rfl | rfl | rfl | rfl | rfl | rfl
   ·exact ⟨0,rfl,by decide⟩
   ·exact ⟨1,rfl,by decide⟩
   ·exact ⟨1,rfl,by decide⟩
   ·exact ⟨1,rfl,by decide⟩
   ·exact ⟨2,rfl,by decide⟩
   ·exact ⟨2,rfl,by decide⟩
   ·exact ⟨3,rfl,by decide⟩
   ·exact ⟨4,rfl,by decide⟩
  exists cB (bE.of g5) ex ?_;clear ex mx g5 g4;have u15:=(((u1.same s2).trans u3).same s4).trans u5;exists ⟨λσ' H'=>(∃i o:Nat,σ'=[some (.ref b),some (.int n),some (.int i),some (.int o),none]/\i<=4/\o<=4/\(n=5->i<=2/\o<=2))/\jx H' b/\cZ b H H',?_,?_⟩
  ·exists iI (λh0=>?_) (λh0=>?_)
   ·exists ⟨⟨min i 2,min o 2,?_,by lia,by lia,λ_=>⟨by lia,by lia⟩⟩,B5,u15⟩;have e1:(if (2:Int) < (i:Int) then (2:Int) else (i:Int))=((min i 2:Nat):Int):=by split <;> lia
    have e2:(if (2:Int) < (o:Int) then (2:Int) else (o:Int))=((min o 2:Nat):Int):=by split <;> lia
    rw[<- e1,<- e2];rfl
   ·exists ⟨⟨i,o,rfl,hi,ho,λz=>absurd (decide_eq_true (show (n:Int)=5 by lia)) h0⟩,B5,u15⟩
  clear hi ho u15 B5 u5 u3 u1;rintro σ' H5 ⟨⟨i,o,rfl,hi,ho,h5⟩,B5,u5⟩;exists dB λl2 H6 s6 n6 g6=>?_
  exists ⟨b,4,rfl,B5.same s6,by decide,by decide,λv H7 v0 v1 B7 u7=>?_⟩;have g7:=u7.other (λz=>B5.at (by rw[<- z];exact n6)) g6;obtain ⟨x,ex,mx,_⟩:=rH (xs:=[V.int 4,V.int 4,V.int 9,V.int 1000]) v0 (by simpa using v1)
  obtain ⟨w,rfl,hw⟩:∃w:Nat,x=.int w/\(w=4\/w=9\/w=1000):=by
   simp only[ay,aG,or_false] at mx;rcases mx with rfl | rfl | rfl | rfl
   ·exact ⟨4,rfl,.inl rfl⟩
   ·exact ⟨4,rfl,.inl rfl⟩
   ·exact ⟨9,rfl,.inr (.inl rfl)⟩
   ·exact ⟨1000,rfl,.inr (.inr rfl)⟩
  exists cB (bE.of g7) ex ?_;have u07:=(u5.same s6).trans u7;exists ⟨λσ' H'=>(∃n:Nat,σ'=[some (.ref b),some (.int n),some (.int i),some (.int o),some (.int w)]/\n<=5/\(w=4\/w=9\/(w=1000/\n<=2))/\(n=5->i<=2/\o<=2))/\jx H' b/\cZ b H H',?_,?_⟩
  ·exists iI (λh0=>?_) (λh0=>?_)
   ·exists ⟨⟨min n 2,?_,by lia,by lia,λz=>by lia⟩,B7,u07⟩;have e1:(if (2:Int) < (n:Int) then (2:Int) else (n:Int))=((min n 2:Nat):Int):=by split <;> lia
    rw[<- e1];rfl
   ·exists ⟨⟨n,rfl,n5,?_,h5⟩,B7,u07⟩;rcases hw with z | z | z
    ·exact .inl z
    ·exact .inr (.inl z)
    ·exact absurd (decide_eq_true (show (9:Int) < (w:Int) by lia)) h0
  ·clear h5 n5;rintro σ' H8 ⟨⟨n',rfl,n5,hwn,h5⟩,B8,u8⟩;exists cK λr H9 s9 g9=>?_
   exact k r n' i o w H9 g9 n5 hi ho hwn h5 (B8.same s9) (u8.same s9)
theorem iM:aR ["_law_top","_law_bottom","_law_one","_law_other"] ["_law_top","_law_bottom"] (aK tD):=by walk_at "d"
theorem mG (T:Txt K mg Z) (ptree:P.given.tree=none):cD P w K mg base fN 1 Z.Ao Z.z7 ["_law_top","_law_bottom"] Pt:=by
 refine T.gN.F.ok iM (λvs H Q E h=>?_) (λcdv A outer s H vs Q E hr h=>?_)
 ·obtain ⟨t,b,rfl,_⟩:=h;rfl
 ·obtain ⟨t,b,rfl,hb,hs,k⟩:=h
  refine ⟨_,(ar (a9 (i:=2) iM.nd rfl (Or.inl rfl) (bL Ae (by rfl) T.abs PyProof.Rows.boot_abs (ae (pv 0) ai)))
   (ar (a9 (i:=3) iM.nd rfl (Or.inl rfl) (pv 1))
   (ar (yV PassesOwn.never (bu wZ (pv 2) ao (bD _))
    (aA (K7 (i:=2) (j:=3) rfl iM.nd rfl rfl (by decide) rfl rfl (ae (bJ ni (pv 3) (pv 2)) (ae (pv 2) ai)) rfl)))
   (aA (aY (dR (ae (bJ (je rfl iM rfl rfl rfl ptree (uI hr)) (pv 0) (pv 3)) (ae (bJ (je rfl iM rfl rfl rfl ptree (uI hr)) (pv 1) (pv 3)) ai)))))))),?_⟩
  refine aN (σ:=[some (.int t),some (.int b),none,none]) rfl ?_;walk_at "w"
  refine Ct (λσ' H'=>∃(u v:Int),σ'=[some (.int t),some (.int b),some (.int u),some (.int v)]/\H'=H/\0<=u/\0 < v/\Int.gcd u v=Int.gcd t b) (λσ' _=>match σ' with | [_,_,some (.int u),_]=>u.natAbs | _=>0) ⟨_,b,rfl,rfl,by split <;> lia,hb,by
   split
   ·rw[Int.neg_gcd]
   ·rfl⟩ ?_
  rintro σ' H' ⟨u,v,rfl,rfl,hu,hv,hg⟩;exists iI (λh=>?_) (λh=>?_)
  ·have hu0:u≠0:=λz=>by subst z;simp at h
   exists fM (show (0:Int) < u by lia) ?_;walk_at "w";have h1:=kK v hu0;have h2:=iD v (show 0 < u by lia);exact ⟨⟨v % u,u,rfl,rfl,h1,by lia,by rw[j8,LM,j8];exact hg⟩,by show (v % u).natAbs < u.natAbs;lia⟩
  ·have hu0:u=0:=by
    by_cases z:u=0
    ·exact z
    ·exfalso;apply h;simp [z]
   subst hu0
   have e:v=g t b:=by
    unfold g;rw[<- hg,Int.gcd_zero_left]
    lia
   have hgs:Sz 449950 v:=hs.le (by
    rw[e];have h1:(g t b).natAbs=Int.gcd t b:=by unfold g;simp
    rw[h1];exact kB (by lia) (by have:=fj (a:=t) (b:=b);exact fY.mpr this |> λz=>by simpa using z))
   exists fM (show pX _ _ from ⟨by lia,hgs⟩) ?_;exists fM (show pX _ _ from ⟨by lia,hgs⟩) ?_;exists cK λr H' s' h'=>?_
   rw[cE _ (by lia),cE _ (by lia),e] at h';exact k r H' s' h'
theorem qE:aR ["_law_bag_here","_law_wide","_law_way"] ["_law_bag_here","_law_wide"] (aK m7):=by walk_at "d"
theorem zx (T:Txt K mg Z) (ptree:P.given.tree=none):cD P w K mg base fN 2 Z.sT Z.sI ["_law_bag_here","_law_wide"] (yD K):=by
 have bS:=gX (P:=P) (w:=w) (base:=base) T ptree;have gU:=mG (P:=P) (w:=w) (base:=base) T ptree;refine T.lM.F.ok qE (λvs H Q E h=>?_) (λcdv A outer s H vs Q E hr h=>?_)
 ·obtain ⟨b,w,rfl,_⟩:=h;rfl
 ·obtain ⟨b,w,rfl,hB,w0,w1,k⟩:=h
  refine ⟨_,(ar (a9 (i:=2) qE.nd rfl (Or.inl rfl) (cO bS hr T.bT (ae (pv 0) (ae ao ai))))
   (ar (dn (bu pQ (pv 2) ao (bD _)) (aA (aY (dR (ae ao (ae ao ai))))) cu)
   (ar (dn (bu pQ (pv 2) ao (bD _)) (aA (aY (dR (ae (bJ oU (cO bS hr T.bT (ae (pv 0) (ae ao ai))) ao) (ae ao ai))))) cu)
   (ar (dn (bu eU (pv 2) ao (bD _)) (aA (aY (cO gU hr T.gN (ae (bJ oU (cO bS hr T.bT (ae (pv 0) (ae ao ai))) ao) (ae (bJ eJ ao (cO bS hr T.bT (ae (pv 0) (ae ao ai)))) ai))))) cu)
   (aA (aY (cO gU hr T.gN (ae (bJ oU (cO bS hr T.bT (ae (pv 0) (ae (bJ eJ (bJ cW ao (pv 1)) ao) ai))) (pv 1)) (ae (bJ eJ ao (cO bS hr T.bT (ae (pv 0) (ae (pv 1) ai)))) ai))))))))),?_⟩
  refine aN (σ:=[some (.ref b),some (.int w),none]) rfl ?_;exists ⟨b,8,rfl,hB,by decide,by decide,λv H1 v0 v1 B1 u1=>?_⟩;exists iI (λh0=>?_) (λh0=>?_)
  ·exists cK λr H2 s2 g2=>?_
   exact k r 0 _ ⟨aW _,by show 1<=_;lia⟩ (cA.mk g2 rfl) (B1.same s2) (u1.same s2)
  exists iI (λh1=>?_) (λh1=>?_)
  ·exists ⟨b,7,rfl,B1,by decide,by decide,λa H2 a0 a1 B2 u2=>?_⟩;exists cK λr H3 s3 g3=>?_
   exact k r ((a - 3:Int):Rat) _ ⟨by show (a - 3).natAbs<=_;lia,by show 1<=_;lia⟩ (cA.mk g3 rfl) (B2.same s3) ((u1.trans u2).same s3)
  exists iI (λh2=>?_) (λh2=>?_)
  ·exists ⟨b,13,rfl,B1,by decide,by decide,λa H2 a0 a1 B2 u2=>?_⟩;exists ⟨b,6,rfl,B2,by decide,by decide,λc H3 c0 c1 B3 u3=>?_⟩;exists ⟨_,_,rfl,by lia,(Kt (by lia)).mono (by decide),λr H4 s4 g4=>?_⟩;obtain ⟨q,e,d,_⟩:=Lx (t:=a - 6) (b:=1+c) (W:=max w 6) (by lia) (by lia) (by lia);exact k r q _ d (cA.mk g4 e) (B3.same s4) (((u1.trans u2).trans u3).same s4)
  exists ⟨b,_,rfl,B1,by lia,by lia,λa H2 a0 a1 B2 u2=>?_⟩;exists ⟨b,_,rfl,B2,by lia,by lia,λc H3 c0 c1 B3 u3=>?_⟩;exists ⟨_,_,rfl,by lia,(Kt (by lia)).mono (by decide),λr H4 s4 g4=>?_⟩;obtain ⟨q,e,d,_⟩:=Lx (t:=a - w) (b:=1+c) (W:=max w 6) (by lia) (by lia) (by lia);exact k r q _ d (cA.mk g4 e) (B3.same s4) (((u1.trans u2).trans u3).same s4)
theorem Eo:aR ["_law_bag_here","_law_many","_law_wide"] ["_law_bag_here","_law_many","_law_wide"] (aK tz):=by walk_at "d"
theorem qY (T:Txt K mg Z) (ptree:P.given.tree=none):cD P w K mg base fN 3 Z.An Z.z6 ["_law_bag_here","_law_many","_law_wide"] (Ef K):=by
 have A8:=zx (P:=P) (w:=w) (base:=base) T ptree;refine T.gM.F.ok Eo (λvs H Q E h=>?_) (λcdv A outer s H vs Q E hr h=>?_)
 ·obtain ⟨b,m,w,rfl,_⟩:=h;rfl
 ·obtain ⟨b,m,w,rfl,hB,hm,w0,w1,k⟩:=h;refine ⟨_,(aA (aY (cy ["_law_k"] ["_law_bag_here","_law_wide"] [0,2] (cI rfl T.range (ae (pv 1) ai)) (λ_=>(aM (i:=0) (show ND9 ["_law_k","_law_bag_here","_law_wide"] by decide +kernel))) (λ_=>cF) (λ_=>(cO A8 hr T.lM (ae (pv 1) (ae (pv 2) ai))))))),?_⟩;refine aN (σ:=[some (.ref b),some (.int m),some (.int w)]) rfl ?_;exists ⟨by lia,by lia,?_⟩;refine JV (n:=m) (cA K) (Dr (max w 6)) hB hm (λa u B=>a.upto u B) ?_ ?_
  ·rintro i H' NY NN hi u B k1;exists ⟨b,w,rfl,B,w0,w1,λr x H2 hx h2 B2 u2=>k1 _ x _ u2 B2 hx h2⟩
  ·rintro ys cs H' p hp u B g lc hc pr nx;exact k p cs H' hp ⟨ys,g,pr⟩ lc hc B u
theorem i5:aR ["_law_bag_here","_law_n","_law_way","_law_first","_law_wide","_law_move_here","_law_i","_law_row_here","_law_j"] ["_law_bag_here","_law_n","_law_way","_law_first","_law_wide"] (aK qP):=by walk_at "d"
theorem C8 (T:Txt K mg Z) (ptree:P.given.tree=none):cD P w K mg base fN 4 Z.xM Z.xv ["_law_bag_here","_law_n","_law_way","_law_first","_law_wide"] (Ea K):=by
 have iJ:=qY (P:=P) (w:=w) (base:=base) T ptree;have bS:=gX (P:=P) (w:=w) (base:=base) T ptree;refine T.pd.F.ok i5 (λvs H Q E h=>?_) (λcdv A outer s H vs Q E hr h=>?_)
 ·obtain ⟨b,n,w,way,first,rfl,_⟩:=h;rfl
 ·obtain ⟨b,n,w,way,first,rfl,hB,n8,w0,w1,k⟩:=h
  refine ⟨_,(ar (a9 (i:=5) i5.nd rfl (Or.inl rfl) (eX ai))
   (ar (eV PassesOwn.never rfl (cI rfl T.range (ae (pv 1) ai)) (aM (i:=6) i5.nd)
    (ar (a9 (i:=7) i5.nd rfl (Or.inl rfl) (cO iJ hr T.gM (ae (pv 0) (ae (pv 1) (ae (pv 4) ai)))))
   (ar (eV PassesOwn.never rfl (cI rfl T.range (ae (pv 1) ai)) (aM (i:=8) i5.nd)
    (gV (dn (PW.pt (jb (bu eU (pv 2) ao (bD _)) (jU (bu ze (cO bS hr T.bT (ae (pv 0) (ae ao ai))) ao (bD _))))) (aA (fV (dR (ae ao (ae ao ai))) (ie (pv 7) (pv 8) set_list))) cu)
   (gV (dn (PW.pt (jb (bu eU (pv 2) ao (bD _)) (jU (bu pQ (bJ eJ (pv 6) ao) (pv 1) (bD _))))) (aA (fV (dR (ae (iN nX (by rfl) T.int PyProof.Rows.boot_int (ae (gW eU (pv 8) (bJ eJ (pv 6) ao) (bD _)) ai)) (ae ao ai))) (ie (pv 7) (pv 8) set_list))) cu)
   (gV (dn (PW.pt (pP (PW.pt (jb (bu eU (pv 2) ao (bD _)) (jb (bu zg (pv 6) (pv 3) (bD _)) (jU (bu pQ (pv 8) (pv 3) (bD _)))))) (kr (PW.pt (jb (bu eU (pv 2) ao (bD _)) (jb (bu pQ (pv 6) (pv 3) (bD _)) (jU (bu zg (pv 8) (pv 3) (bD _))))))))) (aA (fV (dR (ae ao (ae ao ai))) (ie (pv 7) (pv 8) set_list))) cu)
   (aA (dn (bu eU (pv 2) ao (bD _)) (aA (fV (dR (ae (bJ cW (bf bM (eX (ae ao (ae ao (ae (mD iY ao) (ae ao ai))))) (bJ ni (pv 3) ao)) (iN nX (by rfl) T.int PyProof.Rows.boot_int (ae (gW eU (pv 6) (pv 8) (bD _)) ai))) (ae ao ai))) (ie (pv 7) (pv 8) set_list))) cu))))))
   (aA (jV (BB fg eP eO kO (pv 5) (ae (pv 7) ai)))))))
   (aA (aY (pv 5))))),?_⟩
  refine aN (σ:=[some (.ref b),some (.int n),some (.int way),some (.int first),some (.int w),none,none,none,none]) rfl ?_;have W1:1<=max w 6:=by lia
  exists dB λr H1 s1 n1 g1=>?_
  have rb:r≠b:=λz=>hB.at (by rw[<- z];exact n1)
  obtain ⟨q0,I0,xs0,gq0⟩:=hB.inner;have I1:Inner H1 b q0:=(s1.upto (p:=b)).2 _ I0;obtain ⟨A,eA⟩:∃A:Addr->Prop,A=λq=>H q=none/\q≠r:=⟨_,rfl⟩
  have nb:¬A b:=by rw[eA];exact λz=>hB.at z.1
  have nr:¬A r:=by rw[eA];exact λz=>z.2 rfl
  have nq:¬A q0:=by rw[eA];exact λz=>by have z1:=z.1;rw[gq0] at z1;cases z1
  have rq:r≠q0:=λz=>by rw[<- z,n1] at gq0;cases gq0
  exists ⟨by lia,by lia,?_⟩;refine eK (n:=n) (λi σ' H'=>∃(x1 x2 x3:Option V) (us:List V),σ'=[some (.ref b),some (.int n),some (.int way),some (.int first),some (.int w),some (.ref r),x1,x2,x3]/\H' r=some (.lst us)/\us.length=i/\us.Nodup/\(∀x∈us,gh K A H' n (Dr (max w 6)) x)/\jx H' b/\Inner H' b q0/\cZ b H H') ⟨none,none,none,[],rfl,g1,rfl,jD,(λ_ z=>nomatch z),hB.same s1,I1,s1.upto⟩ ?_ ?_
  ·rintro i σ' H' hi ⟨x1,x2,x3,us,rfl,gu,lu,nd,ru,B',I',u'⟩;exists ⟨b,n,w,rfl,B',by lia,w0,w1,λp xs Ha np Ra la da Ba ua=>?_⟩;have hp0:H p=none:=u'.none B' np
   have pn:V.ref p∉us:=λz=>by
    obtain ⟨q',_,_,e',_,g',_⟩:=(ru _ z).at;cases e';rw[np] at g';cases g'
   have ap':H p=none/\p≠r:=⟨hp0,λz=>by rw[z,gu] at np;cases np⟩;have ap:A p:=by rw[eA];exact ap'
   have X0:IY K A n (Dr (max w 6)) r p b q0 us H Ha:=⟨ua.other rb gu,λx hx=>(ru x hx).upto ua B' nb,⟨p,xs,rfl,ap,Ra,la,da⟩,Ba,ua.2 _ I',u'.trans ua⟩;clear ru Ra gu;exists ⟨by lia,by lia,?_⟩;refine eK (n:=n) (λj σ' H'=>(∃x3,σ'=[some (.ref b),some (.int n),some (.int way),some (.int first),some (.int w),some (.ref r),some (.int i),some (.ref p),x3])/\IY K A n (Dr (max w 6)) r p b q0 us H H') ⟨⟨_,rfl⟩,X0⟩ ?_ ?_
   ·rintro j σ' Hj hj ⟨⟨x3,rfl⟩,X⟩;exists ⟨λσ' H'=>σ'=[some (.ref b),some (.int n),some (.int way),some (.int first),some (.int w),some (.ref r),some (.int i),some (.ref p),some (.int j)]/\IY K A n (Dr (max w 6)) r p b q0 us H H',?_,?_⟩
    ·exists iI (λ_=>?_) (λ_=>?_)
     ·exists ⟨b,3,rfl,X.bag,by decide,by decide,λd Hd d0 d1 Bd ud=>?_⟩;replace X:=X.upto ud Bd nb rb
      repeat' (first | walk_at "rd" | refine iI (λ_=>?_) (λ_=>?_))
      all_goals first
       | exact ⟨rfl,X⟩
       | (refine cK λt Hb sb gb=>?_;walk_at "w";obtain ⟨zs,gz,lz,Xz⟩:=(X.same sb).put ap nr nb nq hp0 (cA.mk (q:=0) gb rfl) (rA (i:=0) (aW _) W1) j;refine fA gz (fX (by lia)) rfl ?_;exact ⟨rfl,Xz⟩)
     ·exists ⟨rfl,X⟩
    clear X;rintro σ' Hj ⟨rfl,X⟩;refine ⟨λσ' H'=>σ'=[some (.ref b),some (.int n),some (.int way),some (.int first),some (.int w),some (.ref r),some (.int i),some (.ref p),some (.int j)]/\IY K A n (Dr (max w 6)) r p b q0 us H H',?_,?_⟩
    ·repeat' (first | walk_at "rd" | refine iI (λ_=>?_) (λ_=>?_))
     all_goals first
      | exact ⟨rfl,X⟩
      | (refine cK λt Hb sb gb=>?_;walk_at "w";obtain ⟨zs,gz,lz,Xz⟩:=(X.same sb).put ap nr nb nq hp0 (cA.mk (q:=((if decide ((j:Int)=(i:Int)+1)=true then (1:Int) else 0:Int):Rat)) gb rfl) (rA (by split <;> lia) W1) j;refine fA gz (fX (by lia)) rfl ?_;exact ⟨rfl,Xz⟩)
    clear X;rintro σ' Hj ⟨rfl,X⟩;refine ⟨λσ' H'=>σ'=[some (.ref b),some (.int n),some (.int way),some (.int first),some (.int w),some (.ref r),some (.int i),some (.ref p),some (.int j)]/\IY K A n (Dr (max w 6)) r p b q0 us H H',?_,?_⟩
    ·repeat' (first | walk_at "rd" | refine iI (λ_=>?_) (λ_=>?_))
     all_goals first
      | exact ⟨rfl,X⟩
      | (refine cK λt Hb sb gb=>?_;walk_at "w";obtain ⟨zs,gz,lz,Xz⟩:=(X.same sb).put ap nr nb nq hp0 (cA.mk (q:=0) gb rfl) (rA (i:=0) (aW _) W1) j;refine fA gz (fX (by lia)) rfl ?_;exact ⟨rfl,Xz⟩)
    clear X;rintro σ' Hj ⟨rfl,X⟩;exists iI (λ_=>?_) (λ_=>?_)
    ·exists dB λl0 Hc sc nc gc=>?_
     walk_at "w";obtain ⟨x,ex,mx,_⟩:=rH (xs:=[V.int 2,V.int 1,V.int (-1),V.int 0]) (i:=first % 4) (kK _ (by decide)) (by have:=iD first (show (0:Int) < 4 by decide);simpa using this)
     obtain ⟨z,rfl,hz⟩:∃z:Int,x=.int z/\z.natAbs<=2:=by
      simp only[ay,aG,or_false] at mx;rcases mx with rfl | rfl | rfl | rfl
      ·exact ⟨2,rfl,by decide⟩
      ·exact ⟨1,rfl,by decide⟩
      ·exact ⟨-1,rfl,by decide⟩
      ·exact ⟨0,rfl,by decide⟩
     refine cB (bE.of gc) ex ?_;exists fM (IF (by lia) (by lia)) ?_;exists cK λt Hb sb gb=>?_
     walk_at "w";obtain ⟨zs,gz,lz,Xz⟩:=((X.same sc).same sb).put ap nr nb nq hp0 (cA.mk (q:=((z*(if decide ((i:Int)=(j:Int))=true then (1:Int) else 0):Int):Rat)) gb rfl) (rA (by split <;> lia) W1) j;refine fA gz (fX (by lia)) rfl ?_;exact ⟨⟨_,rfl⟩,Xz⟩
    ·exists ⟨⟨_,rfl⟩,X⟩
   ·rintro σ' Hj ⟨⟨x3,rfl⟩,X⟩;exists ⟨.inl ⟨rfl,_,bE.of X.gr⟩,?_⟩;exists kM X.gr (bx (by lia)) ?_;refine ⟨_,_,_,us++[.ref p],rfl,aH,by simp [lu],zA nd pn,λx hx=>?_,X.bag.upd X.inn rb rq,X.inn.upd rb,X.up.after n1⟩;rcases aD.mp hx with hx | hx
    ·exact (X.ru x hx).other X.gr nr
    ·have e:x=V.ref p:=by simpa using hx
     rw[e];exact X.rp.other X.gr nr
  ·rintro σ' H' ⟨x1,x2,x3,us,rfl,gu,lu,nd,ru,B',I',u'⟩;exists k r us H' n1 gu lu nd (by rw[eA] at ru;exact ru) B' u'
theorem En:aR ["_law_one","_law_other"] ["_law_one","_law_other"] (aK tx):=by walk_at "d"
theorem qX (T:Txt K mg Z) (ptree:P.given.tree=none):cD P w K mg base fN 2 Z.Am Z.zZ ["_law_one","_law_other"] (mV K (λx y=>x+y)):=by
 have gU:=mG (P:=P) (w:=w) (base:=base) T ptree;refine T.iQ.F.ok En (λvs H Q E h=>?_) (λcdv A outer s H vs Q E hr h=>?_)
 ·obtain ⟨p,q,a,b,c,d,rfl,hp,hq,hb,hd,sa,sb,sc,sd,k⟩:=yo h;rfl
 ·obtain ⟨p,q,a,b,c,d,rfl,hp,hq,hb,hd,sa,sb,sc,sd,k⟩:=yo h;refine ⟨_,(aA (aY (cO gU hr T.gN (ae (bJ eJ (bJ cW (bf cw (pv 0) ao) (bf cw (pv 1) ao)) (bJ cW (bf cw (pv 1) ao) (bf cw (pv 0) ao))) (ae (bJ cW (bf cw (pv 0) ao) (bf cw (pv 1) ao)) ai))))),?_⟩;refine aN (σ:=[some (.ref p),some (.ref q)]) rfl ?_;have hbd:0 < b*d:=iw hb hd;have sbd:Sz 449950 (b*d):=(sb.mul sd).mono (by decide);exists fM (show fP _ _ from .inr ⟨_,_,sa,sd,by decide⟩) ?_;exists fM (show fP _ _ from .inr ⟨_,_,sc,sb,by decide⟩) ?_;exists fM (show fP _ _ from .inr ⟨_,_,sb,sd,by decide⟩) ?_;walk_at "w";exists ⟨_,_,rfl,hbd,sbd,k⟩
theorem CM:aR ["_law_one","_law_other"] ["_law_one","_law_other"] (aK qN):=by walk_at "d"
theorem oZ (T:Txt K mg Z) (ptree:P.given.tree=none):cD P w K mg base fN 3 Z.xJ Z.xt ["_law_one","_law_other"] (yC K):=by
 have jS:=qX (P:=P) (w:=w) (base:=base) T ptree;refine T.ji.F.ok CM (λvs H Q E h=>?_) (λcdv A outer s H vs Q E hr h=>?_)
 ·obtain ⟨p,q,xs,ys,rfl,_⟩:=h;rfl
 ·obtain ⟨p,q,xs,ys,rfl,hp,hq,hl,hz,h1,h2,kk⟩:=h;refine ⟨_,(aA (aY (cy ["_law_k"] ["_law_one","_law_other"] [0,1] (cI rfl T.range (ae (bL bw (by rfl) T.len bg (ae (pv 0) ai)) ai)) (λ_=>(aM (i:=0) (show ND9 ["_law_k","_law_one","_law_other"] by decide +kernel))) (λ_=>cF) (λ_=>(cO jS hr T.iQ (ae (bf (rg K (by rfl)) (pv 1) (pv 0)) (ae (bf (rg K (by rfl)) (pv 2) (pv 0)) ai))))))),?_⟩;refine aN (σ:=[some (.ref p),some (.ref q)]) rfl ?_;obtain ⟨us,gu,qu⟩:=id hp;obtain ⟨ws,gw,qw⟩:=id hq;have lu:=qu.length;exists ⟨_,_,rfl,.inl (bE.of gu),?_⟩;exists ⟨by lia,by lia,?_⟩;refine iS (n:=us.length) (cA K) (λi=>xs.getD i 0+ys.getD i 0) (by lia) (λa b=>a.same b) ?_ ?_
  ·rintro i H' NY NN hi s k1;have ix:i < xs.length:=by lia
   have iy:i < ys.length:=by lia
   obtain ⟨vx,ex,nx⟩:=Kd (Paired.imp' (λ_ _ z=>z.same s) qu) ix;obtain ⟨vy,ey,ny⟩:=Kd (Paired.imp' (λ_ _ z=>z.same s) qw) iy;exists cB (bE.of (s _ _ gu)) ex ?_;exists cB (bE.of (s _ _ gw)) ey ?_;exists ⟨_,_,_,_,rfl,nx,ny,h1 _ (getD_mem ix),h2 _ (getD_mem iy),λr3 H3 s3 n3=>k1 _ _ s3 n3⟩
  ·rintro ys' H' l hl' s g pr nx;exact kk l H' hl' s ⟨ys',g,by rw[Bc (by lia)];rw[<- lu] at pr;exact pr⟩
theorem CL:aR ["_law_one","_law_other"] ["_law_one","_law_other"] (aK qM):=by walk_at "d"
theorem oY (T:Txt K mg Z) (ptree:P.given.tree=none):cD P w K mg base fN 2 Z.xI Z.xp ["_law_one","_law_other"] (mV K (λx y=>x*y)):=by
 have gU:=mG (P:=P) (w:=w) (base:=base) T ptree;refine T.gZ.F.ok CL (λvs H Q E h=>?_) (λcdv A outer s H vs Q E hr h=>?_)
 ·obtain ⟨p,q,a,b,c,d,rfl,hp,hq,hb,hd,sa,sb,sc,sd,k⟩:=yi h;rfl
 ·obtain ⟨p,q,a,b,c,d,rfl,hp,hq,hb,hd,sa,sb,sc,sd,k⟩:=yi h;refine ⟨_,(aA (aY (cO gU hr T.gN (ae (bJ cW (bf cw (pv 0) ao) (bf cw (pv 1) ao)) (ae (bJ cW (bf cw (pv 0) ao) (bf cw (pv 1) ao)) ai))))),?_⟩;refine aN (σ:=[some (.ref p),some (.ref q)]) rfl ?_;have hbd:0 < b*d:=iw hb hd;have sbd:Sz 449950 (b*d):=(sb.mul sd).mono (by decide);exists fM (show fP _ _ from .inr ⟨_,_,sa,sc,by decide⟩) ?_;exists fM (show fP _ _ from .inr ⟨_,_,sb,sd,by decide⟩) ?_;walk_at "w";exists ⟨_,_,rfl,hbd,sbd,k⟩
theorem FI:aR ["_law_by_here","_law_row_here"] ["_law_by_here","_law_row_here"] (aK vT):=by walk_at "d"
theorem tK (T:Txt K mg Z) (ptree:P.given.tree=none):cD P w K mg base fN 3 Z.Cj Z.BV ["_law_by_here","_law_row_here"] (FE K):=by
 have iV:=oY (P:=P) (w:=w) (base:=base) T ptree;refine T.lO.F.ok FI (λvs H Q E h=>?_) (λcdv A outer s H vs Q E hr h=>?_)
 ·obtain ⟨u,q,c,ys,rfl,_⟩:=h;rfl
 ·obtain ⟨u,q,c,ys,rfl,hc,sc,hq,hz,h2,kk⟩:=h;refine ⟨_,(aA (aY (cy ["_law_one"] ["_law_by_here"] [0] (cL (pv 1)) (λ_=>(aM (i:=0) (show ND9 ["_law_one","_law_by_here"] by decide +kernel))) (λ_=>cF) (λ_=>(cO iV hr T.gZ (ae (pv 1) (ae (pv 0) ai))))))),?_⟩;refine aN (σ:=[some u,some (.ref q)]) rfl ?_;obtain ⟨us,gu,qu⟩:=id hq;exists ⟨⟨_,bE.of gu⟩,?_⟩;refine eD (K:=K) (F:=cA K) (cA K) (λy=>c*y) gu qu hz (λa b=>a.same b) (λa b=>a.same b) ?_ ?_
  ·rintro i y x H' NY NN en s hx k;exists ⟨_,_,_,_,rfl,hc.same s,hx,sc,h2 y (ak en),λr H2 s2 h2'=>k _ _ s2 h2'⟩
  ·rintro ys' H' r hr s g pr nx;exact kk r H' hr s ⟨ys',g,pr⟩
theorem dQ:aR ["_law_bag_here","_law_move_here","_law_put","_law_look","_law_n","_law_turn","_law_i","_law_j","_law_by_here","_law_less_here","_law_row_here"] ["_law_bag_here","_law_move_here","_law_put","_law_look"] (aK oM):=by walk_at "d"
theorem AX (T:Txt K mg Z) (ptree:P.given.tree=none):cD P w K mg base fN 4 Z.vm Z.uV ["_law_bag_here","_law_move_here","_law_put","_law_look"] (Bt K):=by
 have bS:=gX (P:=P) (w:=w) (base:=base) T ptree;have kg:=oZ (P:=P) (w:=w) (base:=base) T ptree;have oi:=tK (P:=P) (w:=w) (base:=base) T ptree;have jS:=qX (P:=P) (w:=w) (base:=base) T ptree;have iV:=oY (P:=P) (w:=w) (base:=base) T ptree;refine T.nI.F.ok dQ (λvs H Q E h=>?_) (λcdv A outer s H vs Q E hr h=>?_)
 ·obtain ⟨b,m,p,l,q0,n,WV,μ,A,us,ws,vs,rfl,_⟩:=h;rfl
 ·obtain ⟨b,m,p,l,q0,n,WV,μ,A,us,ws,vs,rfl,MA,X,n8,i4,o4,M0,M1,⟨M,eM⟩,V1,hA,k⟩:=h
  refine ⟨_,(ar (a9 (i:=4) dQ.nd rfl (Or.inl rfl) (bL bw (by rfl) T.len bg (ae (pv 1) ai)))
   (ar (dn (PW.pt (pP (bu pQ (pv 4) ao (bD _)) (kr (bu eU (cO bS hr T.bT (ae (pv 0) (ae ao ai))) ao (bD _))))) (aA (aY (dR (ae (pv 1) (ae (pv 2) (ae (pv 3) ai)))))) cu)
   (ar (eV PassesOwn.never rfl (cI rfl T.range (ae (bJ eJ ao (cO bS hr T.bT (ae (pv 0) (ae ao ai)))) ai)) (aM (i:=5) dQ.nd)
    (ar (a9 (i:=6) dQ.nd rfl (Or.inl rfl) (cO bS hr T.bT (ae (pv 0) (ae (pv 4) ai))))
   (ar (a9 (i:=7) dQ.nd rfl (Or.inl rfl) (bJ ni (bJ eJ (bJ eJ (pv 6) ao) (cO bS hr T.bT (ae (pv 0) (ae (bJ oU (pv 4) ao) ai)))) (pv 4)))
   (ar (a9 (i:=8) dQ.nd rfl (Or.inl rfl) (dR (ae (bf bM (eX (ae ao (ae (mD iY ao) (ae ao (ae (mD iY ao) ai))))) (cO bS hr T.bT (ae (pv 0) (ae ao ai)))) (ae ao ai))))
   (ar (a9 (i:=9) dQ.nd rfl (Or.inl rfl) (dR (ae (bJ oU ao (bf cw (pv 8) ao)) (ae ao ai))))
   (ar (fV (cO kg hr T.ji (ae (bf bM (pv 1) (pv 6)) (ae (cO oi hr T.lO (ae (pv 8) (ae (bf bM (pv 1) (pv 7)) ai))) ai))) (ie (pv 1) (pv 6) set_list))
   (ar (eV PassesOwn.never rfl (cL (bJ oV (pv 1) (pv 3))) (aM (i:=10) dQ.nd)
    (aA (fV (cO jS hr T.iQ (ae (bf bM (pv 10) (pv 7)) (ae (cO iV hr T.gZ (ae (pv 9) (ae (bf bM (pv 10) (pv 6)) ai))) ai))) (ie (pv 10) (pv 7) set_list))))
   (aA (eV PassesOwn.never rfl (cL (pv 2)) (aM (i:=10) dQ.nd)
    (aA (fV (cO jS hr T.iQ (ae (bf bM (pv 10) (pv 6)) (ae (cO iV hr T.gZ (ae (pv 8) (ae (bf bM (pv 10) (pv 7)) ai))) ai))) (ie (pv 10) (pv 6) set_list))))))))))))
   (aA (aY (dR (ae (pv 1) (ae (pv 2) (ae (pv 3) ai))))))))),?_⟩
  refine aN (σ:=[some (.ref b),some (.ref m),some (.ref p),some (.ref l),none,none,none,none,none,none,none]) rfl ?_;have done:∀r us' H' t,t<=3->H' r=some (.tup [.ref m,.ref p,.ref l])->jy K A H' n (λx=>Fr (μ x) (9^t*WV)) m p l b q0 us' ws vs->ia A b m H H'->Q (.ref r) H':=λr us' H' t ht g x kp=>k r us' H' g (x.weak λ_ _ y h=>h.mono (aw _ (av (by decide) ht))) kp
  have X0:jy K A H n (λx=>Fr (μ x) (9^0*WV)) m p l b q0 us ws vs:=X.weak λ_ _ y h=>h.mono (by simp)
  clear X k;have gu:=X0.gm;have lu:=X0.lm;exists ⟨_,_,rfl,.inl (bE.of gu),?_⟩;rw[lu];clear gu lu;have kp0:ia A b m H H:=λ_ _ h _ _ _=>h
  exists iI (λh0=>?_) (λh0=>?_)
  ·exists cK λr H' s' g'=>?_
   exact done r us H' 0 (by decide) g' (X0.same s') (kp0.same s')
  have n2:2<=n:=by
   rcases aT n 2 with z | z
   ·exact absurd (decide_eq_true (show (n:Int) < 2 by lia)) h0
   ·exact z
  exists ⟨b,2,rfl,X0.bag,by decide,by decide,λv H1 v0 v1 B1 u1=>?_⟩;have X1:=X0.upto MA u1 B1;have kp1:=kp0.upto u1;exists iI (λh1=>?_) (λh1=>?_)
  ·exists cK λr H' s' g'=>?_
   exact done r us H' 0 (by decide) g' (X1.same s') (kp1.same s')
  exists ⟨b,3,rfl,B1,by decide,by decide,λc H2 c0 c1 B2 u2=>?_⟩;have X2:=X1.upto MA u2 B2;have kp2:=kp1.upto u2;clear X0 X1 kp0 kp1 u1 u2 B1;exists ⟨by lia,by lia,?_⟩;refine eK (n:=(1+c).toNat) (λt σ' H'=>∃(x1 x2 x3 x4 x5 x6:Option V) (us:List V),σ'=[some (.ref b),some (.ref m),some (.ref p),some (.ref l),some (.int n),x1,x2,x3,x4,x5,x6]/\jy K A H' n (λx=>Fr (μ x) (9^t*WV)) m p l b q0 us ws vs/\ia A b m H H') ⟨none,none,none,none,none,none,us,rfl,X2,kp2⟩ ?_ ?_
  ·rintro t σ' H' ht ⟨x1,x2,x3,x4,x5,x6,us,rfl,X,kp⟩;have t3:t<=2:=by lia
   exists ⟨b,n,rfl,X.bag,by lia,by lia,λii Ha i0 i1 Ba ua=>?_⟩;obtain ⟨ii,rfl⟩:=xU i0;have Xa:=X.upto MA ua Ba;have kpa:=kp.upto ua;exists ⟨b,_,rfl,Ba,by lia,by lia,λd Hb d0 d1 Bb ub=>?_⟩;have Xb:=Xa.upto MA ub Bb;have kpb:=kpa.upto ub;exists fM (show (0:Int) < n by lia) ?_;have j0:=kK ((ii:Int)+1+d) (show (n:Int)≠0 by lia);have j1:=iD ((ii:Int)+1+d) (show (0:Int) < n by lia);generalize ((ii:Int)+1+d) % (n:Int)=jj at j0 j1 ⊢;obtain ⟨jj,rfl⟩:=xU j0;exists dB λl0 Hc sc nc gc=>?_
   exists ⟨b,4,rfl,Bb.same sc,by decide,by decide,λv' Hd v0' v1' Bd ud=>?_⟩;have gd:=ud.other (λz=>Bb.at (by rw[<- z];exact nc)) gc;obtain ⟨x,ex,mx,_⟩:=rH (xs:=[V.int 1,V.int (-1),V.int 2,V.int (-2)]) v0' (by simpa using v1')
   obtain ⟨z,rfl,hz⟩:∃z:Int,x=.int z/\z.natAbs<=2:=by
    simp only[ay,aG,or_false] at mx;rcases mx with rfl | rfl | rfl | rfl
    ·exact ⟨1,rfl,by decide⟩
    ·exact ⟨-1,rfl,by decide⟩
    ·exact ⟨2,rfl,by decide⟩
    ·exact ⟨-2,rfl,by decide⟩
   have Xd:=(Xb.same sc).upto MA ud Bd;have kpd:=(kpb.same sc).upto ud;exists cB (bE.of gd) ex ?_;exists cK λbt He se ge=>?_
   exists cK λlt Hf sf gf=>?_
   have Xf:=(Xd.same se).same sf;have kpf:=(kpd.same se).same sf;have nb:cA K Hf ((z:Int):Rat) (.ref bt):=cA.mk (sf _ _ ge) rfl;have nl:cA K Hf ((0 - z:Int):Rat) (.ref lt):=cA.mk gf rfl;clear X Xa Xb Xd kp kpa kpb kpd ua ub ud sc gc gd ex mx ge gf se sf Ba Bb Bd nc;have gu:=Xf.gm;have lu:=Xf.lm
   have ru:∀x∈us,gh K A Hf n (Fr M (9^t*WV)) x:=λx hx=>by
    have:=Xf.row x (by simp [hx]);rwa [eM x (Xf.apart.1 x hx).1 (Xf.apart.1 x hx).2] at this
   have hM:0 < M/\M<=2^800:=by
    have hx:us[ii]'(by lia)∈us:=aB _;have:=eM _ (Xf.apart.1 _ hx).1 (Xf.apart.1 _ hx).2;rw[<- this];exact ⟨M0 _,M1 _⟩
   have e1:us[ii]?=some (us[ii]'(by lia)):=by simp
   have e2:us[jj]?=some (us[jj]'(by lia)):=by simp
   obtain ⟨q1,z1,qs1,w1,a1,g1,k1,p1,l1,c1⟩:=(ru _ (ak e1)).at;obtain ⟨q2,z2,qs2,w2,a2,g2,k2,p2,l2,c2⟩:=(ru _ (ak e2)).at;rw[w1] at e1;rw[w2] at e2;generalize eW:9^t*WV=W at *
   have W9:9*W<=2^140:=by rw[<- eW];exact Nw (by lia) V1 (by decide)
   have sz9M:∀{x:Rat} {U:Nat},U<=9*W->Fr M U x->j4 x:=λhU h=>Ij hM.1 hM.2 (ag hU W9) h
   have sz9:∀{x:Rat} {U:Nat} {v:V},U<=9*W->Fr (μ v) U x->j4 x:=λhU h=>Ij (M0 _) (M1 _) (ag hU W9) h
   exists cB (bE.of gu) (ff e1) ?_;exists cB (bE.of gu) (ff e2) ?_;exists ⟨_,q2,_,qs2,rfl,nb,CB (by lia),⟨z2,g2,p2⟩,by lia,λy hy=>sz9M (by lia) (c2 y hy),λr1 Hg n1 sg R1=>?_⟩;exists ⟨q1,r1,qs1,_,rfl,⟨z1,sg _ _ g1,Paired.imp' (λ_ _ y=>y.same sg) p1⟩,R1,by rw[ah,l1,l2],by lia,λy hy=>sz9M (by lia) (c1 y hy),λy hy=>?_,λr2 Hh n2' sh R2=>?_⟩
   ·obtain ⟨y',hy',rfl⟩:=ax.mp hy;exact yy hz (c2 y' hy') hM.1 hM.2 (by lia)
   have sfh:=sg.trans sh
   have new:V.ref r2∉us++vs++ws:=λz=>by
    obtain ⟨q',_,_,e',_,g',_⟩:=((Xf.same sg).row _ z).at;cases e';rw[n2'] at g';cases g'
   have Xh:=(Xf.same sfh).weak (C':=λx y=>(x∈ws->Fr (μ x) W y)/\Fr (μ x) (3*W) y) λx _ y h=>⟨λ_=>h,h.mono (by lia)⟩
   have kph:=kpf.same sfh;have guh:=sfh _ _ gu;have ar2:A r2:=(kpf.same sg).new hA (Xf.same sg).bag (by rw[sg _ _ gu];simp) n2'
   have rp2:gh K A Hh n (λy=>(V.ref r2∈ws->Fr (μ (.ref r2)) W y)/\Fr (μ (.ref r2)) (3*W) y) (.ref r2):=by
    rw[eM (.ref r2) (λz=>new (aD.mpr (.inr z))) (λz=>new (aD.mpr (.inl (aD.mpr (.inr z)))))];refine ⟨r2,_,rfl,ar2,R2,by rw[aP,ah];lia,λy hy=>⟨λz=>absurd (aD.mpr (.inr z)) new,?_⟩⟩;obtain ⟨j',hj',e⟩:=bO hy;rw[dh,dN] at e;rw[<- e];exact Ds hz (c1 _ (aB _)) (c2 _ (aB _))
   exists fA guh (fX (by lia)) rfl ?_;have Xi:=Xh.set MA rp2 new ii;have kpi:=kph.upd (o:=.lst (us.set ii (.ref r2))) (q:=m) (.inr rfl);have nli:cA K (upd Hh m (.lst (us.set ii (.ref r2)))) ((0 - z:Int):Rat) (.ref lt):=(nl.same sfh).updL guh;have nbi:cA K (upd Hh m (.lst (us.set ii (.ref r2)))) ((z:Int):Rat) (.ref bt):=(nb.same sfh).updL guh;generalize upd Hh m (.lst (us.set ii (.ref r2)))=Hi at Xi kpi nli nbi ⊢;generalize us.set ii (.ref r2)=um at Xi;clear nb nl Xf kpf gu ru e1 e2 g1 p1 g2 p2 R1 R2 Xh kph guh rp2 sg sh sfh new;have gm:=Xi.gm;have lm:=Xi.lm;have gl:=Xi.gl;have nd:=Xi.nd;obtain ⟨nd1,nd2,nd3⟩:=fh.mp nd;exists oP gm gl (aQ (bx (by lia))) λcl Hj sj nj gj=>?_
   have kpj:=kpi.same sj
   have rows:∀x∈um++vs,∀q,x=V.ref q->q≠cl:=λx hx q e y=>by
    obtain ⟨q',zs,_,e',_,g',_⟩:=(Xi.row x (aD.mpr (.inl hx))).at;rw[e] at e';cases e';rw[y,nj] at g';cases g'
   have Xj:=(Xi.same sj).weak (C':=λx y=>(x∈ws->Fr (μ x) W y)/\(x∈(um++vs).drop 0->Fr (μ x) (3*W) y)/\Fr (μ x) (9*W) y) λx _ y h=>⟨h.1,λ_=>h.2,h.2.mono (by lia)⟩
   have lj:cA K Hj ((0 - z:Int):Rat) (.ref lt):=nli.same sj;have bj:cA K Hj ((z:Int):Rat) (.ref bt):=nbi.same sj;clear Xi kpi nli nbi;refine ⟨_,rfl,⟨_,bE.of gj⟩,?_⟩;refine nR (K:=K) (a:=cl) (xs:=um++vs) (λs σ' H'=>∃x6:Option V,σ'=[some (.ref b),some (.ref m),some (.ref p),some (.ref l),some (.int n),some (.int t),some (.int ii),some (.int jj),some (.ref bt),some (.ref lt),x6]/\jy K A H' n (λx y=>(x∈ws->Fr (μ x) W y)/\(x∈(um++vs).drop s->Fr (μ x) (3*W) y)/\Fr (μ x) (9*W) y) m p l b q0 um ws vs/\ia A b m H H'/\H' cl=some (.lst (um++vs))/\cA K H' ((0 - z:Int):Rat) (.ref lt)/\cA K H' ((z:Int):Rat) (.ref bt)) ⟨_,rfl,Xj,kpj,gj,lj,bj⟩ (λs σ' H' _ ⟨_,_,_,_,e,_⟩=>bE.of e) ?_ ?_
   ·rintro s x σ' Hk hx ⟨y6,rfl,Xk,kpk,gk,lk,bk⟩;have hs:s < (um++vs).length:=(aL.mp hx).1;have mx:=ak hx
    have xd:x∈(um++vs).drop s:=by
     rw[dw hs,(aL.mp hx).2];exact .head _
    have xd2:x∉(um++vs).drop (s+1):=λz=>by
     have:=nd1.sublist (List.drop_sublist s _);rw[dw hs,cR,(aL.mp hx).2] at this;exact this.1 z
    have xw:x∉ws:=λz=>nd3 x mx x z rfl
    have rx:=Xk.row x (aD.mpr (.inl mx));obtain ⟨q,zs,qs,rfl,aq,gq,lq,pq,lq2,cq⟩:=rx.at;have qcl:=rows _ mx q rfl;obtain ⟨vj,ej,nj'⟩:=Kd pq (j:=jj) (by lia);obtain ⟨vi,ei,ni'⟩:=Kd pq (j:=ii) (by lia);have cj:=(cq _ (getD_mem (xs:=qs) (i:=jj) (by lia))).2.1 xd;have ci:=(cq _ (getD_mem (xs:=qs) (i:=ii) (by lia))).2.1 xd;exists cB (bE.of gq) ej ?_;exists cB (bE.of gq) ei ?_;exists ⟨_,_,_,_,rfl,lk,ni',CB (by lia),sz9 (by lia) ci,λr3 Hl sl n3=>?_⟩;exists ⟨_,_,_,_,rfl,nj'.same sl,n3,sz9 (by lia) cj,yy (by lia) ci (M0 _) (M1 _) (by lia),λr4 Hm sm n4=>?_⟩;have slm:=sl.trans sm;exists fA (slm _ _ gq) (fX (by lia)) rfl ?_;refine ⟨_,rfl,?_,(kpk.same slm).upd (.inl aq),by rw[aU qcl.symm];exact slm _ _ gk,(lk.same slm).updL (slm _ _ gq),(bk.same slm).updL (slm _ _ gq)⟩;refine ((Xk.same slm).weak λx' _ y h=>⟨h.1,λz=>h.2.1 ?_,h.2.2⟩).put MA aq (slm _ _ gq) n4 ⟨λz=>absurd z xw,λz=>absurd z xd2,?_⟩ jj
    ·rw[dw hs];exact .tail _ z
    ·exact (Ds (by lia) cj ci).mono (by lia)
   ·rintro σ' Hk ⟨y6,rfl,Xk,kpk,gk,lk,bk⟩;have gp:=Xk.gp;have Xk2:=Xk.weak (C':=λx y=>(x∈ws.drop 0->Fr (μ x) W y)/\Fr (μ x) (9*W) y) λx _ y h=>⟨λz=>h.1 (by simpa using z),h.2.2⟩
    clear Xk;exists ⟨⟨_,bE.of gp⟩,?_⟩;refine nR (K:=K) (a:=p) (xs:=ws) (λs σ' H'=>∃x6:Option V,σ'=[some (.ref b),some (.ref m),some (.ref p),some (.ref l),some (.int n),some (.int t),some (.int ii),some (.int jj),some (.ref bt),some (.ref lt),x6]/\jy K A H' n (λx y=>(x∈ws.drop s->Fr (μ x) W y)/\Fr (μ x) (9*W) y) m p l b q0 um ws vs/\ia A b m H H'/\cA K H' ((z:Int):Rat) (.ref bt)) ⟨_,rfl,Xk2,kpk,bk⟩ (λs σ' H' _ ⟨_,_,X,_⟩=>bE.of X.gp) ?_ ?_
    ·rintro s x σ' Hl hx ⟨w6,rfl,Xl,kpl,bl⟩;have hs:s < ws.length:=(aL.mp hx).1;have mx:=ak hx
     have xd:x∈ws.drop s:=by
      rw[dw hs,(aL.mp hx).2];exact .head _
     have xd2:x∉ws.drop (s+1):=λz=>by
      have:=nd2.sublist (List.drop_sublist s _);rw[dw hs,cR,(aL.mp hx).2] at this;exact this.1 z
     have rx:=Xl.row x (aD.mpr (.inr mx));obtain ⟨q,zs,qs,rfl,aq,gq,lq,pq,lq2,cq⟩:=rx.at;obtain ⟨vj,ej,nj'⟩:=Kd pq (j:=jj) (by lia);obtain ⟨vi,ei,ni'⟩:=Kd pq (j:=ii) (by lia);have cj:=(cq _ (getD_mem (xs:=qs) (i:=jj) (by lia))).1 xd;have ci:=(cq _ (getD_mem (xs:=qs) (i:=ii) (by lia))).1 xd;exists cB (bE.of gq) ei ?_;exists cB (bE.of gq) ej ?_;exists ⟨_,_,_,_,rfl,bl,nj',CB (by lia),sz9 (by lia) cj,λr3 Hm sm n3=>?_⟩;exists ⟨_,_,_,_,rfl,ni'.same sm,n3,sz9 (by lia) ci,yy (by lia) cj (M0 _) (M1 _) (by lia),λr4 Hn sn n4=>?_⟩;have smn:=sm.trans sn;exists fA (smn _ _ gq) (fX (by lia)) rfl ?_;refine ⟨_,rfl,?_,(kpl.same smn).upd (.inl aq),(bl.same smn).updL (smn _ _ gq)⟩;refine ((Xl.same smn).weak λx' _ y h=>⟨λz=>h.1 ?_,h.2⟩).put MA aq (smn _ _ gq) n4 ⟨λz=>absurd z xd2,?_⟩ ii
     ·rw[dw hs];exact .tail _ z
     ·exact (Ds (by lia) ci cj).mono (by lia)
    ·rintro σ' Hl ⟨w6,rfl,Xl,kpl,bl⟩;refine ⟨_,_,_,_,_,_,um,rfl,Xl.weak λ_ _ y h=>h.2.mono ?_,kpl⟩;rw[<- eW,cY,bH (9^t) 9,cC];exact aj _
  ·rintro σ' H' ⟨x1,x2,x3,x4,x5,x6,us',rfl,X,kp⟩;exists cK λr H2' s' g'=>?_
   exact done r us' H2' _ (by lia) g' (X.same s') (kp.same s')
theorem dP:aR ["_law_bag_here","_law_n","_law_ins","_law_outs","_law_wide","_law_way","_law_first","_law_move_here","_law_put","_law_look","_law_k","_law_row_here"] ["_law_bag_here","_law_n","_law_ins","_law_outs","_law_wide"] (aK oK):=by walk_at "d"
theorem AW (T : Txt K mg Z) (ptree : P.given.tree = none) : cD P w K mg base fN 5 Z.vh Z.uU ["_law_bag_here", "_law_n", "_law_ins", "_law_outs", "_law_wide"] (Bo K) := by
  have bS := gX (P := P) (w := w) (base := base) T ptree;have Fh := C8 (P := P) (w := w) (base := base) T ptree;have iJ := qY (P := P) (w := w) (base := base) T ptree;have DQ := AX (P := P) (w := w) (base := base) T ptree;refine T.nH.F.ok dP (λvs H Q E h => ?_) (λcdv A outer s H vs Q E hr h => ?_)
  · obtain ⟨b, n, i, o, w, c, rfl, _⟩ := h;rfl
  · obtain ⟨b, n, i, o, w, c, rfl, hB, n8, i4, o4, w0, w1, hc, hc20, hcM, k⟩ := h
    refine ⟨_, (ar (a9 (i := 5) dP.nd rfl (Or.inl rfl) (cO bS hr T.bT (ae (pv 0) (ae ao ai))))
      (ar (a9 (i := 6) dP.nd rfl (Or.inl rfl) (cO bS hr T.bT (ae (pv 0) (ae (bJ eJ (pv 1) ao) ai))))
      (ar (a9 (i := 7) dP.nd rfl (Or.inl rfl) (cO Fh hr T.pd (ae (pv 0) (ae (pv 1) (ae (pv 5) (ae (pv 6) (ae (pv 4) ai)))))))
      (ar (oQ 8 ["_law_k"] ["_law_bag_here", "_law_n", "_law_wide"] [0, 1, 4] dP.nd rfl rfl (cI rfl T.range (ae (pv 2) ai)) (λ_ => (aM (i := 0) (show List.Nodup (α := PySem.Str) ["_law_k", "_law_bag_here", "_law_n", "_law_wide"] by decide +kernel))) (λ_ => cF) (λ_ => (cO iJ hr T.gM (ae (pv 1) (ae (pv 2) (ae (pv 3) ai))))))
      (ar (oQ 9 ["_law_k"] ["_law_bag_here", "_law_n", "_law_wide"] [0, 1, 4] dP.nd rfl rfl (cI rfl T.range (ae (pv 3) ai)) (λ_ => (aM (i := 0) (show List.Nodup (α := PySem.Str) ["_law_k", "_law_bag_here", "_law_n", "_law_wide"] by decide +kernel))) (λ_ => cF) (λ_ => (cO iJ hr T.gM (ae (pv 1) (ae (pv 2) (ae (pv 3) ai))))))
      (ar (eV PassesOwn.never rfl (cI rfl T.range (ae (pv 1) ai)) (aM (i := 10) dP.nd)
        (ar (eV PassesOwn.never rfl (cL (pv 8)) (aM (i := 11) dP.nd)
        (aA (dn (PW.pt (pP (PW.pt (jb (bu eU (pv 5) ao (bD _)) (jU (bu zg (pv 10) (pv 6) (bD _))))) (kr (PW.pt (jb (bu eU (pv 5) ao (bD _)) (jb (bu pQ (bJ eJ (pv 10) ao) (pv 1) (bD _)) (jU (bu eU (cO bS hr T.bT (ae (pv 0) (ae ao ai))) ao (bD _))))))))) (aA (fV (dR (ae ao (ae ao ai))) (ie (pv 11) (pv 10) set_list))) cu)))
      (aA (eV PassesOwn.never rfl (cL (pv 9)) (aM (i := 11) dP.nd)
        (aA (dn (PW.pt (pP (PW.pt (jb (bu eU (pv 5) ao (bD _)) (jU (bu zg (pv 10) (pv 6) (bD _))))) (kr (PW.pt (jb (bu eU (pv 5) ao (bD _)) (jb (bu ze (pv 10) ao (bD _)) (jU (bu eU (cO bS hr T.bT (ae (pv 0) (ae ao ai))) ao (bD _))))))))) (aA (fV (dR (ae ao (ae ao ai))) (ie (pv 11) (pv 10) set_list))) cu))))))
      (aA (aY (cO DQ hr T.nI (ae (pv 0) (ae (pv 7) (ae (pv 8) (ae (pv 9) ai))))))))))))), ?_⟩
    refine aN (σ := [some (.ref b), some (.int n), some (.int i), some (.int o), some (.int w), none, none, none, none, none, none, none]) rfl ?_;have W1 : 1 ≤ max w 6 := by lia
    obtain ⟨q0, I0, xs0, gq0⟩ := hB.inner;exists ⟨b, 6, rfl, hB, by decide, by decide, λway H1 a0 a1 B1 u1 => ?_⟩;exists ⟨b, _, rfl, B1, by lia, by lia, λfirst H2 f0 f1 B2 u2 => ?_⟩;have u02 := u1.trans u2;exists ⟨b, n, w, way, first, rfl, B2, n8, w0, w1, λm us H3 nm0 gm lm ndm rm B3 u3 => ?_⟩;have u03 := u02.trans u3;exists ⟨by lia, by lia, ?_⟩;refine BX (n := i) (b := b) (cU K H3) (λxs => xs.length = n /\ ∀ x ∈ xs, Dr (max w 6) x) B3 (by lia) (λa u B => a.upto u B B3.at) (λ⟨q, e, _, _, g, _⟩ => ⟨q, e, by rw [g]; exact λz => nomatch z⟩) ?_ ?_
    · rintro s H' NY NN hi u B k1;exists ⟨b, n, w, rfl, B, by lia, w0, w1, λr xs H2 nr R lx dx B2 u2 => k1 _ xs _ u2 B2 ⟨lx, dx⟩ ⟨r, rfl, u.none B nr, R⟩ ⟨r, rfl, nr⟩⟩
    rintro ws puts H4 p np u4 B4 gp lp ndp hp pr4 nx4;have u04 := u03.trans u4;exists ⟨by lia, by lia, ?_⟩;refine BX (n := o) (b := b) (cU K H4) (λxs => xs.length = n /\ ∀ x ∈ xs, Dr (max w 6) x) B4 (by lia) (λa u B => a.upto u B B4.at) (λ⟨q, e, _, _, g, _⟩ => ⟨q, e, by rw [g]; exact λz => nomatch z⟩) ?_ ?_
    · rintro s H' NY NN hi u B k1;exists ⟨b, n, w, rfl, B, by lia, w0, w1, λr xs H2 nr R lx dx B2 u2 => k1 _ xs _ u2 B2 ⟨lx, dx⟩ ⟨r, rfl, u.none B nr, R⟩ ⟨r, rfl, nr⟩⟩
    rintro vs looks H5 l nl u5 B5 gl ll ndl hl pr5 nx5;have u05 := u04.trans u5;have hm0 : H m = none := u02.none B2 nm0;have hp0 : H p = none := u03.none B3 np;have hl0 : H l = none := u04.none B4 nl;have mb : m ≠ b := λz => B2.at (by rw [<- z]; exact nm0)
    have pb : p ≠ b := λz => B3.at (by rw [<- z]; exact np)
    have lb : l ≠ b := λz => B4.at (by rw [<- z]; exact nl)
    have gm4 := u4.other mb gm;have gm5 := u5.other mb gm4;have gp5 := u5.other pb gp;have mp : m ≠ p := λz => by rw [z, np] at gm; cases gm
    have ml : m ≠ l := λz => by rw [z, nl] at gm4; cases gm4
    have pl : p ≠ l := λz => by rw [z, nl] at gp; cases gp
    have mq : m ≠ q0 := λz => Inner.at B2 (u02.2 _ I0) (by rw [<- z]; exact nm0)
    obtain ⟨A, eA⟩ : ∃ A : Addr → Prop, A = λq => H q = none /\ q ≠ m /\ q ≠ p /\ q ≠ l := ⟨_, rfl⟩
    have mkA : ∀ {q}, H q = none → q ≠ m → q ≠ p → q ≠ l → A q := λh1 h2 h3 h4 => by rw [eA]; exact ⟨h1, h2, h3, h4⟩
    have unA : ∀ {q}, A q → H q = none /\ q ≠ m /\ q ≠ p /\ q ≠ l := λh => by rw [eA] at h; exact h
    have MA : GK A m p l b q0 := ⟨λz => (unA z).2.1 rfl, λz => (unA z).2.2.1 rfl, λz => (unA z).2.2.2 rfl, λz => hB.at (unA z).1, (λz => by have z1 := (unA z).1; rw [gq0] at z1; cases z1), mb, pb, lb, mp, ml, mq⟩;clear eA;have lws : ws.length = i := by rw [<- pr4.length]; exact lp
    have lvs : vs.length = o := by rw [<- pr5.length]; exact ll
    have alM : ∀ q, V.ref q ∈ us → H3 q ≠ none /\ q ≠ b /\ H4 q ≠ none := λq hq => by
      obtain ⟨q', qs, e, ⟨a1, a2⟩, r, z⟩ := rm _ hq;cases e;have qb : q ≠ b := λy => B2.at (by rw [<- y]; exact a1)
      obtain ⟨xq, gq, _⟩ := id r;obtain ⟨xq4, gq4, _⟩ := r.upto u4 B3 qb;exact ⟨(by rw [gq]; exact λz => nomatch z), qb, (by rw [gq4]; exact λz => nomatch z)⟩
    have alP : ∀ q, V.ref q ∈ ws → H3 q = none /\ H4 q ≠ none := λq hq => by
      obtain ⟨_, _, q', e, a, _, g, _⟩ := eI pr4 hq;cases e;exact ⟨a, by rw [g]; exact λz => nomatch z⟩
    have alL : ∀ q, V.ref q ∈ vs → H4 q = none := λq hq => by
      obtain ⟨_, _, q', e, a, _⟩ := eI pr5 hq;cases e;exact a
    have isR : ∀ x, x ∈ us \/ x ∈ ws \/ x ∈ vs → ∃ q, x = V.ref q := λx hx => by
      rcases hx with hx | hx | hx
      · obtain ⟨q, _, e, _⟩ := rm x hx; exact ⟨q, e⟩
      · obtain ⟨_, _, q, e, _⟩ := eI pr4 hx; exact ⟨q, e⟩
      · obtain ⟨_, _, q, e, _⟩ := eI pr5 hx; exact ⟨q, e⟩
    have nd : (us ++ vs ++ ws).Nodup := by
      refine fh.mpr ⟨fh.mpr ⟨ndm, ndl, λx hx y hy e => ?_⟩, ndp, λx hx y hy e => ?_⟩
      · subst e;obtain ⟨q, rfl⟩ := isR x (.inl hx);exact (alM q hx).2.2 (alL q hy)
      · subst e;obtain ⟨q, rfl⟩ := isR x (.inr (.inl hy));rcases aD.mp hx with hx | hx
        · exact (alM q hx).1 (alP q hy).1
        · exact (alP q hy).2 (alL q hx)
    have X5 : GI K A n (Dr (max w 6)) m p l b q0 us ws vs H H5 := by
      refine ⟨⟨B5, u05.2 _ I0, gm5, gp5, gl, lm, λx hx => ?_, nd⟩, gp5, gl, λc u e n1 _ _ => u05.1 c u e n1⟩;rcases aD.mp hx with hx | hx
      · rcases aD.mp hx with hx | hx
        · obtain ⟨q, qs, e, ⟨a1, a2⟩, r, z⟩ := rm x hx;obtain ⟨xq, gq, _⟩ := id r;have qb : q ≠ b := λy => B2.at (by rw [<- y]; exact a1)
          have r4 := r.upto u4 B3 qb;obtain ⟨xq4, gq4, _⟩ := id r4;exact ⟨q, qs, e, mkA (u02.none B2 a1) a2 (λy => by rw [y, np] at gq; cases gq) (λy => by rw [y, nl] at gq4; cases gq4), r4.upto u5 B4 qb, z⟩
        · refine KO (A := A) pr5 hl (λq hq a b' => ?_) x hx;exact mkA (u04.none B4 a) (λy => by rw [y, gm4] at a; cases a) (λy => by rw [y, gp] at a; cases a) (λy => jg nx5 (by rw [<- y]; exact hq))
      · refine gh.upto (KO (A := A) pr4 hp (λq hq a b' => ?_) x hx) u5 B4 MA.ab;exact mkA (u03.none B3 a) (λy => by rw [y, gm] at a; cases a) (λy => jg nx4 (by rw [<- y]; exact hq)) (λy => b' (by rw [y]; exact nl))
    clear alM alP alL isR rm pr4 pr5 nx4 nx5 gm gm4 gm5 gp gp5 gl hp hl;exists ⟨by lia, by lia, ?_⟩;refine eK (n := n) (λkk σ' H' => (∃ x1 x2, σ' = [some (.ref b), some (.int n), some (.int i), some (.int o), some (.int w), some (.int way), some (.int first), some (.ref m), some (.ref p), some (.ref l), x1, x2]) /\ GI K A n (Dr (max w 6)) m p l b q0 us ws vs H H') ⟨⟨_, _, rfl⟩, X5⟩ ?_ ?_
    · rintro kk σ' Hj hk ⟨⟨x1, x2, rfl⟩, X⟩;exists ⟨⟨_, bE.of X.gp⟩, ?_⟩;refine nR (K := K) (a := p) (xs := ws) (λs σ' H' => (∃ x2, σ' = [some (.ref b), some (.int n), some (.int i), some (.int o), some (.int w), some (.int way), some (.int first), some (.ref m), some (.ref p), some (.ref l), some (.int kk), x2]) /\ GI K A n (Dr (max w 6)) m p l b q0 us ws vs H H') ⟨⟨_, rfl⟩, X⟩ (λs σ' H' _ ⟨_, e⟩ => bE.of e.gp) ?_ ?_
      · rintro s x σ' Hk hx ⟨⟨y2, rfl⟩, X⟩;have mx := ak hx;obtain ⟨q, _, rfl, _⟩ := X.row (.inl mx)
        repeat' (first | walk_at "rd" | refine iI (λ_ => ?_) (λ_ => ?_))
        all_goals first
          | exact ⟨⟨_, rfl⟩, X⟩
          | (refine cK λt Hb sb gb => ?_; walk_at "w"; obtain ⟨zs, gz, lz, Xz⟩ := (X.same sb).put MA (.inl mx) (cA.mk (q := 0) gb rfl) (rA (i := 0) (aW _) W1) kk; refine fA gz (fX (by lia)) rfl ?_; exact ⟨⟨_, rfl⟩, Xz⟩)
          | (refine ⟨b, 2, rfl, X.mix.bag, by decide, by decide, λd Hd d0 d1 Bd ud => ?_⟩
             replace X := X.upto MA ud Bd
             repeat' (first | walk_at "rd" | refine iI (λ_ => ?_) (λ_ => ?_))
             all_goals first
               | exact ⟨⟨_, rfl⟩, X⟩
               | (refine cK λt Hb sb gb => ?_
                  walk_at "w";obtain ⟨zs, gz, lz, Xz⟩ := (X.same sb).put MA (.inl mx) (cA.mk (q := 0) gb rfl) (rA (i := 0) (aW _) W1) kk;refine fA gz (fX (by lia)) rfl ?_;exact ⟨⟨_, rfl⟩, Xz⟩))
      · rintro σ' Hk ⟨⟨y2, rfl⟩, X⟩;exists ⟨⟨_, bE.of X.gl⟩, ?_⟩;refine nR (K := K) (a := l) (xs := vs) (λs σ' H' => (∃ x2, σ' = [some (.ref b), some (.int n), some (.int i), some (.int o), some (.int w), some (.int way), some (.int first), some (.ref m), some (.ref p), some (.ref l), some (.int kk), x2]) /\ GI K A n (Dr (max w 6)) m p l b q0 us ws vs H H') ⟨⟨_, rfl⟩, X⟩ (λs σ' H' _ ⟨_, e⟩ => bE.of e.gl) ?_ ?_
        · rintro s x σ' Hk hx ⟨⟨y2, rfl⟩, X⟩;have mx := ak hx;obtain ⟨q, _, rfl, _⟩ := X.row (.inr mx)
          repeat' (first | walk_at "rd" | refine iI (λ_ => ?_) (λ_ => ?_))
          all_goals first
            | exact ⟨⟨_, rfl⟩, X⟩
            | (refine cK λt Hb sb gb => ?_; walk_at "w"; obtain ⟨zs, gz, lz, Xz⟩ := (X.same sb).put MA (.inr mx) (cA.mk (q := 0) gb rfl) (rA (i := 0) (aW _) W1) kk; refine fA gz (fX (by lia)) rfl ?_; exact ⟨⟨_, rfl⟩, Xz⟩)
            | (refine ⟨b, 2, rfl, X.mix.bag, by decide, by decide, λd Hd d0 d1 Bd ud => ?_⟩
               replace X := X.upto MA ud Bd
               repeat' (first | walk_at "rd" | refine iI (λ_ => ?_) (λ_ => ?_))
               all_goals first
                 | exact ⟨⟨_, rfl⟩, X⟩
                 | (refine cK λt Hb sb gb => ?_
                    walk_at "w";obtain ⟨zs, gz, lz, Xz⟩ := (X.same sb).put MA (.inr mx) (cA.mk (q := 0) gb rfl) (rA (i := 0) (aW _) W1) kk;refine fA gz (fX (by lia)) rfl ?_;exact ⟨⟨_, rfl⟩, Xz⟩))
        · rintro σ' Hk ⟨⟨y2, rfl⟩, X⟩;exact ⟨⟨_, _, rfl⟩, X⟩
    · rintro σ' Hj ⟨⟨x1, x2, rfl⟩, X⟩
      obtain ⟨M1, M2, M3, V0, a1, a2, a3, V2, hcs, R1, R2, R3⟩ : ∃ M1 M2 M3 V0 : Nat, (0 < M1 /\ M1 ≤ 2 ^ 800) /\ (0 < M2 /\ M2 ≤ 2 ^ 800) /\ (0 < M3 /\ M3 ≤ 2 ^ 800) /\ V0 ≤ 2 ^ 20 /\ ((w ≤ 9 /\ M1 = 2520 /\ M2 = 2520 /\ M3 = 2520 /\ V0 = 9) \/ (9 < w /\ M1 ≤ 2 ^ (c * (n * n)) /\ M2 ≤ 2 ^ (c * (i * n)) /\ M3 ≤ 2 ^ (c * (o * n)) /\ V0 = 2 ^ c)) /\ (∀ x ∈ us, gh K A Hj n (Fr M1 V0) x) /\ (∀ x ∈ ws, gh K A Hj n (Fr M2 V0) x) /\ ∀ x ∈ vs, gh K A Hj n (Fr M3 V0) x := by
        by_cases w9 : w ≤ 9
        · have XM := X.mix.weak (C' := λ_ => Fr 2520 9) λ_ _ y h => QI ⟨ag h.1 (by lia), ag h.2 (by lia)⟩ (Nat.dvd_refl _)
          have z : 0 < 2520 /\ 2520 ≤ 2 ^ 800 := ⟨by decide, ag (show 2520 ≤ 2 ^ 12 by decide) (av (by decide) (by decide))⟩;exact ⟨2520, 2520, 2520, 9, z, z, z, by decide, .inl ⟨w9, rfl, rfl, rfl, rfl⟩, λx hx => XM.row x (by simp [hx]), λx hx => XM.row x (by simp [hx]), λx hx => XM.row x (by simp [hx])⟩
        · obtain ⟨M1, M2, M3, a1, a2, a3, b1, b2, b3, R1, R2, R3⟩ := (X.mix.weak (C' := λ_ => Dr (2 ^ c)) λ_ _ y h => ⟨ag h.1 hc, ag h.2 hc⟩).fr3;rw [lws] at b2;rw [lvs] at b3;have up : ∀ {M k : Nat}, M ≤ 2 ^ (c * k) → k ≤ (n + i + o) * n → M ≤ 2 ^ 800 := λh hk => ag h (av (by decide) (ag (cN _ hk) hcM))
          exact ⟨M1, M2, M3, 2 ^ c, ⟨a1, up b1 (aw _ (by lia))⟩, ⟨a2, up b2 (aw _ (by lia))⟩, ⟨a3, up b3 (aw _ (by lia))⟩, av (by decide) hc20, .inr ⟨by lia, b1, b2, b3, rfl⟩, R1, R2, R3⟩
      obtain ⟨μ, e2, e3, e1, e4⟩ := Lp ws vs M1 M2 M3;obtain ⟨ap1, ap2⟩ := X.mix.apart
      have XM : jy K A Hj n (λx => Fr (μ x) V0) m p l b q0 us ws vs := by
        refine ⟨X.mix.bag, X.mix.inn, X.mix.gm, X.mix.gp, X.mix.gl, X.mix.lm, λx hx => ?_, X.mix.nd⟩;rcases aD.mp hx with hx | hx
        · rcases aD.mp hx with hx | hx
          · rw [e1 x (ap1 x hx).1 (ap1 x hx).2]; exact R1 x hx
          · rw [e3 x hx (ap2 x hx)]; exact R3 x hx
        · rw [e2 x hx]; exact R2 x hx
      have p1 : ∀ x, 0 < μ x := λx => by
        rcases e4 x with e | e | e
        · rw [e]; exact a1.1
        · rw [e]; exact a2.1
        · rw [e]; exact a3.1
      have p2 : ∀ x, μ x ≤ 2 ^ 800 := λx => by
        rcases e4 x with e | e | e
        · rw [e]; exact a1.2
        · rw [e]; exact a2.2
        · rw [e]; exact a3.2
      have gmj := X.mix.gm;exists ⟨b, m, p, l, q0, n, V0, μ, A, us, ws, vs, rfl, MA, XM, n8, by lia, by lia, p1, p2, ⟨M1, e1⟩, V2, λq hq => ?_, λr us' H' g Y kp => ?_⟩
      · refine mkA ?_ (λz => by rw [z, gmj] at hq; cases hq) (λz => by rw [z, X.gp] at hq; cases hq) (λz => by rw [z, X.gl] at hq; cases hq);cases e : H q with
        | none => rfl
        | some u =>
          have := X.kp q u e (λz => X.mix.bag.at (by rw [<- z]; exact hq)) (λz => by have := (unA z).1; rw [e] at this; cases this) (λz => by rw [z, hm0] at e; cases e);rw [hq] at this; cases this
      · obtain ⟨yp1, yp2⟩ := Y.apart;obtain ⟨mv, Gm, lmv, hmv⟩ := tQ (H0 := H) (n := n) (C := Fr M1 (9 ^ 3 * V0)) (m := n) ⟨us', Y.gm, Y.lm, MA.am, λx hx => by have := Y.row x (by simp [hx]); rwa [e1 x (yp1 x hx).1 (yp1 x hx).2] at this⟩ λq h => (unA h).1
        obtain ⟨pt, Gp, lpt, hpt⟩ := tQ (H0 := H) (n := n) (C := Fr M2 (9 ^ 3 * V0)) (m := i) ⟨ws, Y.gp, lws, MA.ap, λx hx => by have := Y.row x (by simp [hx]); rwa [e2 x hx] at this⟩ λq h => (unA h).1
        obtain ⟨lk, Gl, llk, hlk⟩ := tQ (H0 := H) (n := n) (C := Fr M3 (9 ^ 3 * V0)) (m := o) ⟨vs, Y.gl, lvs, MA.al, λx hx => by have := Y.row x (by simp [hx]); rwa [e3 x hx (yp2 x hx)] at this⟩ λq h => (unA h).1
        refine k r mv pt lk H' ⟨m, p, l, g, hm0, hp0, hl0, Gm, Gp, Gl⟩ lmv lpt llk ⟨by lia, by lia, by lia, λxs hx => by rw [(hmv xs hx).1, lmv], λxs hx => by rw [(hpt xs hx).1, lmv], λxs hx => by rw [(hlk xs hx).1, lmv]⟩ ⟨M1, M2, M3, 9 ^ 3 * V0, a1.1, a2.1, a3.1, λxs hx => (hmv xs hx).2, λxs hx => (hpt xs hx).2, λxs hx => (hlk xs hx).2, ?_⟩ Y.bag ⟨λc' u e n1 => (X.kp.trans kp) c' u e n1 (λz => by have := (unA z).1; rw [e] at this; cases this) (λz => by rw [z, hm0] at e; cases e), λq h => by rw [<- Inner.inj I0 h]; exact Y.inn⟩;rcases hcs with ⟨b1, b2, b3, b4, b5⟩ | ⟨b1, b2, b3, b4, b5⟩
        · exact .inl ⟨b1, b2, b3, b4, by rw [b5]⟩
        · exact .inr ⟨b1, b2, b3, b4, by rw [b5]⟩
theorem CG:aR ["thing","at","most"] ["thing","at","most"] (aK qF):=by walk_at "d"
theorem C3 (T:Txt K mg Z) (ptree:P.given.tree=none):cD P w K mg base fN 1 Z.xB Z.xg ["thing","at","most"] Ht:=by
 refine T.jh.F.ok CG (λvs H Q E h=>?_) (λcdv A outer s H vs Q E hr h=>?_)
 ·obtain ⟨p,xs,a,m,rfl,_⟩:=h;rfl
 ·obtain ⟨p,xs,a,m,rfl,gx,hm,k⟩:=h
  refine ⟨_,(ar (dn (jK (jc (v7 rfl T.isinstance PyProof.Rows.boot_list T.list (pv 0)))) (aA K8) cu)
   (aA (dn (bu ze (bL bw (by rfl) T.len bg (ae (pv 0) ai)) (pv 2) (bD _)) (aA K8) cu))),?_⟩
  refine aN (σ:=[some (.ref p),some (.int a),some (.int m)]) rfl ?_;exists ⟨_,_,.lst gx,rfl,?_⟩;exists ⟨_,_,rfl,.inl (bE.of gx),?_⟩;walk_at "w";rw[decide_eq_false (show ¬m < (xs.length:Int) by lia)];exists k
theorem Em:aR ["thing"] ["thing"] (aK tu):=by walk_at "d"
theorem ED (T:Txt K mg Z) (ptree:P.given.tree=none):cD P w K mg base fN 1 Z.Al Z.zY ["thing"] Ji:=by
 refine T.mJ.F.ok Em (λvs H Q E h=>?_) (λcdv A outer s H vs Q E hr h=>?_)
 ·obtain ⟨i,rfl,_⟩:=h;rfl
 ·obtain ⟨i,rfl,k⟩:=h;refine ⟨_,(aA (aY (C0 (v7 rfl T.isinstance PyProof.Rows.boot_int T.int (pv 0)) (yY (Qf (v7 rfl T.isinstance PyProof.Rows.boot_bool T.bool (pv 0))))))),?_⟩;refine aN (σ:=[some (.int i)]) rfl ?_;exists ⟨_,_,.int i,rfl,?_⟩;exists ⟨_,_,.int i,rfl,?_⟩;exists k
theorem gE:aR ["one","other","rest"] ["one","other"] (aK jI):=by walk_at "d"
theorem jf (T:Txt K mg Z) (ptree:P.given.tree=none):cD P w K mg base fN 1 Z.nZ Z.nU ["one","other"] RA:=by
 refine T.eZ.F.ok gE (λvs H Q E h=>?_) (λcdv A outer s H vs Q E hr h=>?_)
 ·obtain ⟨a,b,rfl,_⟩:=h;rfl
 ·obtain ⟨a,b,rfl,k⟩:=h
  refine ⟨_,(ar (yV PassesOwn.never (bu wZ (pv 1) ao (bD _))
    (ar (a9 (i:=2) gE.nd rfl (Or.inl rfl) (bJ NF (pv 0) (pv 1)))
   (ar (a9 (i:=0) gE.nd rfl (Or.inl rfl) (pv 1))
   (aA (a9 (i:=1) gE.nd rfl (Or.inl rfl) (pv 2))))))
   (aA (aY (bL Ae (by rfl) T.abs PyProof.Rows.boot_abs (ae (pv 0) ai))))),?_⟩
  refine aN (σ:=[some (.int a),some (.int b),none]) rfl ?_;exists Ct (λσ' H'=>∃(u v:Int) (r:Option V),σ'=[some (.int u),some (.int v),r]/\H'=H/\Int.gcd u v=Int.gcd a b) (λσ' _=>match σ' with | [_,some (.int v),_]=>v.natAbs | _=>0) ⟨a,b,none,rfl,rfl,rfl⟩ ?_;rintro σ' H' ⟨u,v,r,rfl,rfl,hg⟩;exists iI (λh=>?_) (λh=>?_)
  ·have hv:v≠0:=λz=>by subst z;simp at h
   exists fM (show v≠0 from hv) ?_;exists ⟨⟨v,u.fmod v,_,rfl,rfl,(LL u v).trans hg⟩,NZ u v hv⟩
  ·have hv:v=0:=by
    by_cases z:v=0
    ·exact z
    ·exfalso;apply h;simp [z]
   subst hv;walk_at "w"
   have e:(if u < 0 then -u else u)=g a b:=by
    unfold g;rw[<- hg,Int.gcd_zero_right]
    split <;> lia
   rw[e];exact k
theorem CJ:aR ["thing"] ["thing"] (aK qJ):=by walk_at "d"
theorem C5 (T:Txt K mg Z) (ptree:P.given.tree=none):cD P w K mg base fN 2 Z.xF Z.xm ["thing"] (Jl K):=by
 have Av:=ED (P:=P) (w:=w) (base:=base) T ptree;have fK:=jf (P:=P) (w:=w) (base:=base) T ptree;refine T.o7.F.ok CJ (λvs H Q E h=>?_) (λcdv A outer s H vs Q E hr h=>?_)
 ·obtain ⟨x,n,rfl,_⟩:=h;rfl
 ·obtain ⟨x,n,rfl,⟨p,rfl,hp⟩,hn,k⟩:=h
  refine ⟨_,(ar (dn (PW.pt (pP (jK (jc (yh rfl T.isinstance PyProof.Rows.boot_tuple T.tuple (pv 0)))) (kr (bu wZ (bL bw (by rfl) T.len bg (ae (pv 0) ai)) ao (bD _))))) (aA (aY mE)) cu)
   (ar (dn (PW.pt (pP (jK (jc (cO Av hr T.mJ (ae (bf cw (pv 0) ao) ai)))) (kr (jK (jc (cO Av hr T.mJ (ae (bf cw (pv 0) ao) ai))))))) (aA (aY mE)) cu)
   (aA (aY (C0 (gW zg (bf cw (pv 0) ao) ao (bD _)) (yY (gW eU (cO fK hr T.eZ (ae (bf cw (pv 0) ao) (ae (bf cw (pv 0) ao) ai))) ao (bD _)))))))),?_⟩
  refine aN (σ:=[some (.ref p)]) rfl ?_;obtain ⟨hb,hg,s1,s2⟩:=hn;exists .inr ⟨p,_,_,rfl,hp,rfl,?_⟩;exists ⟨_,_,rfl,.inr hp,?_⟩;walk_at "w"
  try refine NQ ?_
  exists ⟨n.1,rfl,?_⟩;exists ⟨n.2,rfl,?_⟩;walk_at "w";rw[decide_eq_true (show (1:Int)<=n.2 by lia)];exists ⟨n.1,n.2,rfl,?_⟩;walk_at "w";have e:g n.1 n.2=1:=by unfold g;rw[hg];rfl
  rw[e,decide_eq_true rfl];exact k _ (aI.refl _)
theorem Jo:aR ["thing","many"] ["thing","many"] (aK yR):=by walk_at "d"
theorem Jx (T:Txt K mg Z) (ptree:P.given.tree=none):cD P w K mg base fN 3 Z.E8 Z.EW ["thing","many"] (vH K):=by
 have Ff:=C5 (P:=P) (w:=w) (base:=base) T ptree;refine T.we.F.ok Jo (λvs H Q E h=>?_) (λcdv A outer s H vs Q E hr h=>?_)
 ·obtain ⟨p,ns,rfl,_⟩:=h;rfl
 ·obtain ⟨p,ns,rfl,hp,hl,hn,k⟩:=h
  refine ⟨_,(ar (dn (PW.pt (pP (jK (jc (v7 rfl T.isinstance PyProof.Rows.boot_list T.list (pv 0)))) (kr (bu wZ (bL bw (by rfl) T.len bg (ae (pv 0) ai)) (pv 1) (bD _))))) (aA (aY mE)) cu)
   (aA (aY (bL (Ad rfl) (by rfl) T.all PyProof.Rows.boot_all (ae (cy ["value"] [] [] (cL (pv 0)) (λ_=>(aM (i:=0) (show ND9 ["value"] by decide +kernel))) (λ_=>cF) (λ_=>(cO Ff hr T.o7 (ae (pv 0) ai)))) ai))))),?_⟩
  refine aN (σ:=[some (.ref p),some (.int ns.length)]) rfl ?_;obtain ⟨xs,gx,qx⟩:=id hp;have lx:=qx.length;exists ⟨_,_,.lst gx,rfl,?_⟩;exists ⟨_,_,rfl,.inl (bE.of gx),?_⟩;walk_at "w";rw[show ((xs.length:Nat):Int)=(ns.length:Nat) by rw[lx],decide_eq_true rfl];exists ⟨⟨_,bE.of gx⟩,?_⟩;refine dY (K:=K) (xs:=xs) (λi ys H'=>aI H H'/\ys=List.replicate i (.bl true)) (aQ (bx (by lia))) ⟨aI.refl _,rfl⟩ (λi ys H' _ ⟨s,_⟩=>bE.of (s _ _ gx)) ?_ ?_
  ·rintro i x ys H' hx hlen ⟨s,rfl⟩;obtain ⟨n,en,z⟩:=bK qx hx;exists ⟨x,n,rfl,s.num z,hn n (ak en),λH2 s2=>⟨s.trans s2,by rw[Cr]⟩⟩
  ·rintro ys H' hy ⟨s,rfl⟩ l hl';exists ⟨l,List.replicate xs.length true,rfl,bE.of (by rw[aH];simp),?_⟩;have e4:(List.replicate xs.length true).all id=true:=by simp
   rw[e4];exact k _ (s.trans (aI.new hl'))
theorem kU:aR ["things","wide","place","thing"] ["things","wide"] (aK m6):=by walk_at "d"
theorem zv (T:Txt K mg Z) (ptree:P.given.tree=none):cD P w K mg base fN 4 Z.sS Z.sH ["things","wide"] (HG K):=by
 have Mt:=Jx (P:=P) (w:=w) (base:=base) T ptree;refine T.gL.F.ok kU (λvs H Q E h=>?_) (λcdv A outer s H vs Q E hr h=>?_)
 ·obtain ⟨p,H0,rows,w,rfl,_⟩:=h;rfl
 ·obtain ⟨p,H0,rows,w,rfl,hp,hl,hw,hn,k⟩:=h
  refine ⟨_,(ar (eV PassesOwn.never rfl (HL rfl T.enumerate (ae (pv 0) ai)) (vZ rfl (ck (aM (i:=2) kU.nd) (ck (aM (i:=3) kU.nd) fB)))
    (aA (dn (jK (jc (cO Mt hr T.we (ae (pv 3) (ae (pv 1) ai))))) (aA K8) cu)))
   (aA (aY (cy ["row"] [] [] (cL (pv 0)) (λ_=>(aM (i:=0) (show ND9 ["row"] by decide +kernel))) (λ_=>cF) (λ_=>(iN (sN K (by rfl)) (by rfl) T.list PyProof.Rows.boot_list (ae (pv 0) ai))))))),?_⟩
  refine aN (σ:=[some (.ref p),some (.int w),none,none]) rfl ?_;obtain ⟨xs,gx,qx,_⟩:=id hp;exists ⟨⟨_,bE.of gx⟩,?_⟩;refine LQ (K:=K) (l:=p) (xs:=xs) (λi σ' H'=>aI H H'/\∃x y,σ'=[some (.ref p),some (.int w),x,y]) ⟨aI.refl _,none,none,rfl⟩ (λi σ' H' _ ⟨s,_⟩=>bE.of (s _ _ gx)) ?_ ?_
  ·rintro i x σ' H' t hx ⟨s,x1,y1,rfl⟩ ht;obtain ⟨qs,eq,q,rfl,_,Rq⟩:=bK qx hx;have hm:=ak eq;have st:aI H' (upd H' t (.tup [.int i,.ref q])):=aI.new ht;have gt:(upd H' t (.tup [.int i,.ref q])) t=some (.tup [.int i,.ref q]):=aH;have s2:=s.trans st;generalize upd H' t (.tup [.int i,.ref q])=H2 at st gt s2 ⊢;have lq:(qs.map nm).length=w:=by rw[ah];exact (hn qs hm).1
   exists ⟨q,_,by rw[lq],(Rq.same s2).rowK,by rw[lq];exact hw,λn hn'=>?_,λH3 s3=>?_⟩
   ·obtain ⟨y,hy,rfl⟩:=ax.mp hn';exact (hn qs hm).2 y hy
   exists ⟨s2.trans s3,_,_,rfl⟩
  ·rintro σ' H' ⟨s,x1,y1,rfl⟩;exists ⟨⟨_,bE.of (s _ _ gx)⟩,?_⟩;refine eD (K:=K) (F:=cU K H0) (cU K H) id (s _ _ gx) (Paired.imp' (λ_ _ z=>z.same s) qx) hl (λa b=>a.same b) (λa b=>a.same b) ?_ ?_
   ·rintro i ns x H2 NY NN en s2 ⟨u,rfl,_,zs,gz,qz⟩ k1;exists ⟨u,zs,rfl,.inl (bE.of gz),λl1 hl1=>?_⟩;exact k1 _ _ (aI.new hl1) ⟨l1,rfl,s.none (s2.none hl1),zs,aH,Paired.imp' (λ_ _ z=>z.same (aI.new hl1)) qz⟩
   ·rintro ys' H2 r hr s2 g pr nx;rw[List.map_id] at pr nx;exact k r H2 (s.none hr) (s.trans s2) ⟨ys',g,pr,jg nx⟩
theorem tj:aR ["self","move","put","look"] ["self","move","put","look"] (aK dX):=by walk_at "d"
theorem lB (T:Txt K mg Z) (ptree:P.given.tree=none):cD P w K mg base fN 5 Z.jr Z.jo ["self","move","put","look"] (Hw K Z.a_System):=by
 have rL:=C3 (P:=P) (w:=w) (base:=base) T ptree;have nM:=zv (P:=P) (w:=w) (base:=base) T ptree;refine T.mM.ok tj (λvs H Q E h=>?_) (λcdv A outer s H vs Q E hr h=>?_)
 ·obtain ⟨x,dx,p,q,r,Hb,H0,H1,H2,mv,pt,lk,rfl,_⟩:=h;rfl
 ·obtain ⟨x,dx,p,q,r,Hb,H0,H1,H2,mv,pt,lk,rfl,nx,ndx,nex,rfl,gp,gq,gr,D,om,op,ol,k⟩:=h
  refine ⟨_,(ar (jV (cO rL hr T.jh (ae (pv 1) (ae ao (ae (jW (v:=.int 8) rfl T.mg_MOST_STATES ⟨_,rfl⟩) ai)))))
   (ar (vW (pv 0) (cO nM hr T.gL (ae (pv 1) (ae (bL bw (by rfl) T.len bg (ae (pv 1) ai)) ai))) rfl)
   (ar (vW (pv 0) (bL bw (by rfl) T.len bg (ae (c7 (pv 0) rfl) ai)) rfl)
   (ar (jV (cO rL hr T.jh (ae (pv 2) (ae ao (ae (jW (v:=.int 4) rfl T.mg_MOST_PUTS ⟨_,rfl⟩) ai)))))
   (ar (vW (pv 0) (cO nM hr T.gL (ae (pv 2) (ae (c7 (pv 0) rfl) ai))) rfl)
   (ar (vW (pv 0) (bL bw (by rfl) T.len bg (ae (c7 (pv 0) rfl) ai)) rfl)
   (ar (jV (cO rL hr T.jh (ae (pv 3) (ae ao (ae (jW (v:=.int 4) rfl T.mg_MOST_LOOKS ⟨_,rfl⟩) ai)))))
   (ar (vW (pv 0) (cO nM hr T.gL (ae (pv 3) (ae (c7 (pv 0) rfl) ai))) rfl)
   (aA (vW (pv 0) (bL bw (by rfl) T.len bg (ae (c7 (pv 0) rfl) ai)) rfl)))))))))),?_⟩
  refine aN (σ:=[some (.ref x),some (.ref p),some (.ref q),some (.ref r)]) rfl ?_
  have s0:aI Hb (upd (upd Hb dx (.own x)) x (.ins Z.a_System dx [])):=λb o e=>by
   rw[aU (fq e nx),aU (fq e ndx)];exact e
  have hx:(upd (upd Hb dx (.own x)) x (.ins Z.a_System dx [])) x=some (.ins Z.a_System dx []):=aH;have back:∀{b},(upd (upd Hb dx (.own x)) x (.ins Z.a_System dx [])) b=none->Hb b=none:=λh=>s0.none h
  generalize upd (upd Hb dx (.own x)) x (.ins Z.a_System dx [])=Ha at s0 hx back ⊢;obtain ⟨xs,gx,qx,_⟩:=id gp;obtain ⟨ys,gy,qy,_⟩:=id gq;obtain ⟨zs,gz,qz,_⟩:=id gr;have lx:=qx.length;have ly:=qy.length;have lz:=qz.length;have d1:=D.n8;have d2:=D.i4;have d3:=D.o4;exists ⟨p,xs,0,8,rfl,s0 _ _ gx,by lia,?_⟩;exists ⟨_,_,rfl,.inl (bE.of (s0 _ _ gx)),?_⟩;exists ⟨p,H0,mv,mv.length,by rw[lx],gp.same s0,by lia,by lia,λws hw=>⟨D.mw ws hw,om ws hw⟩,λa H3 na s3 Ga=>?_⟩;have hx3:=s3 _ _ hx;exists ⟨x,Z.a_System,dx,_,rfl,hx3,T.cl_System,T.na_move,(by show 0 < 1000;decide),?_⟩;have e3:DT x H3 (upd H3 x (.ins Z.a_System dx (cx "move" (.ref a) []))):=DT.upd;have i3:sW H3 x:=⟨_,_,_,hx3⟩;have hx4:(upd H3 x (.ins Z.a_System dx (cx "move" (.ref a) []))) x=some (.ins Z.a_System dx (cx "move" (.ref a) [])):=aH;have Ga4:=Ga.exc e3 i3;have k4:aI Hb (upd H3 x (.ins Z.a_System dx (cx "move" (.ref a) []))):=(s0.trans s3).after nx;generalize upd H3 x (.ins Z.a_System dx (cx "move" (.ref a) []))=H4 at e3 hx4 Ga4 k4 ⊢;exists ⟨x,Z.a_System,dx,_,_,rfl,hx4,T.cl_System,T.na_move,(by rw[br,if_pos rfl]),?_⟩;obtain ⟨as,ga,qa,_⟩:=id Ga4;have la:=qa.length;exists ⟨_,_,rfl,.inl (bE.of ga),?_⟩;exists ⟨x,Z.a_System,dx,_,rfl,hx4,T.cl_System,T.na_states,bc d7 (by show 1 < 1000;decide),?_⟩;rw[show ((as.length:Nat):Int)=((mv.length:Nat):Int) by rw[la]];have e4:DT x H4 (upd H4 x (.ins Z.a_System dx (cx "states" (.int mv.length) (cx "move" (.ref a) [])))):=DT.upd;have i4:sW H4 x:=⟨_,_,_,hx4⟩;have hx5:(upd H4 x (.ins Z.a_System dx (cx "states" (.int mv.length) (cx "move" (.ref a) [])))) x=some (.ins Z.a_System dx (cx "states" (.int mv.length) (cx "move" (.ref a) []))):=aH;have Ga5:=Ga4.exc e4 i4;have k5:aI Hb (upd H4 x (.ins Z.a_System dx (cx "states" (.int mv.length) (cx "move" (.ref a) [])))):=k4.after nx;generalize upd H4 x (.ins Z.a_System dx (cx "states" (.int mv.length) (cx "move" (.ref a) [])))=H5 at e4 hx5 Ga5 k5 ⊢;clear e3 e4 i3 i4 hx4 Ga4 ga qa;exists ⟨q,ys,1,4,rfl,k5 _ _ gy,by lia,?_⟩;exists ⟨x,Z.a_System,dx,_,_,rfl,hx5,T.cl_System,T.na_states,(by rw[br,if_pos rfl]),?_⟩;exists ⟨q,H1,pt,mv.length,rfl,gq.same k5,by lia,by lia,λws hw=>⟨D.pw ws hw,op ws hw⟩,λb H6 nb s6 Gb=>?_⟩;have hx6:=s6 _ _ hx5;have i6:sW H6 x:=⟨_,_,_,hx6⟩;exists ⟨x,Z.a_System,dx,_,rfl,hx6,T.cl_System,T.na_put,bc d7 (bc (dJ d7) (by show 2 < 1000;decide)),?_⟩;have e6:DT x H6 (upd H6 x (.ins Z.a_System dx (cx "put" (.ref b) (cx "states" (.int mv.length) (cx "move" (.ref a) []))))):=DT.upd;have hx7:(upd H6 x (.ins Z.a_System dx (cx "put" (.ref b) (cx "states" (.int mv.length) (cx "move" (.ref a) []))))) x=some (.ins Z.a_System dx (cx "put" (.ref b) (cx "states" (.int mv.length) (cx "move" (.ref a) [])))):=aH;have Ga7:=(Ga5.same s6).exc e6 i6;have Gb7:=(Gb.weak k5).exc e6 i6;have k7:aI Hb (upd H6 x (.ins Z.a_System dx (cx "put" (.ref b) (cx "states" (.int mv.length) (cx "move" (.ref a) []))))):=(k5.trans s6).after nx;generalize upd H6 x (.ins Z.a_System dx (cx "put" (.ref b) (cx "states" (.int mv.length) (cx "move" (.ref a) []))))=H7 at e6 hx7 Ga7 Gb7 k7 ⊢;obtain ⟨bs,gb,qb,_⟩:=id Gb7;have lb:=qb.length;exists ⟨x,Z.a_System,dx,_,_,rfl,hx7,T.cl_System,T.na_put,(by rw[br,if_pos rfl]),?_⟩;exists ⟨_,_,rfl,.inl (bE.of gb),?_⟩;exists ⟨x,Z.a_System,dx,_,rfl,hx7,T.cl_System,T.na_ins,bc d7 (bc (dJ (ag d7 (dJ d7))) (by show 3 < 1000;decide)),?_⟩;rw[show ((bs.length:Nat):Int)=((pt.length:Nat):Int) by rw[lb]];have i7:sW H7 x:=⟨_,_,_,hx7⟩;have e7:DT x H7 (upd H7 x (.ins Z.a_System dx (cx "ins" (.int pt.length) (cx "put" (.ref b) (cx "states" (.int mv.length) (cx "move" (.ref a) [])))))):=DT.upd;have hx8:(upd H7 x (.ins Z.a_System dx (cx "ins" (.int pt.length) (cx "put" (.ref b) (cx "states" (.int mv.length) (cx "move" (.ref a) [])))))) x=some (.ins Z.a_System dx (cx "ins" (.int pt.length) (cx "put" (.ref b) (cx "states" (.int mv.length) (cx "move" (.ref a) []))))):=aH;have Ga8:=Ga7.exc e7 i7;have Gb8:=Gb7.exc e7 i7;have k8:aI Hb (upd H7 x (.ins Z.a_System dx (cx "ins" (.int pt.length) (cx "put" (.ref b) (cx "states" (.int mv.length) (cx "move" (.ref a) [])))))):=k7.after nx;generalize upd H7 x (.ins Z.a_System dx (cx "ins" (.int pt.length) (cx "put" (.ref b) (cx "states" (.int mv.length) (cx "move" (.ref a) [])))))=H8 at e7 hx8 Ga8 Gb8 k8 ⊢;clear e6 e7 i6 i7 hx7 Ga7 Gb7 gb qb;exists ⟨r,zs,2,4,rfl,k8 _ _ gz,by lia,?_⟩;exists ⟨x,Z.a_System,dx,_,_,rfl,hx8,T.cl_System,T.na_states,(by rw[br,if_neg (by decide +kernel),br,if_neg (by decide +kernel),br,if_pos rfl]),?_⟩;exists ⟨r,H2,lk,mv.length,rfl,gr.same k8,by lia,by lia,λws hw=>⟨D.lw ws hw,ol ws hw⟩,λc H9 nc s9 Gc=>?_⟩;have hx9:=s9 _ _ hx8;have i9:sW H9 x:=⟨_,_,_,hx9⟩;exists ⟨x,Z.a_System,dx,_,rfl,hx9,T.cl_System,T.na_look,bc d7 (bc (dJ (ag d7 (dJ (ag d7 (dJ d7))))) (by show 4 < 1000;decide)),?_⟩;have e9:DT x H9 (upd H9 x (.ins Z.a_System dx (cx "look" (.ref c) (cx "ins" (.int pt.length) (cx "put" (.ref b) (cx "states" (.int mv.length) (cx "move" (.ref a) []))))))):=DT.upd;have hxA:(upd H9 x (.ins Z.a_System dx (cx "look" (.ref c) (cx "ins" (.int pt.length) (cx "put" (.ref b) (cx "states" (.int mv.length) (cx "move" (.ref a) []))))))) x=some (.ins Z.a_System dx (cx "look" (.ref c) (cx "ins" (.int pt.length) (cx "put" (.ref b) (cx "states" (.int mv.length) (cx "move" (.ref a) [])))))):=aH;have GaA:=(Ga8.same s9).exc e9 i9;have GbA:=(Gb8.same s9).exc e9 i9;have GcA:=(Gc.weak k8).exc e9 i9;have kA:aI Hb (upd H9 x (.ins Z.a_System dx (cx "look" (.ref c) (cx "ins" (.int pt.length) (cx "put" (.ref b) (cx "states" (.int mv.length) (cx "move" (.ref a) []))))))):=(k8.trans s9).after nx;generalize upd H9 x (.ins Z.a_System dx (cx "look" (.ref c) (cx "ins" (.int pt.length) (cx "put" (.ref b) (cx "states" (.int mv.length) (cx "move" (.ref a) []))))))=HA at e9 hxA GaA GbA GcA kA ⊢;obtain ⟨cs,gc,qc,_⟩:=id GcA;have lc:=qc.length;exists ⟨x,Z.a_System,dx,_,_,rfl,hxA,T.cl_System,T.na_look,(by rw[br,if_pos rfl]),?_⟩;exists ⟨_,_,rfl,.inl (bE.of gc),?_⟩;exists ⟨x,Z.a_System,dx,_,rfl,hxA,T.cl_System,T.na_outs,bc d7 (bc (dJ (ag d7 (dJ (ag d7 (dJ (ag d7 (dJ d7))))))) (by show 5 < 1000;decide)),?_⟩;rw[show ((cs.length:Nat):Int)=((lk.length:Nat):Int) by rw[lc]];have iA:sW HA x:=⟨_,_,_,hxA⟩;exact k _ (kA.after nx) ⟨dx,a,b,c,aH,back na,k5.none nb,k8.none nc,(GaA.exc DT.upd iA).weak s0,GbA.exc DT.upd iA,GcA.exc DT.upd iA⟩
theorem yP:aR ["_law_grid"] ["_law_grid"] (aK m9):=by walk_at "d"
theorem zz (T:Txt K mg Z) (ptree:P.given.tree=none):cD P w K mg base fN 1 Z.sV Z.sL ["_law_grid"] (yJ K):=by
 refine T.gO.F.ok yP (λvs H Q E h=>?_) (λcdv A outer s H vs Q E hr h=>?_)
 ·obtain ⟨p,H0,rows,rfl,_⟩:=h;rfl
 ·obtain ⟨p,H0,rows,rfl,hp,hl,hm,k⟩:=h;refine ⟨_,(aA (aY (cy ["_law_row_here"] [] [] (cL (pv 0)) (λ_=>(aM (i:=0) (show ND9 ["_law_row_here"] by decide +kernel))) (λ_=>cF) (λ_=>(iN (sN K (by rfl)) (by rfl) T.list PyProof.Rows.boot_list (ae (pv 0) ai)))))),?_⟩;refine aN (σ:=[some (.ref p)]) rfl ?_;obtain ⟨xs,gx,qx,_⟩:=id hp;exists ⟨⟨_,bE.of gx⟩,?_⟩;refine eD (K:=K) (F:=cU K H0) (cU K H) id gx qx hl (λa b=>a.same b) (λa b=>a.same b) ?_ ?_
  ·rintro i ns x H' NY NN en s ⟨u,rfl,_,zs,gz,qz⟩ k1;exists ⟨u,zs,rfl,.inl (bE.of gz),λl1 hl1=>?_⟩;exact k1 _ _ (aI.new hl1) ⟨l1,rfl,s.none hl1,zs,aH,Paired.imp' (λ_ _ z=>z.same (aI.new hl1)) qz⟩
  ·rintro ys' H' r hr s g pr nx;rw[List.map_id] at pr nx;exact k r H' hr s ⟨ys',g,pr,jg nx⟩
theorem CN:aR ["_law_parts_here"] ["_law_parts_here"] (aK qQ):=by walk_at "d"
theorem C9 (T:Txt K mg Z) (ptree:P.given.tree=none):cD P w K mg base fN 7 Z.xN Z.xx ["_law_parts_here"] (yB K Z.a_System):=by
 have ju:=lB (P:=P) (w:=w) (base:=base) T ptree;have nN:=zz (P:=P) (w:=w) (base:=base) T ptree;refine T.ph.F.ok CN (λvs H Q E h=>?_) (λcdv A outer s H vs Q E hr h=>?_)
 ·obtain ⟨r,H0,mv,pt,lk,rfl,_⟩:=h;rfl
 ·obtain ⟨r,H0,mv,pt,lk,rfl,PQ,D,F,k⟩:=h;refine ⟨_,(aA (aY (HM T.mk_System ju (hr.mono (by decide)) rfl T.mg_System T.jq .nil HQ (ae (cO nN hr T.gO (ae (bf cw (pv 0) ao) ai)) (ae (cO nN hr T.gO (ae (bf cw (pv 0) ao) ai)) (ae (cO nN hr T.gO (ae (bf cw (pv 0) ao) ai)) ai)))))),?_⟩;refine aN (σ:=[some (.ref r)]) rfl ?_;obtain ⟨m,p,l,g,n1,n2,n3,Gm,Gp,Gl⟩:=id PQ;have d1:=D.n8;have d2:=D.i4;have d3:=D.o4;exists ⟨m,H0,mv,rfl,Gm,by lia,λxs hx=>by rw[D.mw xs hx];lia,λa H1 na s1 Ga=>?_⟩;have g1:=s1 _ _ g;exists ⟨p,H0,pt,rfl,Gp.same s1,by lia,λxs hx=>by rw[D.pw xs hx];lia,λb H2 nb s2 Gb=>?_⟩;have s12:=s1.trans s2;have g2:=s12 _ _ g;exists ⟨l,H0,lk,rfl,Gl.same s12,by lia,λxs hx=>by rw[D.lw xs hx];lia,λc H3 nc s3 Gc=>?_⟩;have s13:=s12.trans s3;walk_at "w";intro x dx nx ndx nex;exact ⟨x,dx,a,b,c,H3,H,H1,H2,mv,pt,lk,rfl,nx,ndx,nex,rfl,(Ga.same s2).same s3,Gb.same s3,Gc,D,F.ok.1,F.ok.2.1,F.ok.2.2,λH' s' S'=>⟨rfl,k x H' (s13.none nx) (s13.trans s') (S'.weak s13)⟩⟩
theorem uj:aR ["row","bottom"] ["row","bottom"] (aK qG):=by walk_at "d"
theorem oX (T:Txt K mg Z) (ptree:P.given.tree=none):cD P w K mg base fN 1 Z.xC Z.xh ["row","bottom"] (D5 K):=by
 refine T.fW.F.ok uj (λvs H Q E h=>?_) (λcdv A outer s H vs Q E hr h=>?_)
 ·obtain ⟨p,ns,M,B,rfl,_⟩:=h;rfl
 ·obtain ⟨p,ns,M,B,rfl,hp,hl,hz,hB,sB,q⟩:=h;refine ⟨_,(aA (aY (cy ["value"] ["bottom"] [1] (cL (pv 0)) (λ_=>(aM (i:=0) (show ND9 ["value","bottom"] by decide +kernel))) (λ_=>cF) (λ_=>(bJ cW (bf (Dk K (by rfl)) (pv 0) ao) (bJ (je rfl uj rfl rfl rfl ptree (uI hr)) (pv 1) (bf (Dk K (by rfl)) (pv 0) ao))))))),?_⟩;refine aN (σ:=[some (.ref p),some (.int B)]) rfl ?_;obtain ⟨xs,gx,qx⟩:=id hp;have lx:=qx.length;exists ⟨⟨_,bE.of gx⟩,?_⟩;refine dY (K:=K) (xs:=xs) (λi ys H'=>H'=H/\ys=(dy (ns.take i) B).map V.int) (aQ (bx (by lia))) ⟨rfl,rfl⟩ (λi ys H' _ ⟨e,_⟩=>by subst e;exact bE.of gx) ?_ ?_
  ·rintro i x ys H' hx hlen ⟨rfl,rfl⟩;obtain ⟨n,en,r,rfl,hr1⟩:=bK qx hx;have nz:=hz.2.2 n (ak en);have sn:Sz 220000 n.2:=Dv hz.1 nz.2.1 hz.2.1;exists fM (show pX _ _ from ⟨by lia,sn.mono (by decide)⟩) ?_;rw[cE _ (by lia)]
   have sq:Sz 220000 (B / n.2):=sB.le (by
    rw[Q2 (by lia)];exact Nat.div_le_self ..)
   exists fM (show fP _ _ from .inr ⟨_,_,nz.2.2,sq,by decide⟩) ?_;exact ⟨rfl,by rw[take_snoc en];simp [dy]⟩
  ·rintro ys H' hy ⟨rfl,rfl⟩ l hl';exact q l _ hl' (aI.new hl') (by rw[aH,aE (by lia)])
theorem eH:aR ["wholes","multiple","whole"] ["wholes"] (aK ja):=by walk_at "d"
theorem tJ (T:Txt K mg Z) (ptree:P.given.tree=none):cD P w K mg base fN 2 Z.mL Z.mK ["wholes"] (Ky K):=by
 have fK:=jf (P:=P) (w:=w) (base:=base) T ptree;refine T.iG.F.ok eH (λvs H Q E h=>?_) (λcdv A outer s H vs Q E hr h=>?_)
 ·obtain ⟨p,bs,M,rfl,_⟩:=h;rfl
 ·obtain ⟨p,bs,M,rfl,hp,hM,sM,hb,q⟩:=h
  refine ⟨_,(ar (a9 (i:=1) eH.nd rfl (Or.inl rfl) ao)
   (ar (eV PassesOwn.never rfl (cL (pv 0)) (aM (i:=2) eH.nd)
    (aA (a9 (i:=1) eH.nd rfl (Or.inl rfl) (bJ cW (pv 1) (bJ (je rfl eH rfl rfl rfl ptree (uI hr)) (pv 2) (cO fK hr T.eZ (ae (pv 1) (ae (pv 2) ai))))))))
   (aA (aY (pv 1))))),?_⟩
  refine aN (σ:=[some (.ref p),none,none]) rfl ?_;exists ⟨⟨_,hp⟩,?_⟩;refine nR (K:=K) (a:=p) (xs:=bs.map V.int) (λi σ' H'=>H'=H/\∃x,σ'=[some (.ref p),some (.int (wt (bs.take i) 1)),x]) ⟨rfl,none,rfl⟩ (λi σ' H' _ ⟨e,_⟩=>by subst e;exact hp) ?_ ?_
  ·rintro i x σ' H' hx ⟨rfl,y,rfl⟩;rw[az] at hx
   obtain ⟨b,eb,rfl⟩:∃b,bs[i]?=some b/\x=.int b:=by
    cases e:bs[i]? with
    | none=>rw[e] at hx;cases hx
    | some b=>rw[e] at hx;cases hx;exact ⟨b,rfl,rfl⟩
   have b1:=hb b (ak eb);have sb:Sz 220000 b:=Dv hM b1.2 sM;have ht:∀c∈bs.take i,0 < c/\c∣M:=λc hc=>hb c (bW hc)
   have msz:Sz 220000 (wt (bs.take i) 1):=Dv hM (yj (by decide) (Int.one_dvd _) ht) sM;generalize hm:wt (bs.take i) 1=m at msz ⊢;have gp:0 < g m b:=zP (by lia);exists ⟨m,b,rfl,?_⟩;exists fM (show pX _ _ from ⟨by lia,(Tg b1.1 sb).mono (by decide)⟩) ?_;rw[cE _ (by lia)];exists fM (show fP _ _ from .inr ⟨_,_,msz,sb.hi (t:=m) (by lia),by decide⟩) ?_;exists ⟨rfl,_,by rw[take_snoc eb,BE,hm];rfl⟩
  ·rintro σ' H' ⟨rfl,y,rfl⟩;walk_at "w";rw[aE (by simp)];exact q
theorem vJ:aR ["row"] ["row"] (aK kq):=by walk_at "d"
theorem jN (T:Txt K mg Z) (ptree:P.given.tree=none):cD P w K mg base fN 3 Z.pW Z.pT ["row"] (Kz K):=by
 have vv:=tJ (P:=P) (w:=w) (base:=base) T ptree;refine T.dI.F.ok vJ (λvs H Q E h=>?_) (λcdv A outer s H vs Q E hr h=>?_)
 ·obtain ⟨p,ns,M,rfl,_⟩:=h;rfl
 ·obtain ⟨p,ns,M,rfl,hp,hl,hz,q⟩:=h;refine ⟨_,(aA (aY (cO vv hr T.iG (ae (cy ["value"] [] [] (cL (pv 0)) (λ_=>(aM (i:=0) (show ND9 ["value"] by decide +kernel))) (λ_=>cF) (λ_=>(bf (Dk K (by rfl)) (pv 0) ao))) ai)))),?_⟩;refine aN (σ:=[some (.ref p)]) rfl ?_;obtain ⟨xs,gx,qx⟩:=id hp;have lx:=qx.length;exists ⟨⟨_,bE.of gx⟩,?_⟩;refine dY (K:=K) (xs:=xs) (λi ys H'=>H'=H/\ys=((ns.take i).map (·.2)).map V.int) (aQ (bx (by lia))) ⟨rfl,rfl⟩ (λi ys H' _ ⟨e,_⟩=>by subst e;exact bE.of gx) ?_ ?_
  ·rintro i x ys H' hx hlen ⟨rfl,rfl⟩;obtain ⟨n,en,r,rfl,hr1⟩:=bK qx hx;exists ⟨rfl,by rw[take_snoc en];simp⟩
  ·rintro ys H' hy ⟨rfl,rfl⟩ l hl';exists ⟨l,ns.map (·.2),M,rfl,bE.of (by rw[aH,aE (by lia)]),hz.1,hz.2.1,λb hb=>?_,?_⟩
   ·obtain ⟨n,hn,rfl⟩:=ax.mp hb;exact ⟨(hz.2.2 n hn).1,(hz.2.2 n hn).2.1⟩
   ·exact q _ (aI.new hl')
theorem rZ:aR ["lines","begin","place","at"] ["lines","begin","place"] (aK oI):=by walk_at "d"
theorem AS (T:Txt K mg Z) (ptree:P.given.tree=none):cD P w K mg base fN 1 Z.ve Z.uR ["lines","begin","place"] By:=by
 refine T.nE.F.ok rZ (λvs H Q E h=>?_) (λcdv A outer s H vs Q E hr h=>?_)
 ·obtain ⟨l,p,ls,b,c,rfl,_⟩:=h;rfl
 ·obtain ⟨l,p,ls,b,c,rfl,G,l1000,b1000,hc,k1,k2⟩:=h
  refine ⟨_,(ar (eV PassesOwn.never rfl (Jv rfl T.range (ae (pv 1) (ae (bL bw (by rfl) T.len bg (ae (pv 0) ai)) ai))) (aM (i:=3) rZ.nd)
    (aA (dn (bu wZ (bf bM (bf bM (pv 0) (pv 3)) (pv 2)) ao (bD _)) (aA (aY (pv 3))) cu)))
   (aA (aY FT))),?_⟩
  refine aN (σ:=[some (.ref p),some (.int b),some (.int c),none]) rfl ?_;obtain ⟨_,xs,gx,qx⟩:=id G;have lx:=qx.length;exists ⟨_,_,rfl,.inl (bE.of gx),?_⟩;rw[<- lx];exists ⟨⟨by lia,by lia,by lia,by lia⟩,?_⟩;refine BI (lo:=(b:Int)) (n:=((ls.length:Int) - (b:Int)).toNat) (λi σ' H'=>H'=H/\(∃y,σ'=[some (.ref p),some (.int b),some (.int c),y])/\∀s,b<=s->s < b+i->eL ls s c=0) ⟨rfl,⟨_,rfl⟩,λs h1 h2=>absurd h2 (by lia)⟩ ?_ ?_
  ·rintro i σ' H' hi ⟨rfl,⟨y,rfl⟩,hz⟩;rw[show ((b:Int)+(i:Int))=((b+i:Nat):Int) by lia];obtain ⟨zs,v,ez,ev,mz,q,rfl,_,gq⟩:=jM qx (i:=b+i) (by lia);exists cB (bE.of gx) (ff ev) ?_;exists cB (bE.of gq) (DW (hc zs mz)) ?_;walk_at "w";have ef:=Pa (c:=c) ez;by_cases e:zs.getD c 0=0
   ·rw[decide_eq_true e];exists ⟨rfl,⟨_,rfl⟩,λs h1 h2=>?_⟩;by_cases e2:s=b+i
    ·rw[e2,ef,e];rfl
    ·exact hz s h1 (by lia)
   ·rw[decide_eq_false e];exists k1 (b+i) (by lia) (by lia) (by rw[ef];exact S3.mpr e)
  ·rintro σ' H' ⟨rfl,⟨y,rfl⟩,hz⟩;exists k2 λt h1 h2=>hz t h1 (by lia)
theorem kW:aR ["lines","at","place","before","used","by","swept"] ["lines","at","place","before"] (aK vR):=by walk_at "d"
theorem FZ (T:Txt K mg Z) (ptree:P.given.tree=none):cD P w K mg base fN 1 Z.Cg Z.BS ["lines","at","place","before"] BA:=by
 refine T.tP.F.ok kW (λvs H Q E h=>?_) (λcdv A outer s H vs Q E hr h=>?_)
 ·obtain ⟨l,p,ls,kk,c,n,b,rfl,_⟩:=h;rfl
 ·obtain ⟨l,p,ls,kk,c,n,b,rfl,hl,G,l1000,hk,hw,n1000,hc,b0,sb,hs,k⟩:=h
  refine ⟨_,(ar (a9 (i:=4) kW.nd rfl (Or.inr rfl) (bf bM (pv 0) (pv 1)))
   (ar (a9 (i:=5) kW.nd rfl (Or.inr rfl) (bf bM (pv 4) (pv 2)))
   (ar (oQ 6 ["line"] ["used","by","place","before"] [4,5,2,3] kW.nd rfl rfl (cL (pv 0)) (λ_=>(aM (i:=0) (show ND9 ["line","used","by","place","before"] by decide +kernel) rfl (Or.inr rfl) (Or.inl rfl))) (λ_=>cF) (λ_=>(cy ["mine","yours"] ["by","line","place","before"] [2,0,3,4] (La K rfl T.zip (ae (pv 0) (ae (pv 1) ai))) (λ_=>(jd K 2 (ck (aM (i:=0) (show ND9 ["mine","yours","by","line","place","before"] by decide +kernel)) (ck (aM (i:=1) (show ND9 ["mine","yours","by","line","place","before"] by decide +kernel)) fB)))) (λ_=>cF) (λ_=>(bJ (je rfl kW rfl rfl rfl ptree (uI hr)) (bJ oU (bJ cW (pv 2) (pv 0)) (bJ cW (bf (rg K (by rfl)) (pv 3) (pv 4)) (pv 1))) (pv 5))))))
   (ar (fV (pv 4) (ie (pv 6) (pv 1) set_list))
   (aA (aY (pv 6))))))),?_⟩
  refine aN (σ:=[some (.ref p),some (.int kk),some (.int c),some (.int b),none,none,none]) rfl ?_;obtain ⟨pl,xs,gx,qx⟩:=id G;have lx:=qx.length;obtain ⟨zk,vk,ek,evk,mk,qk,rfl,qkl,gk⟩:=jM qx hk;have wk:=hw zk mk;have ek':ls.getD kk []=zk:=by rw[aa,ek];rfl
  exists cB (bE.of gx) (ff evk) ?_;exists cB (bE.of gk) (DW (by lia)) ?_;exists ⟨⟨_,bE.of gx⟩,?_⟩;refine dY (K:=K) (xs:=xs) (λi ys H'=>aI H H'/\Paired (IW l H') ((ls.take i).map λzs=>List.zipWith (λx y=>(zk.getD c 0*x - zs.getD c 0*y).fdiv b) zs zk) ys) (aQ (bx (by lia))) ⟨aI.refl _,.nil⟩ (λi ys H' _ ⟨s,_⟩=>bE.of (s _ _ gx)) ?_ ?_
  ·rintro i v ys0 H' hx hlen ⟨s',pr⟩;obtain ⟨zs,ec,q,rfl,ql,gq⟩:=bK qx hx;have mz:=ak ec;have wz:=hw zs mz;have gq':=s' _ _ gq;have gk':=s' _ _ gk;exists ⟨⟨_,bE.of gq'⟩,⟨_,bE.of gk'⟩,?_⟩;refine lV (K:=K) (xs:=zs.map V.int) (ws:=zk.map V.int) (λj ys H2=>aI H' H2/\ys=((List.zipWith (λx y=>(zk.getD c 0*x - zs.getD c 0*y).fdiv b) zs zk).take j).map V.int) (aQ (bx (by rw[ah];lia))) (by rw[ah,ah];lia) ⟨aI.refl _,rfl⟩ (λj ys H2 _ ⟨s2,_⟩=>⟨bE.of (s2 _ _ gq'),bE.of (s2 _ _ gk')⟩) ?_ ?_
   ·rintro j v1 v2 ys H2 r h1 h2 hy ⟨s2,rfl⟩ hr
    obtain ⟨x,ex,rfl⟩:∃x,zs[j]?=some x/\V.int x=v1:=by
     rw[az] at h1;cases e:zs[j]? with
     | none=>rw[e] at h1;cases h1
     | some x=>rw[e] at h1;exact ⟨x,rfl,bU h1⟩
    obtain ⟨y,ey,rfl⟩:∃y,zk[j]?=some y/\V.int y=v2:=by
     rw[az] at h2;cases e:zk[j]? with
     | none=>rw[e] at h2;cases h2
     | some x=>rw[e] at h2;exact ⟨x,rfl,bU h2⟩
    have sr:aI H2 (upd H2 r (.tup [.int x,.int y])):=aI.new hr;have gr:(upd H2 r (.tup [.int x,.int y])) r=some (.tup [.int x,.int y]):=aH;generalize upd H2 r (.tup [.int x,.int y])=H3 at sr gr ⊢;have gq3:=sr _ _ (s2 _ _ gq');have sx:=hs zs mz x (ak ex);have sy:=hs zk mk y (ak ey);have s1:=hs zk mk _ (getD_in (e:=0) (show c < zk.length by lia));have s3:=hs zs mz _ (getD_in (e:=0) (show c < zs.length by lia));exists fM (show fP _ _ from .inr ⟨_,_,s1,sx,by decide⟩) ?_;exists cB (bE.of gq3) (DW (by lia)) ?_;exists fM (show fP _ _ from .inr ⟨_,_,s3,sy,by decide⟩) ?_;exists fM (show pX _ _ from ⟨b0,sb⟩) ?_;have ez:(List.zipWith (λx y=>(zk.getD c 0*x - zs.getD c 0*y).fdiv b) zs zk)[j]?=some ((zk.getD c 0*x - zs.getD c 0*y).fdiv b):=by rw[bF,ex,ey]
    exact ⟨s2.trans sr,by rw[take_snoc ez];simp⟩
   ·rintro ys H2 hy ⟨s2,rfl⟩ r hr;have sn:aI H2 (upd H2 r (.lst (((List.zipWith (λx y=>(zk.getD c 0*x - zs.getD c 0*y).fdiv b) zs zk).take (zs.map V.int).length).map V.int))):=aI.new hr;refine ⟨(s'.trans s2).trans sn,?_⟩;rw[take_snoc ec,dE];refine b9 (Paired.imp' (λ_ _ z=>(IW.same z s2).same sn) pr) (.cons ⟨r,rfl,ne_old (λz=>hl (s'.none (s2.none z))) hr,?_⟩ .nil);rw[aH,aE (by rw[aP,ah];lia)]
  ·rintro ys H1 hy ⟨s1,pr⟩ r hr;have sn:aI H1 (upd H1 r (.lst ys)):=aI.new hr;have gn:(upd H1 r (.lst ys)) r=some (.lst ys):=aH;have ly:=pr.length;rw[ah,bZ] at ly;generalize upd H1 r (.lst ys)=H2 at sn gn ⊢;exists fA gn (fX (by lia)) rfl ?_;have s2:aI H1 (upd H2 r (.lst (ys.set kk (.ref qk)))):=sn.after hr;exists k r _ (s1.none hr) (s1.trans s2) ⟨ne_old (λz=>hl (s1.none z)) hr,_,aH,?_⟩;unfold EY;rw[ek'];rw[aE (by lia)] at pr;exact k9 (Paired.imp' (λ_ _ z=>IW.same z s2) pr) kk ⟨qk,rfl,qkl,(s1.trans s2) _ _ gk⟩
theorem si:aR ["lines","at","to","swapped"] ["lines","at","to"] (aK oJ):=by walk_at "d"
theorem AU (T:Txt K mg Z) (ptree:P.given.tree=none):cD P w K mg base fN 1 Z.vf Z.uS ["lines","at","to"] wX:=by
 refine T.nF.F.ok si (λvs H Q E h=>?_) (λcdv A outer s H vs Q E hr h=>?_)
 ·obtain ⟨l,p,ls,t,kk,rfl,_⟩:=h;rfl
 ·obtain ⟨l,p,ls,t,kk,rfl,hl,G,l1000,ht,hk,k⟩:=h
  refine ⟨_,(ar (a9 (i:=3) si.nd rfl (Or.inl rfl) (iN uY (by rfl) T.list PyProof.Rows.boot_list (ae (pv 0) ai)))
   (ar (fV (bf bM (pv 0) (pv 1)) (ie (pv 3) (pv 2) set_list))
   (ar (fV (bf bM (pv 0) (pv 2)) (ie (pv 3) (pv 1) set_list))
   (aA (aY (pv 3)))))),?_⟩
  refine aN (σ:=[some (.ref p),some (.int t),some (.int kk),none]) rfl ?_;obtain ⟨pl,xs,gx,qx⟩:=id G;have lx:=qx.length;obtain ⟨zt,vt,et,evt,_,Ft⟩:=jM qx ht;obtain ⟨zk,vk,ek,evk,_,Fk⟩:=jM qx hk;exists ⟨p,xs,rfl,.inl (bE.of gx),λc hc=>?_⟩;have sc:aI H (upd H c (.lst xs)):=aI.new hc;have gc:(upd H c (.lst xs)) c=some (.lst xs):=aH;generalize upd H c (.lst xs)=Hc at sc gc ⊢;exists cB (bE.of (sc _ _ gx)) (ff evt) ?_;exists fA gc (fX (by lia)) rfl ?_;have s1:aI H (upd Hc c (.lst (xs.set kk vt))):=sc.after hc;have g1:(upd Hc c (.lst (xs.set kk vt))) c=some (.lst (xs.set kk vt)):=aH;generalize upd Hc c (.lst (xs.set kk vt))=H1 at s1 g1 ⊢;exists cB (bE.of (s1 _ _ gx)) (ff evk) ?_;exists fA g1 (fX (by rw[fo];lia)) rfl ?_;have s2:aI H (upd H1 c (.lst ((xs.set kk vt).set t vk))):=s1.after hc;exists k c _ hc s2 ⟨ne_old hl hc,_,aH,?_⟩;have et':ls.getD t []=zt:=by rw[aa,et];rfl
  have ek':ls.getD kk []=zk:=by rw[aa,ek];rfl
  unfold ox;rw[et',ek'];exact k9 (k9 (Paired.imp' (λ_ _ z=>IW.same z s2) qx) kk (IW.same Ft s2)) t (IW.same Fk s2)
theorem iZ:aR ["rows","wide","lines","leads","before","place","many","at"] ["rows","wide"] (aK CP):=by walk_at "d"
theorem EA (T:Txt K mg Z) (ptree:P.given.tree=none):cD P w K mg base fN 4 Z.IP Z.Iy ["rows","wide"] (Bm K):=by
 have gQ:=oX (P:=P) (w:=w) (base:=base) T ptree;have d6:=jN (P:=P) (w:=w) (base:=base) T ptree;have DM:=AS (P:=P) (w:=w) (base:=base) T ptree;have J7:=FZ (P:=P) (w:=w) (base:=base) T ptree;have DN:=AU (P:=P) (w:=w) (base:=base) T ptree;refine T.uz.F.ok iZ (λvs H Q E h=>?_) (λcdv A outer s H vs Q E hr h=>?_)
 ·obtain ⟨p,n,w,H0,rows,rfl,_⟩:=h;rfl
 ·obtain ⟨p,n,w,H0,rows,rfl,G,r100,n100,hw,F,k⟩:=h
  refine ⟨_,(ar (oQ 2 ["row"] [] [] iZ.nd rfl rfl (cL (pv 0)) (λ_=>(aM (i:=0) (show ND9 ["row"] by decide +kernel))) (λ_=>cF) (λ_=>(cO gQ hr T.fW (ae (pv 0) (ae (cO d6 hr T.dI (ae (pv 0) ai)) ai)))))
   (ar (a9 (i:=3) iZ.nd rfl (Or.inl rfl) (eX ai))
   (ar (a9 (i:=4) iZ.nd rfl (Or.inl rfl) ao)
   (ar (eV PassesOwn.never rfl (cI rfl T.range (ae (pv 1) ai)) (aM (i:=5) iZ.nd)
    (ar (a9 (i:=6) iZ.nd rfl (Or.inl rfl) (bL bw (by rfl) T.len bg (ae (pv 3) ai)))
   (ar (a9 (i:=7) iZ.nd rfl (Or.inl rfl) (cO DM hr T.nE (ae (pv 2) (ae (pv 6) (ae (pv 5) ai)))))
   (aA (dn (bu NC (pv 7) FT (bD _)) (ar (a9 (i:=2) iZ.nd rfl (Or.inl rfl) (cO J7 hr T.tP (ae (cO DN hr T.nF (ae (pv 2) (ae (pv 7) (ae (pv 6) ai)))) (ae (pv 6) (ae (pv 5) (ae (pv 4) ai))))))
   (ar (a9 (i:=4) iZ.nd rfl (Or.inl rfl) (bf bM (bf bM (pv 2) (pv 6)) (pv 5)))
   (aA (jV (BB fg eP eO kO (pv 3) (ae (pv 5) ai)))))) cu)))))
   (aA (aY (dR (ae (kZ oy (pv 2) oS (oR (bL bw (by rfl) T.len bg (ae (pv 3) ai)))) (ae (pv 3) ai))))))))),?_⟩
  refine aN (σ:=[some (.ref p),some (.int n),none,none,none,none,none,none]) rfl ?_;obtain ⟨xs,gx,qx,_⟩:=id G;obtain ⟨W,hW,W2,ent⟩:=F.ent;obtain ⟨_,_,_,_,_,_,_,_,r15,r89⟩:=id F;exists ⟨⟨_,bE.of gx⟩,?_⟩;refine eD (K:=K) (as:=rows) (F:=cU K H0) (λ(H:Hp) (zs:List Int) (v:V)=>∃q,v=V.ref q/\H q=some (.lst (zs.map V.int))) j9 gx qx (by lia) (λa b=>a.same b) (λ⟨q,a,b⟩ s=>⟨q,a,s _ _ b⟩) ?_ ?_
  ·rintro i qs v H' NY NN ec s' ⟨u,rfl,_,R⟩ k1;have mx:=ak ec;obtain ⟨M,hM⟩:=F.rowM mx;obtain ⟨b1,sb⟩:=hM.bot;have lq:(qs.map nm).length<=1000:=by rw[ah,hw qs mx];lia
   exists ⟨u,_,M,rfl,R.rowK,lq,hM,λH2 s2=>?_⟩;exists ⟨u,_,M,_,rfl,(R.same s2).rowK,lq,hM,b1,sb,λr H3 n3 s3 g3=>k1 _ _ (s2.trans s3) ⟨r,rfl,g3⟩⟩
  rintro ys H1 lp0 hlp s1 g1 pr1 nx1;exists dB λqp H2 s2 nq gq=>?_
  have G2:rK qp H2 lp0 (rows.map j9):=⟨(λz=>by rw[z,nq] at g1;cases g1),ys,s2 _ _ g1,Paired.imp' (λ_ _ ⟨q,a,b⟩=>⟨q,a,(λz=>by rw[z,nq] at b;cases b),s2 _ _ b⟩) pr1⟩;have hq0:H qp=none:=s1.none nq;have s02:=s1.trans s2;have hm:(rows.map j9).length=rows.length:=ah ..;clear g1 pr1 nx1;exists ⟨by lia,by lia,?_⟩;refine eK (n:=n) (λP σ' H'=>aI H H'/\∃lp ls ps d y1 y2 y3,σ'=[some (.ref p),some (.int n),some (.ref lp),some (.ref qp),some (.int d),y1,y2,y3]/\H' qp=some (.lst (dG ps))/\rK qp H' lp ls/\Ck (rows.map j9) n P ls ps d) ⟨s02,lp0,rows.map j9,[],1,_,_,_,rfl,gq,G2,Ck.start λzs hz=>by obtain ⟨x,hx,rfl⟩:=ax.mp hz;rw[t9];exact hw x hx⟩ ?_ ?_
  ·rintro P σ' H' hP ⟨s',lp,ls,ps,d,y1,y2,y3,rfl,gq',G',I⟩;have hl:=I.len;have kP:=I.el.kP;have km:=I.el.km;have lps:(dG ps).length=ps.length:=ah ..;have hqp:H' qp≠none:=by rw[gq'];exact λz=>nomatch z
   obtain ⟨z1,z2⟩:=I.sz (r:=min rows.length n) hW ent (by lia) (by rw[hm];exact aj _) r15;have big:(16*W)^min rows.length n < 2^449950:=bc (FQ W2) (df (by decide) (by lia));exists ⟨_,_,rfl,.inl (bE.of gq'),?_⟩;rw[lps];exists ⟨qp,lp,ls,ps.length,P,rfl,G',by lia,by lia,λzs hz=>by rw[I.wide zs hz];exact hP,λt h1 h2 h3=>?_,λhz=>?_⟩
   ·exists ⟨rfl,_,rfl,?_⟩;rw[show decide (V.int (t:Int)=V.non)=false from decide_eq_false (λz=>nomatch z)];exists ⟨qp,lp,ls,t,ps.length,rfl,hqp,G',by lia,h2,by lia,λl1 Ha na sa Ga=>?_⟩;exists ⟨qp,l1,_,ps.length,P,n,d,rfl,λz=>hqp (sa.none z),Ga,by rw[vF];lia,by rw[vF];lia,Ho I.wide (by lia) h2,by lia,hP,I.d0,bc z1 big,λzs hz z hz'=>?_,λl2 Hb nb sb Gb=>?_⟩
    ·unfold ox at hz;have key:∀ys,ys∈ls->∀z∈ys,Sz 449950 z:=λys hy z hz=>bc (z2 ys hy z hz) big
     rcases cG hz with h | h
     ·rcases cG h with h | h
      ·exact key zs h z hz'
      ·rw[h] at hz';exact key _ (getD_in h2) z hz'
     ·rw[h] at hz';exact key _ (getD_in (by lia)) z hz'
    have sab:=sa.trans sb;have I2:=I.step hW ent h1 h2 h3;have hk2:ps.length < (EY (ox ls ps.length t) ps.length P d).length:=by rw[Mj,vF];lia
    obtain ⟨n2,xs2,gx2,qx2⟩:=id Gb;obtain ⟨zk,vk,ek,evk,mk,qk,rfl,_,gk⟩:=jM qx2 hk2;have wk:=I2.wide zk mk;exists cB (bE.of gx2) (ff evk) ?_;exists cB (bE.of gk) (DW (by lia)) ?_;have gqb:=sab _ _ gq';exists ⟨.inl ⟨rfl,_,bE.of gqb⟩,?_⟩;exists kM gqb (bx (by lia)) ?_;refine ⟨(s'.trans sab).after hq0,l2,_,ps++[P],_,_,_,_,rfl,?_,Gb.upd,?_⟩
    ·rw[aH];unfold dG;rw[dE];rfl
    ·have e:(EY (ox ls ps.length t) ps.length P d).getD ps.length []=zk:=by rw[aa,ek];rfl
     rw[e] at I2;exact I2
   ·exists ⟨rfl,_,rfl,?_⟩;rw[show decide (V.non=V.non)=true from decide_eq_true rfl];exists ⟨s',lp,ls,ps,d,_,_,_,rfl,gq',G',I.skip hz⟩
  rintro σ' H' ⟨s',lp,ls,ps,d,y1,y2,y3,rfl,gq',G',I⟩;obtain ⟨R,hR⟩:=I.done hw F;have lps:(dG ps).length=ps.length:=ah ..;obtain ⟨nl,xs',gx',qx'⟩:=id G';exists ⟨_,_,rfl,.inl (bE.of gq'),?_⟩;rw[lps];exists vV (bE.of gx') λsl H3 s3 n3 g3=>?_
  rw[Mh] at g3;exists cK λt H4 s4 g4=>?_
  have s34:=s3.trans s4;exact k t sl qp R ps d _ H4 g4 (s34 _ _ gq') ⟨(λz=>by rw[z,gq'] at n3;cases n3),_,s4 _ _ g3,Paired.imp' (λ_ _ z=>IW.same z s34) (qV qx' ps.length)⟩ (s'.trans s34) hR
theorem nQ:aR ["top","bottom","divisor"] ["top","bottom"] (aK yQ):=by walk_at "d"
theorem kN (T:Txt K mg Z) (ptree:P.given.tree=none):cD P w K mg base fN 2 Z.E7 Z.EV ["top","bottom"] Jk:=by
 have fK:=jf (P:=P) (w:=w) (base:=base) T ptree;refine T.iP.F.ok nQ (λvs H Q E h=>?_) (λcdv A outer s H vs Q E hr h=>?_)
 ·obtain ⟨t,b,rfl,_⟩:=h;rfl
 ·obtain ⟨t,b,rfl,hb,hs,k⟩:=h
  refine ⟨_,(ar (a9 (i:=2) nQ.nd rfl (Or.inl rfl) (cO fK hr T.eZ (ae (pv 0) (ae (pv 1) ai))))
   (ar (dn (bu pQ (pv 1) ao (bD _)) (aA (a9 (i:=2) nQ.nd rfl (Or.inl rfl) (mD iY (pv 2)))) cu)
   (aA (aY (dR (ae (bJ (je rfl nQ rfl rfl rfl ptree (uI hr)) (pv 0) (pv 2)) (ae (bJ (je rfl nQ rfl rfl rfl ptree (uI hr)) (pv 1) (pv 2)) ai))))))),?_⟩
  refine aN (σ:=[some (.int t),some (.int b),none]) rfl ?_;exists ⟨t,b,rfl,?_⟩;have hg:=zP (t:=t) hb
  have hgs:Sz 449950 (g t b):=hs.le (by
   have h1:(g t b).natAbs=Int.gcd t b:=by unfold g;simp
   rw[h1];exact kB (by lia) (by have:=fj (a:=t) (b:=b);exact fY.mpr this |> λz=>by simpa using z))
  have hgn:g (-t) (-b)=g t b:=by unfold g;rw[Int.gcd_neg,Int.neg_gcd]
  exists iI (λh=>?_) (λh=>?_)
  ·have hb0:b < 0:=of_decide_eq_true h;exists fM (show pX _ _ from ⟨by lia,hgs.neg⟩) ?_;exists fM (show pX _ _ from ⟨by lia,hgs.neg⟩) ?_;exists cK λr H' s' h'=>?_
   have e1:t.fdiv (-g t b)=lo (-t) (-b):=by
    unfold Nm.lo;rw[hgn,<- cE _ (by lia),<- Int.neg_fdiv_neg (-t),Int.neg_neg]
   have e2:b.fdiv (-g t b)=hi (-t) (-b):=by
    unfold Nm.hi;rw[hgn,<- cE _ (by lia),<- Int.neg_fdiv_neg (-b),Int.neg_neg]
   exact k r H' s' (by rw[if_pos hb0,if_pos hb0,<- e1,<- e2];exact h')
  ·have hb0:¬b < 0:=λz=>h (decide_eq_true z)
   exists fM (show pX _ _ from ⟨by lia,hgs⟩) ?_;exists fM (show pX _ _ from ⟨by lia,hgs⟩) ?_;exists cK λr H' s' h'=>?_
   rw[cE _ (by lia),cE _ (by lia)] at h';exact k r H' s' (by rw[if_neg hb0,if_neg hb0];exact h')
theorem yL:aR ["rows","wide","found"] ["rows","wide"] (aK vN):=by walk_at "d"
theorem tI (T:Txt K mg Z) (ptree:P.given.tree=none):cD P w K mg base fN 5 Z.Cd Z.BP ["rows","wide"] (wW K):=by
 have DH:=EA (P:=P) (w:=w) (base:=base) T ptree;have gR:=kN (P:=P) (w:=w) (base:=base) T ptree;refine T.lH.F.ok yL (λvs H Q E h=>?_) (λcdv A outer s H vs Q E hr h=>?_)
 ·obtain ⟨p,n,w,H0,rows,rfl,_⟩:=h;rfl
 ·obtain ⟨p,n,w,H0,rows,rfl,G,r100,n100,hw,F,k⟩:=h
  refine ⟨_,(ar (a9 (i:=2) yL.nd rfl (Or.inl rfl) (cO DH hr T.uz (ae (pv 0) (ae (pv 1) ai))))
   (aA (aY (cy ["line","lead"] [] [] (mC rfl T.zip (ae (bf cw (pv 2) ao) (ae (bf cw (pv 2) ao) ai))) (λ_=>(jd K 2 (ck (aM (i:=0) (show ND9 ["line","lead"] by decide +kernel) rfl (Or.inr rfl) (Or.inl rfl)) (ck (aM (i:=1) (show ND9 ["line","lead"] by decide +kernel) rfl (Or.inr rfl) (Or.inl rfl)) fB)))) (λ_=>cF) (λ_=>(cy ["top"] ["line","lead"] [0,1] (Ey K (pv 0)) (λ_=>(aM (i:=0) (show ND9 ["top","line","lead"] by decide +kernel))) (λ_=>cF) (λ_=>(cO gR hr T.iP (ae (pv 0) (ae (bf (rg K (by rfl)) (pv 1) (pv 2)) ai)))))))))),?_⟩
  refine aN (σ:=[some (.ref p),some (.int n),none]) rfl ?_;obtain ⟨_,_,_,_,_,_,_,_,r15,r89⟩:=id F;exists ⟨p,n,w,H0,rows,rfl,G,r100,n100,hw,F,λt lp qp R ps d ls H1 gt gq G1 s1 S=>?_⟩;obtain ⟨lR,wR,RR⟩:=id S.rr;have hl:=S.len;obtain ⟨_,xs,gx,qx⟩:=id G1;have lx:=qx.length;have lps:(dG ps).length=ps.length:=ah ..;have d0:(d:Rat)≠0:=λz=>S.d0 (Ac z)
  have dsz:Sz 449950 d:=bc S.dsz (df (by decide) (by lia))
  have km:ps.length<=n:=by
   rcases aT n ps.length with z | z
   ·have inc:∀j,j < ps.length->j<=ps.getD j 0:=by
     intro j
     induction j with
     | zero=>intro _;exact aW _
     | succ j ih =>
      intro hj;have:=ih (by lia);have:=RR.inc j (j+1) (by lia) hj
      lia
    have h1:=inc (ps.length - 1) (by lia);have h2:=RR.low (ps.length - 1) (by lia)
    lia
   ·exact z
  exists ⟨⟨_,bE.of gx⟩,⟨_,bE.of gq⟩,?_⟩;refine lV (K:=K) (xs:=xs) (ws:=dG ps) (λi ys H'=>aI H1 H'/\Paired (cU K H1 H') (R.take i) ys) (aQ (bx (by lia))) (by lia) ⟨aI.refl _,.nil⟩ (λi ys H' _ ⟨s,_⟩=>⟨bE.of (s _ _ gx),bE.of (s _ _ gq)⟩) ?_ ?_
  ·rintro i v1 v2 ys H' r h1 h2 hy ⟨s,pr⟩ hr;obtain ⟨zs,ez,q,rfl,_,gq1⟩:=bK qx h1;have hi:i < ls.length:=(aL.mp ez).1;have mz:=ak ez;have wz:=S.wide zs mz
   obtain ⟨j,ej,rfl⟩:∃j:Nat,ps[i]?=some j/\V.int (j:Int)=v2:=by
    unfold dG at h2;rw[az] at h2;cases e:ps[i]? with
    | none=>rw[e] at h2;cases h2
    | some x=>rw[e] at h2;exact ⟨x,rfl,bU h2⟩
   have ej':ps.getD i 0=j:=by rw[aa,ej];rfl
   have jn:j < n:=by have:=RR.low i (by lia);rw[ej'] at this;exact this
   have sr:aI H' (upd H' r (.tup [.ref q,.int j])):=aI.new hr;have gr:(upd H' r (.tup [.ref q,.int j])) r=some (.tup [.ref q,.int j]):=aH;generalize upd H' r (.tup [.ref q,.int j])=H2 at sr gr ⊢;have s2:=s.trans sr;have iR:i < R.length:=by lia
   have eR:=af iR;have wRi:=wR _ (aB iR)
   have ed:zs.getD j 0=d:=by
    have h:=S.val i j;rw[Pa ez] at h;have u:=RR.unit i (by lia) i (by lia);rw[if_pos rfl,ej'] at u;rw[u,Rat.mul_one] at h;exact dD.mp h
   have val:∀c,((zs.getD c 0:Int):Rat)=(d:Rat)*(R[i]).getD c 0:=λc=>by
    have h:=S.val i c;rw[Pa ez] at h;rw[h];unfold bC;rw[aa (l:=R),eR];rfl
   exists ⟨⟨_,bE.of (s2 _ _ gq1)⟩,?_⟩;refine dY (K:=K) (xs:=zs.map V.int) (λc ys' H3=>aI H2 H3/\Paired (cA K H3) ((R[i]).take c) ys') (aQ (bx (by rw[ah];lia))) ⟨aI.refl _,.nil⟩ (λc ys' H3 _ ⟨s3,_⟩=>bE.of ((s2.trans s3) _ _ gq1)) ?_ ?_
   ·rintro c x ys' H3 hx hlen ⟨s3,pr3⟩
    obtain ⟨z,ec,rfl⟩:∃z,zs[c]?=some z/\V.int z=x:=by
     rw[az] at hx;cases e:zs[c]? with
     | none=>rw[e] at hx;cases hx
     | some x=>rw[e] at hx;exact ⟨x,rfl,bU hx⟩
    have hc:c < zs.length:=(aL.mp ec).1;have vc:=val c;have e1:zs.getD c 0=z:=by rw[aa,ec];rfl
    rw[e1] at vc;exists cB (bE.of ((s2.trans s3) _ _ gq1)) (DW (by lia)) ?_;rw[ed];exists ⟨z,d,rfl,S.d0,dsz,λr4 H4 s4 g4=>?_⟩;have ec':(R[i])[c]?=some ((R[i]).getD c 0):=by rw[aa,af (show c < (R[i]).length by lia)];rfl
    refine ⟨s3.trans s4,?_⟩;rw[take_snoc ec'];refine b9 (Paired.imp' (λ_ _ z=>cA.same z s4) pr3) (.cons (cA.mk g4 ?_) .nil);rcases Int.lt_or_lt_of_ne S.d0 with hd | hd
    ·rw[if_pos hd,if_pos hd];refine uB (by lia) ?_;rw[fk,fk,vc];grind
    ·rw[if_neg (by lia),if_neg (by lia)];refine uB hd ?_;rw[vc];grind
   ·rintro ys' H3 hy' ⟨s3,pr3⟩ l4 hl4;have sn:aI H3 (upd H3 l4 (.lst ys')):=aI.new hl4;refine ⟨(s2.trans s3).trans sn,?_⟩;rw[take_snoc eR];rw[aE (by rw[ah];lia)] at pr3;exact b9 (Paired.imp' (λ_ _ z=>cU.same z ((sr.trans s3).trans sn)) pr) (.cons ⟨l4,rfl,(s2.trans s3).none hl4,ys',aH,Paired.imp' (λ_ _ z=>cA.same z sn) pr3⟩ .nil)
  ·rintro ys H' hy ⟨s,pr⟩ r hr;have sn:aI H' (upd H' r (.lst ys)):=aI.new hr;rw[aE (by lia)] at pr;refine k r R ps d.natAbs _ (s1.none (s.none hr)) ((s1.trans s).trans sn) ⟨ys,aH,Paired.imp' (λ_ _ z=>(cU.weak z s1).same sn) pr,jg (H0:=H1) (rows:=R) ⟨H',hr,pr⟩⟩ S.rr S.km ?_ S.dsz S.tp;have:=S.d0
   lia
theorem gJ:aR ["one","other","one_bottom","other_bottom","pairs"] ["one","other"] (aK vM):=by walk_at "d"
theorem zh (T:Txt K mg Z) (ptree:P.given.tree=none):cD P w K mg base fN 4 Z.wI Z.wB ["one","other"] (CD K):=by
 have d6:=jN (P:=P) (w:=w) (base:=base) T ptree;have gQ:=oX (P:=P) (w:=w) (base:=base) T ptree;have gR:=kN (P:=P) (w:=w) (base:=base) T ptree;refine T.jO.F.ok gJ (λvs H Q E h=>?_) (λcdv A outer s H vs Q E hr h=>?_)
 ·obtain ⟨p,q,xs,ys,rfl,_⟩:=h;rfl
 ·obtain ⟨p,q,xs,ys,rfl,hp,hq,hl,hz,⟨k1,j1,k2,j2,h1,h2,hkj⟩,kk⟩:=h
  refine ⟨_,(ar (a9 (i:=2) gJ.nd rfl (Or.inl rfl) (cO d6 hr T.dI (ae (pv 0) ai)))
   (ar (a9 (i:=3) gJ.nd rfl (Or.inl rfl) (cO d6 hr T.dI (ae (pv 1) ai)))
   (ar (a9 (i:=4) gJ.nd rfl (Or.inl rfl) (yZ rfl T.list rfl T.zip (ae (cO gQ hr T.fW (ae (pv 0) (ae (pv 2) ai))) (ae (cO gQ hr T.fW (ae (pv 1) (ae (pv 3) ai))) ai))))
   (aA (aY (cO gR hr T.iP (ae (bL (E4 rfl) (by rfl) T.sum PyProof.Rows.boot_sum (ae (cy ["mine","yours"] [] [] (cL (pv 4)) (λ_=>(jd K 2 (ck (aM (i:=0) (show ND9 ["mine","yours"] by decide +kernel)) (ck (aM (i:=1) (show ND9 ["mine","yours"] by decide +kernel)) fB)))) (λ_=>cF) (λ_=>(bJ cW (pv 0) (pv 1)))) ai)) (ae (bJ cW (pv 2) (pv 3)) ai)))))))),?_⟩
  refine aN (σ:=[some (.ref p),some (.ref q),none,none,none]) rfl ?_;obtain ⟨M,h1⟩:=h1.rowM (by lia);obtain ⟨N,h2⟩:=h2.rowM (by lia);replace hp:=hp.rowK;replace hq:=hq.rowK;replace hl:(ys.map nm).length=(xs.map nm).length:=by simpa using hl
  replace hz:(xs.map nm).length<=1000:=by simpa using hz
  obtain ⟨b1,s1⟩:=h1.bot;obtain ⟨b2,s2⟩:=h2.bot;have k2:∀r H',aI H H'->H' r=some (.tup [.int (lo (Gx (xs.map nm) (ys.map nm)) (eE (xs.map nm)*eE (ys.map nm))),.int (hi (Gx (xs.map nm) (ys.map nm)) (eE (xs.map nm)*eE (ys.map nm)))])->Q (.ref r) H':=λr H' s g=>kk r H' s (cA.mk g (Io b1 b2))
  clear kk;generalize xs.map nm=ns at hp hq hl hz h1 h2 b1 b2 s1 s2 k2;generalize ys.map nm=ms at hp hq hl hz h1 h2 b1 b2 s1 s2 k2;have hb:0 < eE ns*eE ms:=iw b1 b2;exists ⟨p,ns,M,rfl,hp,hz,h1,λH1 t1=>?_⟩;exists ⟨q,ms,N,rfl,hq.same t1,by lia,h2,λH2 t2=>?_⟩;have u2:=t1.trans t2;exists ⟨p,ns,M,_,rfl,hp.same u2,hz,h1,b1,s1,λr1 H3 n3 t3 g3=>?_⟩;exists ⟨q,ms,N,_,rfl,(hq.same u2).same t3,by lia,h2,b2,s2,λr2 H4 n4 t4 g4=>?_⟩;exists ⟨r1,r2,_,_,rfl,bE.of (t4 _ _ g3),bE.of g4,by simp [dy,hl],λL ts H5 t5 n5 g5 pr=>?_⟩;have lt:=pr.length;have ll:(dy ns (eE ns)).length=ns.length:=by simp [dy]
  have lm:(dy ms (eE ms)).length=ns.length:=by simp [dy,hl]
  rw[qj,ah,ah,ll,lm] at lt;exists ⟨⟨_,bE.of g5⟩,?_⟩;refine dY (K:=K) (xs:=ts) (λi ys H'=>H'=H5/\ys=((List.zipWith (λx y=>x*y) (dy ns (eE ns)) (dy ms (eE ms))).take i).map V.int) (aQ (bx (by lia))) ⟨rfl,rfl⟩ (λi ys H' _ ⟨e,_⟩=>by subst e;exact bE.of g5) ?_ ?_
  ·rintro i x ys H' hx hlen ⟨rfl,rfl⟩;obtain ⟨pq,epq,T,rfl,gT⟩:=bK pr hx;obtain ⟨t,u,et,eu,rfl⟩:=GV epq;exists fM (show fP _ _ from .inr ⟨_,_,t8 h1 b1 s1 (ak et),t8 h2 b2 s2 (ak eu),by decide⟩) ?_;have ez:(List.zipWith (λx y=>x*y) (dy ns (eE ns)) (dy ms (eE ms)))[i]?=some (t*u):=by rw[bF,et,eu]
   exact ⟨rfl,by rw[take_snoc ez];simp⟩
  ·rintro ys H' hy ⟨rfl,rfl⟩ l hl';exists ⟨l,List.zipWith (λx y=>x*y) (dy ns (eE ns)) (dy ms (eE ms)),rfl,bE.of (by rw[aH,aE (by rw[aP];lia)]),?_⟩;exists fM (show fP _ _ from .inr ⟨_,_,s1,s2,by decide⟩) ?_;exists ⟨_,_,rfl,by lia,(s1.mul s2).mono (by decide),λr H6 t6 g6=>?_⟩;rw[if_neg (by lia),if_neg (by lia)] at g6;exact k2 r H6 ((((u2.trans t3).trans t4).trans t5).trans ((aI.new hl').trans t6)) g6
theorem yN:aR ["grid","row"] ["grid","row"] (aK vQ):=by walk_at "d"
theorem zo (T:Txt K mg Z) (ptree:P.given.tree=none):cD P w K mg base fN 5 Z.wJ Z.wC ["grid","row"] (CC K):=by
 have wM:=zh (P:=P) (w:=w) (base:=base) T ptree;refine T.jQ.F.ok yN (λvs H Q E h=>?_) (λcdv A outer s H vs Q E hr h=>?_)
 ·obtain ⟨p,q,H0,rows,ys,rfl,_⟩:=h;rfl
 ·obtain ⟨p,q,H0,rows,ys,rfl,hp,hq,hz,hl,hr1,kk⟩:=h;refine ⟨_,(aA (aY (cy ["line"] ["row"] [1] (cL (pv 0)) (λ_=>(aM (i:=0) (show ND9 ["line","row"] by decide +kernel))) (λ_=>cF) (λ_=>(cO wM hr T.jO (ae (pv 0) (ae (pv 1) ai))))))),?_⟩;refine aN (σ:=[some (.ref p),some (.ref q)]) rfl ?_;obtain ⟨xs,gx,qx,_⟩:=id hp;exists ⟨⟨_,bE.of gx⟩,?_⟩;refine eD (K:=K) (F:=cU K H0) (cA K) (λxs=>eT xs ys) gx qx hz (λa b=>a.same b) (λa b=>a.same b) ?_ ?_
  ·rintro i ns x H' NY NN en s ⟨u,rfl,_,hu⟩ k;obtain ⟨e1,e2⟩:=hr1 ns (ak en);exists ⟨u,q,ns,ys,rfl,hu,hq.same s,e1.symm,by lia,e2,λr H2 s2 h2'=>k _ _ s2 h2'⟩
  ·rintro ys' H' r hr s g pr nx;exact kk r H' hr s ⟨ys',g,pr⟩
theorem AL:aR ["system","rows"] ["system","rows"] (aK oG):=by walk_at "d"
theorem so (T:Txt K mg Z) (ptree:P.given.tree=none):cD P w K mg base fN 6 Z.vd Z.uQ ["system","rows"] (Br K Z.a_System):=by
 have wO:=zo (P:=P) (w:=w) (base:=base) T ptree;refine T.jX.F.ok AL (λvs H Q E h=>?_) (λcdv A outer s H vs Q E hr h=>?_)
 ·obtain ⟨x,p,H0,H1,mv,pt,lk,R,rfl,_⟩:=h;rfl
 ·obtain ⟨x,p,H0,H1,mv,pt,lk,R,rfl,S,D,G,l100,wR,hf,k⟩:=h;refine ⟨_,(aA (aY (cy ["row"] ["system"] [0] (cL (pv 1)) (λ_=>(aM (i:=0) (show ND9 ["row","system"] by decide +kernel))) (λ_=>cF) (λ_=>(cO wO hr T.jQ (ae (NA K (pv 1) rfl) (ae (pv 0) ai))))))),?_⟩;refine aN (σ:=[some (.ref x),some (.ref p)]) rfl ?_;obtain ⟨dx,a',b',c',gx,_,_,_,Ga,Gb,Gc⟩:=id S;have d8:=D.n8;obtain ⟨xs,gxs,qx,_⟩:=id G;exists ⟨⟨_,bE.of gxs⟩,?_⟩;refine eD (K:=K) (F:=cU K H1) (cU K H) (kb mv) gxs qx (by lia) (λa b=>a.same b) (λa b=>a.same b) ?_ ?_
  ·rintro i ns v H' NY NN en s ⟨u,rfl,_,hu⟩ k1;have mn:=ak en;exists ⟨x,Z.a_System,dx,_,_,rfl,s _ _ gx,T.cl_System,T.na_move,ue,?_⟩;exists ⟨a',u,H0,mv,ns,rfl,Ga.same s,hu,by lia,by rw[wR ns mn];lia,λxs hx=>⟨by rw[D.mw xs hx,wR ns mn],hf xs hx ns mn⟩,λr H2 nr s2 R2=>k1 _ _ s2 ⟨r,rfl,s.none nr,R2⟩⟩
  ·rintro ys H' r hr s g pr nx;exact k r H' hr s ⟨ys,g,pr,jg nx⟩
theorem kS:aR ["system","steps","lists","rows"] ["system","steps"] (aK mX):=by walk_at "d"
theorem zi (T:Txt K mg Z) (ptree:P.given.tree=none):cD P w K mg base fN 7 Z.sO Z.sv ["system","steps"] (Bw K Z.a_System):=by
 have oh:=tI (P:=P) (w:=w) (base:=base) T ptree;have pN:=so (P:=P) (w:=w) (base:=base) T ptree;refine T.lI.F.ok kS (λvs H Q E h=>?_) (λcdv A outer s H vs Q E hr h=>?_)
 ·obtain ⟨x,a,c,st,H0,mv,pt,lk,rfl,_⟩:=h;rfl
 ·obtain ⟨x,a,c,st,H0,mv,pt,lk,rfl,s1000,S,D,F,k⟩:=h
  refine ⟨_,(ar (a9 (i:=2) kS.nd rfl (Or.inl rfl) (eX (ae (eX ai) ai)))
   (ar (yV PassesOwn.never (bu RT (bL bw (by rfl) T.len bg (ae (pv 2) ai)) (pv 1) (bD _))
    (ar (a9 (i:=3) kS.nd rfl (Or.inl rfl) (cO oh hr T.lH (ae (bJ oV (c7 (pv 0) rfl) (cO pN hr T.jX (ae (pv 0) (ae (bf bM (pv 2) (mD iY ao)) ai)))) (ae (c7 (pv 0) rfl) ai))))
   (ar (dn (bu eU (bL bw (by rfl) T.len bg (ae (pv 3) ai)) (bL bw (by rfl) T.len bg (ae (bf bM (pv 2) (mD iY ao)) ai)) (bD _)) (aA (aY (pv 2))) cu)
   (aA (jV (BB fg eP eO kO (pv 2) (ae (pv 3) ai)))))))
   (aA (aY (pv 2))))),?_⟩
  refine aN (σ:=[some (.ref x),some (.int st),none,none]) rfl ?_;obtain ⟨dx,a',b',c',gx,_,_,_,Ga,Gb,Gc⟩:=id S;have d8:=D.n8;have i4:=D.i4;have lP:=iu (mv:=mv) (pt:=pt) rfl D.pw;exists dB λq0 H1 s1 nq0 g1=>?_
  exists dB λl H2 s2 nl g2=>?_
  have s02:=s1.trans s2;have nl0:H l=none:=s1.none nl;obtain ⟨Hz,eHz⟩:∃Hz,Hz=upd H l (.lst []):=⟨_,rfl⟩;have zl:Hz l≠none:=by rw[eHz,aH];exact λz=>nomatch z
  have zn:∀q,Hz q=none->H q=none/\q≠l:=λq h=>by
   have ne:q≠l:=λz=>zl (by rw[<- z];exact h)
   rw[eHz,aU ne] at h;exact ⟨h,ne⟩
  have nz:∀q,H q=none->q≠l->Hz q=none:=λq h ne=>by rw[eHz,aU ne];exact h
  clear eHz;have q0l:q0≠l:=λz=>by rw[z,nl] at g1;cases g1
  have G0:bG K Hz H2 q0 []:=⟨[],s2 _ _ g1,.nil,λz=>nomatch z⟩;exists Ct (λσ' H'=>aI H H'/\∃Rs R us y,σ'=[some (.ref x),some (.int st),some (.ref l),y]/\H' l=some (.lst us)/\Paired (λR v=>∃q,v=V.ref q/\Hz q=none/\bG K Hz H' q R) (Rs++[R]) us/\Au mv pt (Rs++[R])/\Rs.length<=st) (λ_ H'=>match H' l with | some (.lst us)=>st+1 - us.length | _=>0) ⟨s02,[],[],_,_,rfl,g2,.cons ⟨q0,rfl,nz q0 nq0 q0l,G0⟩ .nil,⟨by simp,λt R e=>?_,λt R R' e e'=>?_⟩,aW _⟩ ?_
  ·have ht:=(aL.mp e).1;have:t=0:=by simpa using ht
   subst this;cases e;exact ⟨[],FK⟩
  ·have ht:=(aL.mp e').1;simp at ht
  rintro σ' Ha ⟨sa,Rs,R,us,y,rfl,gu,pa,Gw,hst⟩;have lu:=pa.length;rw[au,aV] at lu;have eR:(Rs++[R])[Rs.length]?=some R:=by rw[bQ (aj _),iC];rfl
  obtain ⟨ps,RR⟩:=Gw.rr _ _ eR;have tn:Rs.length<=mv.length:=by have:=Gw.len _ _ eR;have:=RR.le;have:=RR.1;lia
  have fin:∀(Hx:Hp) (sx:aI Ha Hx) (hh:∀s,(Rs.length=st/\s=st\/Rs.length < st/\Rs.length<=s)->∃ps,bX (jw mv pt s) mv.length R ps),Q (.ref l) Hx:=λHx sx hh=>by
   refine k l (Rs++[R]) Hx nl0 (sa.trans sx) ⟨us,sx _ _ gu,Paired.imp' (λ_ _ ⟨q,e1,e2,e3⟩=>⟨q,e1,(zn q e2).1,(zn q e2).2,bG.weakN (bG.same e3 sx) λq h=>(zn q h).1⟩) pa⟩ Gw (by rw[au,aV];lia) λR2 e2 s hs=>?_
   rw[List.getLast?_concat] at e2;cases e2;rw[au,aV,Fu] at hs;exact hh s hs
  exists ⟨_,_,rfl,.inl (bE.of gu),?_⟩;exists iI (λh0=>?_) (λh0=>?_)
  ·have h0:=of_decide_eq_true h0;refine OI ?_
   obtain ⟨zs,gS⟩:∃zs q,us=zs++[V.ref q]/\Hz q=none/\bG K Hz Ha q R:=by
    obtain ⟨v,ev,q,rfl,e2,e3⟩:∃v,us[Rs.length]?=some v/\∃q,v=V.ref q/\Hz q=none/\bG K Hz Ha q R:=by
     have ev:=af (show Rs.length < us.length by lia);obtain ⟨R2,e2,w⟩:=bK pa ev;rw[eR] at e2;cases e2;exact ⟨_,ev,w⟩
    refine ⟨us.take Rs.length,q,?_,e2,e3⟩;rw[<- take_snoc ev,aE (by lia)]
   obtain ⟨q,rfl,zq,Gq⟩:=gS;have gxa:=sa _ _ gx;exists ⟨x,Z.a_System,dx,_,_,rfl,gxa,T.cl_System,T.na_put,uc,?_⟩;exists cB (bE.of gu) (nY _ _) ?_;have wR:=RR.2.1;have lR:=RR.1;have pn:=RR.le;exists ⟨x,q,H0,Hz,mv,pt,lk,R,rfl,S.same sa,D,Gq,by lia,wR,F.fit d8 D.mw D.pw tn RR,λmr Hb nmr sb Gm=>?_⟩;obtain ⟨pv,gpv,qpv,_⟩:=Gb.same (sa.trans sb);obtain ⟨mvs,gmv,qmv,_⟩:=id Gm;have lpv:=qpv.length;have lmv:=qmv.length;rw[ah] at lmv;exists oP gpv gmv (aQ (bx (by lia))) λcr Hc sc nc gc=>?_
   have sab:=sa.trans (sb.trans sc);have Gc':bG K (λ_=>none) Hc cr (pt++R.map (kb mv)):=JO (H:=Hb) (b9 (Paired.imp' (λ_ _ ⟨q,e1,e2,e3⟩=>⟨q,e1,rfl,e3⟩) qpv) (Paired.imp' (λ_ _ ⟨q,e1,e2,e3⟩=>⟨q,e1,rfl,e3⟩) qmv)) sc nc gc;exists ⟨x,Z.a_System,dx,_,_,rfl,sab _ _ gx,T.cl_System,T.na_states,d5,?_⟩;exists ⟨cr,mv.length,_,_,_,rfl,Gc',by rw[au,ah];lia,by lia,λxs hx=>?_,F.step d8 D.mw D.pw tn RR,λrr R' ps' M' Hd nrr sd G' RR' pm' _ _ _=>?_⟩
   ·rcases aD.mp hx with hx | hx
    ·exact D.pw xs hx
    ·obtain ⟨y,_,rfl⟩:=ax.mp hx;exact oW
   have sbd:=sb.trans (sc.trans sd);have sad:=sa.trans sbd;have K1:=uD rfl D.mw D.pw RR RR';have gud:=sbd _ _ gu;obtain ⟨rv,grv,qrv,_⟩:=id G';have lrv:=qrv.length;have lR':=RR'.1;have pn':=RR'.le;exists ⟨_,_,rfl,.inl (bE.of grv),?_⟩;exists cB (bE.of gud) (nY _ _) ?_;obtain ⟨ov,gov,qov,_⟩:=Gq.same sbd;have lov:=qov.length;exists ⟨_,_,rfl,.inl (bE.of gov),?_⟩;exists iI (λh1=>?_) (λh1=>?_)
   ·have h1:=of_decide_eq_true h1;exists fin Hd sbd λs hs=>⟨ps,?_⟩
    obtain ⟨s',rfl⟩:∃s',s=Rs.length+s':=⟨s - Rs.length,by lia⟩;exact BF rfl D.mw D.pw RR RR' (by lia) s'
   ·have h1:¬((rv.length:Int)=ov.length):=λz=>h1 (decide_eq_true z)
    have gr:=EN rfl D.mw D.pw RR K1;have rl:rr≠l:=λz=>by rw[z,(sb.trans sc) _ _ gu] at nrr;cases nrr
    have zc:∀q,Hc q=none->Hz q=none:=λq h=>nz q (sab.none h) (λz=>by rw[z,(sb.trans sc) _ _ gu] at h;cases h)
    exists ⟨.inl ⟨rfl,_,bE.of gud⟩,?_⟩;exists kM gud (bx (by lia)) ?_;refine ⟨⟨sad.after nl0,Rs++[R],R',_,_,rfl,aH,b9 (Paired.imp' (λ_ _ ⟨q,e1,e2,e3⟩=>⟨q,e1,e2,bG.updL (bG.same e3 sbd) gud zl (zn q e2).2⟩) pa) (.cons ⟨rr,rfl,zc rr nrr,bG.updL (G'.weakN zc) gud zl rl⟩ .nil),Gw.snoc K1 (by lia),by rw[au,aV];lia⟩,?_⟩;simp only[gu,aH,au,aV] at lu h0 ⊢
    lia
  ·have h0:¬((us.length:Int)<=st):=λz=>h0 (decide_eq_true z)
   walk_at "w"
   exact fin Ha (aI.refl _) λs hs=>⟨ps,by
    have:s=Rs.length:=by lia
    rw[this];exact RR⟩
theorem AI:aR ["system","steps"] ["system","steps"] (aK oC):=by walk_at "d"
theorem AO (T:Txt K mg Z) (ptree:P.given.tree=none):cD P w K mg base fN 8 Z.u6 Z.uN ["system","steps"] (Bn K Z.a_System):=by
 have A5:=zi (P:=P) (w:=w) (base:=base) T ptree;refine T.nC.F.ok AI (λvs H Q E h=>?_) (λcdv A outer s H vs Q E hr h=>?_)
 ·obtain ⟨x,a,c,st,H0,mv,pt,lk,rfl,_⟩:=h;rfl
 ·obtain ⟨x,a,c,st,H0,mv,pt,lk,rfl,s1000,S,D,F,k⟩:=h;refine ⟨_,(aA (aY (bf bM (cO A5 hr T.lI (ae (pv 0) (ae (pv 1) ai))) (mD iY ao)))),?_⟩;refine aN (σ:=[some (.ref x),some (.int st)]) rfl ?_;exists ⟨x,a,c,st,H0,mv,pt,lk,rfl,s1000,S,D,F,λr Rs H1 nr s1 ⟨us,gu,pa⟩ Gw hl hh=>?_⟩;have lu:=pa.length;obtain ⟨Rs',R,rfl⟩:∃Rs' R,Rs=Rs'++[R]:=⟨Rs.dropLast,Rs.getLast Gw.ne,(List.dropLast_concat_getLast Gw.ne).symm⟩;rw[au,aV] at lu hl;have eR:(Rs'++[R])[Rs'.length]?=some R:=by rw[bQ (aj _),iC];rfl
  obtain ⟨zs,q,rfl,zq,ql,Gq⟩:∃zs q,us=zs++[V.ref q]/\H q=none/\q≠r/\bG K H H1 q R:=by
   have ev:=af (show Rs'.length < us.length by lia);obtain ⟨R2,e2,q,e3,e4,e5,e6⟩:=bK pa ev;rw[eR] at e2;cases e2;rw[e3] at ev;refine ⟨us.take Rs'.length,q,?_,e4,e5,e6⟩;rw[<- take_snoc ev,aE (by lia)]
  obtain ⟨ps,RR⟩:=hh R (by rw[List.getLast?_concat]) st (by rw[au,aV,Fu];lia);exists cB (bE.of gu) (nY _ _) ?_;exact k q R ps H1 zq s1 Gq RR
theorem oA:aR ["self","price"] ["self","price"] (aK c6):=by walk_at "d"
theorem o5 (T:Txt K mg Z) (ptree:P.given.tree=none):cD P w K mg base fN 1 Z.eN Z.gC ["self","price"] (Kx K Z.a_NotSteered Z.a_SumError "price"):=by
 refine T.jA.ok oA (λvs H Q E h=>?_) (λcdv A outer s H vs Q E hr h=>?_)
 ·obtain ⟨e,y,rfl,_⟩:=h;rfl
 ·obtain ⟨e,y,rfl,he,k⟩:=h;refine ⟨_,(aA (Nu (pv 0) (pv 1) rfl)),?_⟩;refine aN (σ:=[some (.ref e),some y]) rfl ?_;walk_at "w";unfold OG;exists ⟨e,_,_,rfl,he,T.xi_NotSteered,T.nt_NotSteered,λdx hd ne=>?_⟩;exists k dx hd ne
theorem Ej:aR ["many","at"] ["many","at"] (aK tm):=by walk_at "d"
theorem w5 (T:Txt K mg Z) (ptree:P.given.tree=none):cD P w K mg base fN 1 Z.Aj Z.zW ["many","at"] (D3 K):=by
 refine T.mI.F.ok Ej (λvs H Q E h=>?_) (λcdv A outer s H vs Q E hr h=>?_)
 ·obtain ⟨m,a',rfl,_⟩:=h;rfl
 ·obtain ⟨m,a',rfl,hm,k⟩:=h;refine ⟨_,(aA (aY (cy ["place"] ["at"] [1] (cI rfl T.range (ae (pv 0) ai)) (λ_=>(aM (i:=0) (show ND9 ["place","at"] by decide +kernel))) (λ_=>cF) (λ_=>(Ez (bu eU (pv 0) (pv 1) (bD _)) (jW (v:=.ref Z.a_ONE) rfl T.mg_ONE rfl) (jW (v:=.ref Z.a_NOUGHT) rfl T.mg_NOUGHT rfl)))))),?_⟩;refine aN (σ:=[some (.int m),some (.int a')]) rfl ?_;exists ⟨by lia,by lia,?_⟩;refine iS (n:=m) (cA K) (λi=>if ((i:Nat):Int)=a' then 1 else 0) hm (λa b=>a.same b) ?_ ?_
  ·rintro i H' NY NN hi s k1;exists iI (λh0=>?_) (λh0=>?_)
   ·exists k1 _ _ (aI.refl _) (by rw[if_pos (of_decide_eq_true h0)];exact ⟨_,rfl,T.sq_ONE _⟩)
   ·exists k1 _ _ (aI.refl _) (by rw[if_neg (λz=>h0 (decide_eq_true z))];exact ⟨_,rfl,T.sq_NOUGHT _⟩)
  ·rintro ys H' l hl s g pr nx;exact k l _ hl s ⟨ys,g,pr⟩
theorem vI:aR ["row"] ["row"] (aK ko):=by walk_at "d"
theorem v9 (T:Txt K mg Z) (ptree:P.given.tree=none):cD P w K mg base fN 1 Z.pV Z.pS ["row"] (Ec K):=by
 refine T.jP.F.ok vI (λvs H Q E h=>?_) (λcdv A outer s H vs Q E hr h=>?_)
 ·obtain ⟨p,xs,j,rfl,_⟩:=h;rfl
 ·obtain ⟨p,xs,j,rfl,R,x1000,hj,hne,hz,k⟩:=h;refine ⟨_,(aA (aY (bL (BZ rfl) (by rfl) T.min PyProof.Rows.boot_min (ae (cy ["place","value"] [] [] (HL rfl T.enumerate (ae (pv 0) ai)) (λ_=>(jd K 2 (ck (aM (i:=0) (show ND9 ["place","value"] by decide +kernel)) (ck (aM (i:=1) (show ND9 ["place","value"] by decide +kernel)) fB)))) (λ_=>FR (bu (ND K (by rfl) (Gh hr)) (pv 1) (jW (v:=.ref Z.a_NOUGHT) rfl T.mg_NOUGHT rfl) (bD _))) (λ_=>(pv 0))) ai)))),?_⟩;refine aN (σ:=[some (.ref p)]) rfl ?_;obtain ⟨zs,gz,qz⟩:=id R;have lz:=qz.length;exists ⟨⟨_,bE.of gz⟩,?_⟩;refine JU (K:=K) (xs:=zs) (λi ys H'=>aI H H'/\ys=dG (Kb xs i)) (aQ (bx (by lia))) ⟨aI.refl _,rfl⟩ (λi ys H' _ ⟨s,_⟩=>bE.of (s _ _ gz)) ?_ ?_
  ·rintro i v ys H' r hx hlen ⟨s',rfl⟩ hr;obtain ⟨y,ey,ny⟩:=bK qz hx;have ey':xs.getD i 0=y:=by rw[aa,ey];rfl
   have sr:aI H' (upd H' r (.tup [.int i,v])):=aI.new hr;have gr:(upd H' r (.tup [.int i,v])) r=some (.tup [.int i,v]):=aH;generalize upd H' r (.tup [.int i,v])=H2 at sr gr ⊢;exists ⟨_,_,OP,y,0,by decide,(ny.same s').same sr,⟨_,rfl,T.sq_NOUGHT _⟩,?_⟩;by_cases e:y=0
   ·rw[decide_eq_true e];exists ⟨s'.trans sr,?_⟩;rw[HR,ey',if_neg (by simpa using e)]
   ·rw[decide_eq_false e];exists ⟨s'.trans sr,?_⟩;rw[HR,ey',if_pos e];unfold dG;rw[dE];rfl
  ·rintro ys H1 hy ⟨s1,rfl⟩ l hl;have sn:aI H1 (upd H1 l (.lst (dG (Kb xs zs.length)))):=aI.new hl;have gn:(upd H1 l (.lst (dG (Kb xs zs.length)))) l=some (.lst (dG (Kb xs zs.length))):=aH;generalize upd H1 l (.lst (dG (Kb xs zs.length)))=H2 at sn gn ⊢
   have mj:j∈Kb xs zs.length:=by
    unfold Kb;exact gD.mpr ⟨jE.mpr (by lia),by simpa using hne⟩
   exists ⟨l,Ib (Kb xs zs.length),rfl,bE.of (by rw[<- JF];exact gn),?_,λM hM hle=>?_⟩
   ·unfold Ib;rw[ah];exact yt mj
   ·obtain ⟨c,hc,rfl⟩:=ax.mp hM;have h1:=hle j (ax.mpr ⟨j,mj,rfl⟩);have h2:=(gD.mp hc).2
    have e:c=j:=by
     rcases mP c j with z | z | z
     ·exact absurd (hz c z) (of_decide_eq_true h2)
     ·exact z
     ·lia
    rw[e];exact k _ (s1.trans sn)
theorem FG:aR ["rows"] ["rows"] (aK vP):=by walk_at "d"
theorem zm (T:Txt K mg Z) (ptree:P.given.tree=none):cD P w K mg base fN 2 Z.Cf Z.BR ["rows"] (Ed K):=by
 have yd:=v9 (P:=P) (w:=w) (base:=base) T ptree;refine T.o6.F.ok FG (λvs H Q E h=>?_) (λcdv A outer s H vs Q E hr h=>?_)
 ·obtain ⟨p,n,H0,R,ps,rfl,_⟩:=h;rfl
 ·obtain ⟨p,n,H0,R,ps,rfl,G,r100,n100,⟨rows,RR⟩,k⟩:=h;refine ⟨_,(aA (aY (cy ["row"] [] [] (cL (pv 0)) (λ_=>(aM (i:=0) (show ND9 ["row"] by decide +kernel))) (λ_=>cF) (λ_=>(cO yd hr T.jP (ae (pv 0) ai)))))),?_⟩;refine aN (σ:=[some (.ref p)]) rfl ?_;obtain ⟨lR,wR,rr⟩:=id RR;obtain ⟨xs,gx,qx,_⟩:=id G;have lx:=qx.length;exists ⟨⟨_,bE.of gx⟩,?_⟩;refine dY (K:=K) (xs:=xs) (λi ys H'=>aI H H'/\ys=dG (ps.take i)) (aQ (bx (by lia))) ⟨aI.refl _,rfl⟩ (λi ys H' _ ⟨s,_⟩=>bE.of (s _ _ gx)) ?_ ?_
  ·rintro i v ys H' hx hlen ⟨s',rfl⟩;obtain ⟨row,er,q,rfl,_,Rr⟩:=bK qx hx;have wr:=wR row (ak er);have hi:i < ps.length:=by have:=(aL.mp er).1;lia
   have ef:∀c,bC R i c=row.getD c 0:=λc=>by unfold bC;rw[aa (l:=R),er];rfl
   have ep:ps[i]?=some (ps.getD i 0):=by rw[aa,af hi];rfl
   have lowp:=rr.low i hi;have u:=rr.unit i hi i hi;rw[if_pos rfl,ef] at u;exists ⟨q,row,ps.getD i 0,rfl,Rr.same s',by lia,by lia,by rw[u];decide,λc hc=>by rw[<- ef];exact rr.lead i hi c hc,λH2 s2=>?_⟩;refine ⟨s'.trans s2,?_⟩;unfold dG;rw[take_snoc ep,dE];rfl
  ·rintro ys H1 hy ⟨s1,rfl⟩ r hr;refine k r _ (s1.none hr) (s1.trans (aI.new hr)) ?_;rw[aH,aE (by lia)]
theorem KE:aR ["one","other"] ["one","other"] (aK CT):=by walk_at "d"
theorem EC (T:Txt K mg Z) (ptree:P.given.tree=none):cD P w K mg base fN 3 Z.IS Z.IA ["one","other"] (mV K (λx y=>x - y)):=by
 have gR:=kN (P:=P) (w:=w) (base:=base) T ptree;refine T.uA.F.ok KE (λvs H Q E h=>?_) (λcdv A outer s H vs Q E hr h=>?_)
 ·obtain ⟨p,q,a,b,c,d,rfl,hp,hq,hb,hd,sa,sb,sc,sd,k⟩:=Hq h;rfl
 ·obtain ⟨p,q,a,b,c,d,rfl,hp,hq,hb,hd,sa,sb,sc,sd,k⟩:=Hq h;refine ⟨_,(aA (aY (cO gR hr T.iP (ae (bJ oU (bJ cW (bf cw (pv 0) ao) (bf cw (pv 1) ao)) (bJ cW (bf cw (pv 1) ao) (bf cw (pv 0) ao))) (ae (bJ cW (bf cw (pv 0) ao) (bf cw (pv 1) ao)) ai))))),?_⟩;refine aN (σ:=[some (.ref p),some (.ref q)]) rfl ?_;have hbd:0 < b*d:=iw hb hd;have sbd:Sz 449950 (b*d):=(sb.mul sd).mono (by decide);exists fM (show fP _ _ from .inr ⟨_,_,sa,sd,by decide⟩) ?_;exists fM (show fP _ _ from .inr ⟨_,_,sc,sb,by decide⟩) ?_;exists fM (show fP _ _ from .inr ⟨_,_,sb,sd,by decide⟩) ?_;walk_at "w";exists ⟨_,_,rfl,by lia,sbd,λr H' s' h'=>?_⟩;rw[if_neg (by lia),if_neg (by lia)] at h';exact k r H' s' h'
theorem oz:aR ["rows","wide","at","answer","lead","row"] ["rows","wide","at"] (aK vO):=by walk_at "d"
theorem FY (T:Txt K mg Z) (ptree:P.given.tree=none):cD P w K mg base fN 4 Z.Ce Z.BQ ["rows","wide","at"] (Bq K):=by
 have tW:=w5 (P:=P) (w:=w) (base:=base) T ptree;have wN:=zm (P:=P) (w:=w) (base:=base) T ptree;have DK:=EC (P:=P) (w:=w) (base:=base) T ptree;refine T.tO.F.ok oz (λvs H Q E h=>?_) (λcdv A outer s H vs Q E hr h=>?_)
 ·obtain ⟨p,n,a,H0,R,ps,rfl,_⟩:=h;rfl
 ·obtain ⟨p,n,a,H0,R,ps,rfl,G,r100,n100,⟨rows,RR⟩,ha,hp,hz,k⟩:=h
  refine ⟨_,(ar (a9 (i:=3) oz.nd rfl (Or.inl rfl) (cO tW hr T.mI (ae (pv 1) (ae (pv 2) ai))))
   (ar (eV PassesOwn.never rfl (mC rfl T.zip (ae (cO wN hr T.o6 (ae (pv 0) ai)) (ae (pv 0) ai))) (vZ rfl (ck (aM (i:=4) oz.nd) (ck (aM (i:=5) oz.nd) fB)))
    (aA (fV (cO DK hr T.uA (ae (jW (v:=.ref Z.a_NOUGHT) rfl T.mg_NOUGHT rfl) (ae (bf bM (pv 5) (pv 2)) ai))) (ie (pv 3) (pv 4) set_list))))
   (aA (aY (pv 3))))),?_⟩
  refine aN (σ:=[some (.ref p),some (.int n),some (.int a),none,none,none]) rfl ?_;obtain ⟨lR,wR,rr⟩:=id RR;exists ⟨n,a,rfl,by lia,λan H1 na s1 R1=>?_⟩;rw[<- NJ (R:=R) (ps:=ps)] at R1;obtain ⟨vs0,g0,q0⟩:=id R1;exists ⟨p,n,H0,R,ps,rfl,G.same s1,r100,n100,⟨rows,RR⟩,λle H2 nl s2 g2=>?_⟩;have anl:le≠an:=λz=>by rw[z,g0] at nl;cases nl
  obtain ⟨rs,grs,qrs,_⟩:=id G;have lrs:=qrs.length;have lps:=zC (ps:=ps);exists ⟨⟨_,bE.of g2⟩,⟨_,bE.of ((s1.trans s2) _ _ grs)⟩,?_⟩;refine NU (K:=K) (xs:=dG ps) (ws:=rs) (λj σ' H'=>aI H H'/\H' le=some (.lst (dG ps))/\∃y1 y2 vs,σ'=[some (.ref p),some (.int n),some (.int a),some (.ref an),y1,y2]/\H' an=some (.lst vs)/\Paired (cA K H') (Kc R ps n a j) vs) (by lia) ⟨s1.trans s2,g2,_,_,vs0,rfl,s2 _ _ g0,Paired.imp' (λ_ _ z=>cA.same z s2) q0⟩ (λj σ' H' _ ⟨e,e2,_⟩=>⟨bE.of e2,bE.of (e _ _ grs)⟩) ?_ ?_
  ·rintro j v1 v2 σ' H' r h1 h2 ⟨s',gl,y1,y2,vs,rfl,ga,qa⟩ hr;obtain ⟨row,er,q,rfl,_,Rr⟩:=bK qrs h2;have mr:=ak er;have wr:=wR row mr;obtain ⟨pj,ej,rfl⟩:=HS h1;have hj:j < ps.length:=(aL.mp ej).1;have ejD:ps.getD j 0=pj:=by rw[aa,ej];rfl
   have pjn:pj < n:=by have:=rr.low j hj;rw[ejD] at this;exact this
   have fr:bC R j a=row.getD a 0:=by unfold bC;rw[aa (l:=R),er];rfl
   have sr:aI H' (upd H' r (.tup [.int pj,.ref q])):=aI.new hr;have gr:(upd H' r (.tup [.int pj,.ref q])) r=some (.tup [.int pj,.ref q]):=aH;generalize upd H' r (.tup [.int pj,.ref q])=H3 at sr gr ⊢;have s03:=s'.trans sr;obtain ⟨us,gu,qu⟩:=Rr.same s03;obtain ⟨vx,ex,nx⟩:=Kd qu (j:=a) (by lia);exists cB (bE.of gu) ex ?_;exists ⟨_,_,0,row.getD a 0,rfl,⟨_,rfl,T.sq_NOUGHT _⟩,nx,yx,hz row mr _ (getD_in (by lia)),λr4 H4 s4 n4=>?_⟩;have ga4:=(sr.trans s4) _ _ ga;have gl4:=(sr.trans s4) _ _ gl;have la:=qa.length;rw[wd] at la;exists fA ga4 (fX (by lia)) rfl ?_;refine ⟨(s03.trans s4).after na,by rw[aU anl];exact gl4,_,_,_,rfl,aH,?_⟩;rw[<- NK RR hj hp,ejD,fr,show -(row.getD a 0)=0 - row.getD a 0 by grind];exact k9 (Paired.imp' (λ_ _ z=>(cA.same z (sr.trans s4)).updL ga4) qa) pj (n4.updL ga4)
  ·rintro σ' H' ⟨s',gl,y1,y2,vs,rfl,ga,qa⟩;rw[lps] at qa;exists k an H' na s' ⟨vs,ga,qa⟩
theorem qD:aR ["rows","wide","leads"] ["rows","wide"] (aK m5):=by walk_at "d"
theorem zu (T:Txt K mg Z) (ptree:P.given.tree=none):cD P w K mg base fN 3 Z.sR Z.sG ["rows","wide"] (Ee K):=by
 have wN:=zm (P:=P) (w:=w) (base:=base) T ptree;refine T.lK.F.ok qD (λvs H Q E h=>?_) (λcdv A outer s H vs Q E hr h=>?_)
 ·obtain ⟨p,n,H0,R,ps,rfl,_⟩:=h;rfl
 ·obtain ⟨p,n,H0,R,ps,rfl,G,r100,n100,RR,k⟩:=h
  refine ⟨_,(ar (a9 (i:=2) qD.nd rfl (Or.inr rfl) (cO wN hr T.o6 (ae (pv 0) ai)))
   (aA (aY (cy ["place"] ["leads"] [2] (cI rfl T.range (ae (pv 1) ai)) (λ_=>(aM (i:=0) (show ND9 ["place","leads"] by decide +kernel))) (λ_=>FR (bu (AN K (by rfl)) (pv 0) (pv 1) (by with_unfolding_all rfl))) (λ_=>(pv 0)))))),?_⟩
  refine aN (σ:=[some (.ref p),some (.int n),none]) rfl ?_;exists ⟨p,n,H0,R,ps,rfl,G,r100,n100,RR,λl H1 nl s1 g1=>?_⟩;exists ⟨by lia,by lia,?_⟩;refine pI (n:=n) (λi ys H'=>aI H1 H'/\ys=dG (Fm ps i)) (aQ (bx (by lia))) ⟨aI.refl _,rfl⟩ ?_ ?_
  ·rintro i ys H' hi hlen ⟨s',rfl⟩;rw[yv];exists ⟨l,dG ps,rfl,.inl (bE.of (s' _ _ g1)),rfl,JG,?_⟩;rw[LC];by_cases e:i∈ps
   ·rw[decide_eq_true e];exists ⟨s',?_⟩;rw[zQ,if_neg (by simpa using e)]
   ·rw[decide_eq_false e,show (if true=true then !false else false)=true from rfl];exists ⟨s',?_⟩;rw[zQ,if_pos e];unfold dG;rw[dE];rfl
  ·rintro ys H2 hy ⟨s2,rfl⟩ r hr;exact k r _ (s1.none (s2.none hr)) ((s1.trans s2).trans (aI.new hr)) aH
theorem El:aR ["rows","wide","basis"] ["rows","wide"] (aK CQ):=by walk_at "d"
theorem Lh (T:Txt K mg Z) (ptree:P.given.tree=none):cD P w K mg base fN 6 Z.IQ Z.Iz ["rows","wide"] (Bp K):=by
 have oh:=tI (P:=P) (w:=w) (base:=base) T ptree;have J5:=FY (P:=P) (w:=w) (base:=base) T ptree;have A7:=zu (P:=P) (w:=w) (base:=base) T ptree;refine T.zE.F.ok El (λvs H Q E h=>?_) (λcdv A outer s H vs Q E hr h=>?_)
 ·obtain ⟨p,n,w,H0,rows,R,ps,rfl,_⟩:=h;rfl
 ·obtain ⟨p,n,w,H0,rows,R,ps,rfl,G,r100,n100,RR,F,szR,k⟩:=h
  refine ⟨_,(ar (a9 (i:=2) El.nd rfl (Or.inr rfl) (cO oh hr T.lH (ae (pv 0) (ae (pv 1) ai))))
   (aA (aY (cy ["at"] ["basis","wide"] [2,1] (cL (cO A7 hr T.lK (ae (pv 2) (ae (pv 1) ai)))) (λ_=>(aM (i:=0) (show ND9 ["at","basis","wide"] by decide +kernel))) (λ_=>cF) (λ_=>(cO J5 hr T.tO (ae (pv 1) (ae (pv 2) (ae (pv 0) ai))))))))),?_⟩
  refine aN (σ:=[some (.ref p),some (.int n),none]) rfl ?_;exists ⟨p,n,w,H0,R,rfl,G,r100,n100,RR.2.1,F,λba R2 ps2 M H1 nb s1 G1 RR2 pm M0 M1 tM=>?_⟩;obtain ⟨rfl,rfl⟩:=RR2.same (HI RR);have pn:=RR.le;have lR:=RR.1;have fl:=QD (ps:=ps2) (i:=n);exists ⟨ba,n,H,R2,ps2,rfl,G1,by lia,by lia,⟨rows,RR⟩,λfr H2 nf s2 g2=>?_⟩;exists ⟨⟨_,bE.of g2⟩,?_⟩;refine dY (K:=K) (xs:=dG (Fm ps2 n)) (λi ys H'=>aI H2 H'/\Paired (cU K H H') ((Fm ps2 n).take i |>.map (RW R2 ps2 n)) ys) (aQ (bx (by rw[zC];lia))) ⟨aI.refl _,.nil⟩ (λi ys H' _ ⟨s,_⟩=>bE.of (s _ _ g2)) ?_ ?_
  ·rintro i v ys H' hx hlen ⟨s',pr⟩;obtain ⟨a,ea,rfl⟩:=HS hx;obtain ⟨an,ap⟩:=Dt.mp (ak ea);have s02:=(s1.trans s2).trans s';exists ⟨ba,n,a,H,R2,ps2,rfl,(G1.same s2).same s',by lia,by lia,⟨rows,RR⟩,an,ap,szR,λr H3 nr s3 R3=>?_⟩;refine ⟨s'.trans s3,?_⟩;rw[take_snoc ea,dE];exact b9 (Paired.imp' (λ_ _ z=>cU.same z s3) pr) (.cons ⟨r,rfl,s02.none nr,R3⟩ .nil)
  ·rintro ys H3 hy ⟨s3,pr⟩ r hr;rw[aE (by rw[zC];exact aj _)] at pr;have sn:aI H3 (upd H3 r (.lst ys)):=aI.new hr;have s03:=(s1.trans s2).trans s3;exact k r _ (s03.none hr) (s03.trans sn) ⟨ys,aH,Paired.imp' (λ_ _ z=>cU.same z sn) pr,jg (H0:=H) (rows:=ig R2 ps2 n) ⟨H3,hr,pr⟩⟩
theorem kx:aR ["system","reach"] ["system"] (aK iF):=by walk_at "d"
theorem rY (T:Txt K mg Z) (ptree:P.given.tree=none):cD P w K mg base (O6 P w) 9 Z.lW Z.lQ ["system"] (Kw K Z.a_System Z.a_NotSteered):=by
 have DI:=AO (P:=P) (w:=w) (base:=base) T ptree;have qe:=o5 (P:=P) (w:=w) (base:=base) T ptree;have Ol:=Lh (P:=P) (w:=w) (base:=base) T ptree;refine T.eo.F.okX kx (λvs H Q E h=>?_) (λcdv A outer s H vs Q E hr h=>?_)
 ·obtain ⟨x,a,c,H0,mv,pt,lk,rfl,_⟩:=h;rfl
 ·obtain ⟨x,a,c,H0,mv,pt,lk,rfl,S,D,KF,SW,k,ke⟩:=h
  refine ⟨_,(ar (a9 (i:=1) kx.nd rfl (Or.inl rfl) (cO DI hr T.nC (ae (pv 0) (ae (c7 (pv 0) rfl) ai))))
   (aA (dn (bu pQ (bL bw (by rfl) T.len bg (ae (pv 1) ai)) (c7 (pv 0) rfl) (bD _)) (aA (Jt D0 rfl (Lb rfl T.xi_NotSteered T.in_NotSteered T.fn_NotSteered T.kp_NotSteered qe (hr.mono (by decide)) rfl T.mg_NotSteered T.jz (ae (bf bM (cO Ol hr T.zE (ae (pv 1) (ae (c7 (pv 0) rfl) ai))) ao) ai)))) cu))),?_⟩
  refine aN (σ:=[some (.ref x),none]) rfl ?_;obtain ⟨dx,am,ap,al,gx,m1,m2,m3,Gm,Gp,Gl⟩:=id S;have d8:=D.n8;exists ⟨x,Z.a_System,dx,_,_,rfl,gx,T.cl_System,T.na_states,d5,?_⟩;exists ⟨x,a,c,mv.length,H0,mv,pt,lk,rfl,by lia,S,D,KF,λr R ps H1 nr s1 G1 RR=>?_⟩;obtain ⟨xs,g1,q1,_⟩:=id G1;have l1:=q1.length;have lR:=RR.1;have sh:=KN RR;have gx1:=s1 _ _ gx;exists ⟨_,_,rfl,.inl (bE.of g1),?_⟩;exists ⟨x,Z.a_System,dx,_,_,rfl,gx1,T.cl_System,T.na_states,d5,?_⟩;walk_at "w";rw[<- l1,lR];by_cases hf:ps.length < mv.length
  rotate_left
  ·rw[decide_eq_false (show ¬((ps.length:Nat):Int) < ((mv.length:Nat):Int) by lia)];exists k R ps H1 s1 RR (by lia)
  rw[decide_eq_true (show ((ps.length:Nat):Int) < ((mv.length:Nat):Int) by lia)];obtain ⟨⟨w,F⟩,sz⟩:=SW R ps RR;walk_at "w";unfold GZ Kq;exists ⟨x,Z.a_System,dx,_,_,rfl,gx1,T.cl_System,T.na_states,d5,?_⟩;exists ⟨r,mv.length,w,_,_,R,ps,rfl,G1,by lia,by lia,RR,F,sz,λq H2 nq s2 G2=>?_⟩;obtain ⟨zs,gz,qz,_⟩:=id G2;have lz:=qz.length;have np:=JB (R:=R) hf;obtain ⟨v,ev⟩:∃v,zs[0]?=some v:=⟨_,af (by lia)⟩;obtain ⟨row,er,r0,rfl,n0,R0⟩:=bK qz ev;have er':(ig R ps mv.length).getD 0 []=row:=by rw[aa,er];rfl
  have s12:=s1.trans s2;exists cB (bE.of gz) (ff (j:=0) ev) ?_;walk_at "w";intro e he;refine ⟨e,.ref r0,rfl,aH,λdq hd ne=>⟨rfl,e,Z.a_NotSteered,_,some dq,rfl,aH,s12.none he,T.xi_NotSteered,?_⟩⟩;have hd':H2 dq=none:=by rw[aU ne] at hd;exact hd
  refine ke R ps r0 dq _ RR hf (Er (s12.none he) s12 hd') (s1.none n0) ?_ (by rw[rh ne,aU ne,aH]);rw[er'];exact R0.same (Er he (aI.refl _) hd')
theorem AJ:aR ["many"] ["many"] (aK oE):=by walk_at "d"
theorem sk (T:Txt K mg Z) (ptree:P.given.tree=none):cD P w K mg base fN 1 Z.u9 Z.uO ["many"] (Pq K):=by
 refine T.iq.F.ok AJ (λvs H Q E h=>?_) (λcdv A outer s H vs Q E hr h=>?_)
 ·obtain ⟨m,rfl,_⟩:=h;rfl
 ·obtain ⟨m,rfl,hm,k⟩:=h;refine ⟨_,(aA (aY (cy ["place"] [] [] (cI rfl T.range (ae (pv 0) ai)) (λ_=>(aM (i:=0) (show ND9 ["place"] by decide +kernel))) (λ_=>cF) (λ_=>(jW (v:=.ref Z.a_NOUGHT) rfl T.mg_NOUGHT rfl))))),?_⟩;refine aN (σ:=[some (.int m)]) rfl ?_;exists ⟨by lia,by lia,?_⟩;refine iS (n:=m) (cA K) (λ_=>0) (by lia) (λa b=>a.same b) ?_ ?_
  ·rintro i Ha NY NN hi sa k1;exists k1 _ _ (aI.refl _) ⟨_,rfl,T.sq_NOUGHT _⟩
  ·rintro ys H1 t ht s1 g1 pr _;exact k t H1 ht s1 ⟨ys,g1,by rw[<- EK];exact pr⟩
theorem yM:aR ["grid","wide"] ["grid","wide"] (aK mZ):=by walk_at "d"
theorem fJ (T:Txt K mg Z) (ptree:P.given.tree=none):cD P w K mg base fN 1 Z.sQ Z.sF ["grid","wide"] (D4 K):=by
 refine T.dS.F.ok yM (λvs H Q E h=>?_) (λcdv A outer s H vs Q E hr h=>?_)
 ·obtain ⟨p,w,H0,rows,rfl,_⟩:=h;rfl
 ·obtain ⟨p,w,H0,rows,rfl,hp,hz,hw,hl,kk⟩:=h;refine ⟨_,(aA (aY (cy ["place"] ["grid"] [0] (cI rfl T.range (ae (pv 1) ai)) (λ_=>(aM (i:=0) (show ND9 ["place","grid"] by decide +kernel) rfl (Or.inr rfl) (Or.inl rfl))) (λ_=>cF) (λ_=>(cy ["line"] ["place"] [0] (Ey K (pv 1)) (λ_=>(aM (i:=0) (show ND9 ["line","place"] by decide +kernel))) (λ_=>cF) (λ_=>(bf (rg K (by rfl)) (pv 0) (pv 1)))))))),?_⟩;refine aN (σ:=[some (.ref p),some (.int w)]) rfl ?_;exists ⟨by lia,by lia,?_⟩;refine iS (n:=w) (cU K H) (λj=>rows.map λxs=>xs.getD j 0) hw (λa b=>a.same b) ?_ ?_
  ·rintro j H1 NY NN hj s1 k1;obtain ⟨xs,gx,qx,_⟩:=hp.same s1;exists ⟨⟨_,bE.of gx⟩,?_⟩;refine eD (K:=K) (F:=cU K H0) (cA K) (λxs=>xs.getD j 0) gx qx hz (λa b=>a.same b) (λa b=>a.same b) ?_ ?_
   ·rintro i ns x H2 NY2 NN2 en s2 ⟨u,rfl,_,zs,gz,qz⟩ k2;obtain ⟨v,ev,hv⟩:=Kd qz (j:=j) (by rw[hl ns (ak en)];exact hj);exists cB (bE.of gz) ev ?_;exact k2 _ _ (aI.refl _) hv
   ·rintro ys' H2 r hr s2 g pr nx;exact k1 _ _ s2 ⟨r,rfl,s1.none hr,ys',g,pr⟩
  ·rintro ys' H1 r hr s1 g pr nx;exact kk r H1 hr s1 ⟨ys',g,pr,jg nx⟩
theorem AK:aR ["rows","wide"] ["rows","wide"] (aK oF):=by walk_at "d"
theorem AQ (T:Txt K mg Z) (ptree:P.given.tree=none):cD P w K mg base fN 5 Z.va Z.uP ["rows","wide"] (Hu K):=by
 have DH:=EA (P:=P) (w:=w) (base:=base) T ptree;have c8:=fJ (P:=P) (w:=w) (base:=base) T ptree;refine T.nD.F.ok AK (λvs H Q E h=>?_) (λcdv A outer s H vs Q E hr h=>?_)
 ·obtain ⟨p,n,w,H0,rows,rfl,_⟩:=h;rfl
 ·obtain ⟨p,n,w,H0,rows,rfl,G,r100,n100,hw,F,k⟩:=h;refine ⟨_,(aA (aY (bf cw (cO DH hr T.uz (ae (cO c8 hr T.dS (ae (pv 0) (ae (pv 1) ai))) (ae (bL bw (by rfl) T.len bg (ae (pv 0) ai)) ai))) ao))),?_⟩;refine aN (σ:=[some (.ref p),some (.int n)]) rfl ?_;obtain ⟨xs,gx,qx,_⟩:=id G;have lx:=qx.length;have lt:(cm rows n).length=n:=iK;exists ⟨p,n,H0,rows,rfl,G,by lia,by lia,hw,λr H1 nr s1 G1=>?_⟩;exists ⟨_,_,rfl,.inl (bE.of (s1 _ _ gx)),?_⟩;rw[<- lx];exists ⟨r,rows.length,w,_,cm rows n,rfl,G1,by lia,r100,λys hy=>?_,F,λt lp qp R ps d ls H2 gt gq G2 s2 S=>?_⟩
  ·unfold cm at hy;obtain ⟨i,_,rfl⟩:=ax.mp hy;rw[ah]
  exists k qp R ps H2 (s1.trans s2) gq S.rr
theorem kT:aR ["system","states","steps","first"] ["system","states"] (aK mY):=by walk_at "d"
theorem zj (T:Txt K mg Z) (ptree:P.given.tree=none):cD P w K mg base fN 7 Z.sP Z.sE ["system","states"] (Eb K Z.a_System):=by
 have pN:=so (P:=P) (w:=w) (base:=base) T ptree;have DJ:=AQ (P:=P) (w:=w) (base:=base) T ptree;have kJ:=sk (P:=P) (w:=w) (base:=base) T ptree;have tW:=w5 (P:=P) (w:=w) (base:=base) T ptree;refine T.lJ.F.ok kT (λvs H Q E h=>?_) (λcdv A outer s H vs Q E hr h=>?_)
 ·obtain ⟨x,p,w,H0,H1,mv,pt,lk,sts,pus,Rk,pk,rfl,_⟩:=h;rfl
 ·obtain ⟨x,p,w,H0,H1,mv,pt,lk,sts,pus,Rk,pk,rfl,S,D,G,C,kn,KR,full,F2,SW,k⟩:=h
  refine ⟨_,(ar (a9 (i:=2) kT.nd rfl (Or.inl rfl) (bJ oV (pv 1) (cO pN hr T.jX (ae (pv 0) (ae (kZ oy (pv 1) (oR (mD iY ao)) oS) ai)))))
   (ar (a9 (i:=3) kT.nd rfl (Or.inl rfl) (bL (BZ rfl) (by rfl) T.min PyProof.Rows.boot_min (ae (cy ["place"] ["states"] [1] (cL (cO DJ hr T.nD (ae (bJ oV (pv 2) (c7 (pv 0) rfl)) (ae (c7 (pv 0) rfl) ai)))) (λ_=>(aM (i:=0) (show ND9 ["place","states"] by decide +kernel))) (λ_=>FR (bu zg (pv 0) (bL (A0 K (by rfl)) (by rfl) T.len bg (ae (pv 1) ai)) (bD _))) (λ_=>(pv 0))) ai)))
   (ar (dn (bu pQ (pv 3) (bL bw (by rfl) T.len bg (ae (pv 2) ai)) (bD _)) (aA (aY (cO kJ hr T.iq (ae (c7 (pv 0) rfl) ai)))) cu)
   (aA (aY (cO tW hr T.mI (ae (c7 (pv 0) rfl) (ae (bJ oU (pv 3) (bL bw (by rfl) T.len bg (ae (pv 2) ai))) ai)))))))),?_⟩
  refine aN (σ:=[some (.ref x),some (.ref p),none,none]) rfl ?_;obtain ⟨dx,am,ap,al,gx,m1,m2,m3,Gm,Gp,Gl⟩:=id S;obtain ⟨xs,gs,qs,_⟩:=id G.any;have lx:=qs.length;have ls:=C.len;have d8:=D.n8;have i4:=D.i4
  have lw:(sts.getD pus.length []).length=mv.length:=by
   rw[aa,af (by lia)];exact C.wide _ (aB _)
  exists vV (bE.of gs) λl1 Ha sa na ga=>?_
  rw[JS (show xs.length=pus.length+1 by lia)] at ga;have qd:=ip qs pus.length;rw[Gv ls] at qd;have Ga:bG K (λ_=>none) Ha l1 [sts.getD pus.length []]:=⟨_,ga,Paired.imp' (λ_ _ z=>z.same sa) qd,jg ⟨_,na,qd⟩⟩;exists ⟨x,l1,_,_,mv,pt,lk,_,rfl,S.same sa,D,Ga,(show 1<=100 by decide),λr hr=>by rw[bB.mp hr];exact lw,λys hy r hr=>by rw[bB.mp hr];exact F2 ys hy,λr Hb nb sb Gb=>?_⟩;obtain ⟨ys,gy,qy,_⟩:=id Gb.any;have ly:ys.length=1:=qy.length.symm;have sab:=sa.trans sb;exists oP (sab _ _ gs) gy (aQ (bx (by lia))) λl2 Hc sc nc gc=>?_
  have sac:=sab.trans sc;have gxc:=sac _ _ gx;obtain ⟨zs,gz,qz,_⟩:=id (Gp.same sac).any;have lz:=qz.length;exists ⟨x,Z.a_System,dx,_,_,rfl,gxc,T.cl_System,T.na_put,uc,?_⟩;exists oP gc gz (aQ (bx (by rw[au];lia))) λl3 Hd sd nd gd=>?_
  have sad:=sac.trans sd;have gxd:=sad _ _ gx;have q3:Paired (cU K (λ_=>none) Hc) (sts++[kb mv (sts.getD pus.length [])]++pt) (xs++ys++zs):=b9 (b9 (Paired.imp' (λ_ _ z=>z.same sac) qs) (Paired.imp' (λ_ _ z=>z.same sc) qy)) qz;have Gd:bG K (λ_=>none) Hd l3 (sts++[kb mv (sts.getD pus.length [])]++pt):=⟨_,gd,Paired.imp' (λ_ _ z=>z.same sd) q3,jg ⟨_,nd,q3⟩⟩;rw[cz,List.singleton_append] at Gd;generalize hr:sts++(kb mv (sts.getD pus.length []) :: pt)=rows at Gd SW;have lr:rows.length=sts.length+1+pt.length:=by rw[<- hr];simp;lia
  have hw:∀xs∈rows,xs.length=mv.length:=λxs hx=>by
   rw[<- hr] at hx;rcases aD.mp hx with hx | hx
   ·exact C.wide xs hx
   ·rcases ay.mp hx with rfl | hx
    ·exact oW
    ·exact D.pw xs hx
  exists ⟨x,Z.a_System,dx,_,_,rfl,gxd,T.cl_System,T.na_states,d5,?_⟩;exists ⟨l3,mv.length,w,_,rows,rfl,Gd,by lia,by lia,hw,SW,λq R ps He se ge RR=>?_⟩;have sae:=sad.trans se;have gse:=sae _ _ gs;exists ⟨⟨_,bE.of ge⟩,?_⟩;have ln:(cm rows mv.length).length=mv.length:=iK;have lps:(dG ps).length=ps.length:=ah ..
  have kp:ps.length<=rows.length:=by
   have inc:∀j,j < ps.length->j<=ps.getD j 0:=by
    intro j
    induction j with
    | zero=>intro _;exact aW _
    | succ j ih =>
     intro hj;have:=ih (by lia);have:=RR.2.2.inc j (j+1) (by lia) hj
     lia
   rcases dg ps.length with z | z
   ·lia
   ·have h1:=inc (ps.length - 1) (by lia);have h2:=RR.2.2.low (ps.length - 1) (by lia)
    lia
  obtain ⟨t1,ht1,hf1⟩:=NM D.mw D.pw KR full C kn hr.symm RR ln;refine dY (K:=K) (a:=q) (xs:=dG ps) (λi ys H'=>H'=He/\ys=((ps.take i).filter (sts.length<=·)).map λp=>V.int ((p:Nat):Int)) (aQ (bx (by lia))) ⟨rfl,rfl⟩ (λi ys H' _ ⟨e,_⟩=>by rw[e];exact bE.of ge) ?_ ?_
  ·rintro i v ys H' hv hlen ⟨rfl,rfl⟩;unfold dG at hv;rw[az] at hv;cases ep:ps[i]? with
   | none=>rw[ep] at hv;cases hv
   | some pi =>
   rw[ep] at hv;cases hv;exists ⟨_,_,rfl,.inl (bE.of gse),?_⟩;walk_at "w";rw[take_snoc ep,Fx,dE];by_cases h:sts.length<=pi
   ·rw[decide_eq_true (show ((xs.length:Nat):Int)<=((pi:Nat):Int) by lia)];exists ⟨rfl,?_⟩;rw[show [pi].filter (sts.length<=·)=[pi] by simp [h]];rfl
   ·rw[decide_eq_false (show ¬((xs.length:Nat):Int)<=((pi:Nat):Int) by lia)];exists ⟨rfl,?_⟩;rw[show [pi].filter (sts.length<=·)=[] by simp;lia];simp
  rintro ys' Hf hy ⟨rfl,rfl⟩ l4 n4;rw[lps,List.take_length];have s4:aI Hf (upd Hf l4 (.lst ((ps.filter (sts.length<=·)).map λp=>V.int ((p:Nat):Int)))):=aI.new n4;have g4:(upd Hf l4 (.lst ((ps.filter (sts.length<=·)).map λp=>V.int ((p:Nat):Int)))) l4=some (.lst ((ps.filter (sts.length<=·)).map λp=>V.int ((p:Nat):Int))):=aH;generalize upd Hf l4 (.lst ((ps.filter (sts.length<=·)).map λp=>V.int ((p:Nat):Int)))=Hg at s4 g4 ⊢;have sag:=sae.trans s4;exists ⟨l4,(ps.filter (sts.length<=·)).map λp=>((p:Nat):Int),rfl,bE.of (by rw[g4,List.map_map];rfl),?_,λM hM hmin=>?_⟩
  ·rw[ah];refine yt (a:=ps.getD t1 0) (gD.mpr ⟨?_,by simpa using hf1⟩);rw[aa,af ht1];exact aB _
  obtain ⟨t0,ht0,rfl,hf0⟩:=Nx hM
  have hm:∀t,t < ps.length->sts.length<=ps.getD t 0->ps.getD t0 0<=ps.getD t 0:=λt ht h=>by
   have:=hmin ((ps.getD t 0:Nat):Int) (ax.mpr ⟨_,gD.mpr ⟨by rw[aa,af ht];exact aB _,by simpa using h⟩,rfl⟩)
   lia
  have lo0:=RR.2.2.low t0 ht0;have nx:=λ(pu s':List Rat) lp ls' hpu hs=>Mn D.mw D.pw C hr.symm RR ln ht0 hf0 hm (pu:=pu) (s':=s') lp ls' hpu hs
  have gxg:=sag _ _ gx;have l2g:=(sd.trans se).trans s4;clear hmin hM;generalize ps.getD t0 0=f at lo0 hf0 nx ⊢;exists ⟨_,_,rfl,.inl (bE.of (l2g _ _ gc)),?_⟩;rw[au,<- lx,ly];walk_at "w";by_cases e:f=sts.length
  ·rw[decide_eq_true (show ((f:Nat):Int) < ((sts.length+1:Nat):Int) by lia)];exists ⟨x,Z.a_System,dx,_,_,rfl,gxg,T.cl_System,T.na_ins,uf,?_⟩;exists ⟨pt.length,rfl,by lia,λr Hh nh sh Rh=>?_⟩;exact k r _ Hh (sag.none nh) (sag.trans sh) Rh cp (λz hz=>.inl (gG hz)) λs' ls' hs=>nx _ s' cp ls' (.inl ⟨e,λl=>KU⟩) hs
  ·rw[decide_eq_false (show ¬((f:Nat):Int) < ((sts.length+1:Nat):Int) by lia)];exists ⟨x,Z.a_System,dx,_,_,rfl,gxg,T.cl_System,T.na_ins,uf,?_⟩;exists ⟨_,_,rfl,.inl (bE.of (l2g _ _ gc)),?_⟩;rw[au,<- lx,ly];walk_at "w";obtain ⟨l,rfl⟩:∃l,f=sts.length+(1+l):=⟨f - sts.length - 1,by lia⟩;rw[show ((sts.length+(1+l):Nat):Int) - ((sts.length+1:Nat):Int)=((l:Nat):Int) by lia];refine ⟨pt.length,_,rfl,by lia,λr Hh nh sh Rh=>?_⟩;refine k r _ Hh (sag.none nh) (sag.trans sh) Rh GY (λz hz=>?_) λs' ls' hs=>nx _ s' GY ls' (.inr ⟨l,by lia,rfl,λl'=>?_⟩) hs
   ·unfold DZ at hz;obtain ⟨i,_,rfl⟩:=ax.mp hz
    split
    ·exact .inr rfl
    ·exact .inl rfl
   ·exact Pd (by lia)
theorem pO:aR ["self","state","puts","columns"] ["self","state","puts"] (aK fI):=by walk_at "d"
theorem xZ (T:Txt K mg Z) (ptree:P.given.tree=none):cD P w K mg base fN 5 Z.lX Z.lU ["self","state","puts"] (Bs K Z.a_System):=by
 have c8:=fJ (P:=P) (w:=w) (base:=base) T ptree;have wM:=zh (P:=P) (w:=w) (base:=base) T ptree;refine T.rO.ok pO (λvs H Q E h=>?_) (λcdv A outer s H vs Q E hr h=>?_)
 ·obtain ⟨x,p,q,H0,mv,pt,lk,st,pu,rfl,_⟩:=h;rfl
 ·obtain ⟨x,p,q,H0,mv,pt,lk,st,pu,rfl,S,D,F,hp,hq,l1,l2,fs,k⟩:=h
  refine ⟨_,(ar (a9 (i:=3) pO.nd rfl (Or.inl rfl) (cO c8 hr T.dS (ae (c7 (pv 0) rfl) (ae (c7 (pv 0) rfl) ai))))
   (aA (aY (cy ["line","column"] ["state","puts"] [1,2] (mC rfl T.zip (ae (c7 (pv 0) rfl) (ae (pv 3) ai))) (λ_=>(jd K 2 (ck (aM (i:=0) (show ND9 ["line","column","state","puts"] by decide +kernel)) (ck (aM (i:=1) (show ND9 ["line","column","state","puts"] by decide +kernel)) fB)))) (λ_=>cF) (λ_=>(cO wM hr T.jO (ae (bJ oV (pv 0) (pv 1)) (ae (bJ oV (pv 2) (pv 3)) ai)))))))),?_⟩
  refine aN (σ:=[some (.ref x),some (.ref p),some (.ref q),none]) rfl ?_;obtain ⟨dx,a,b,c,gx,n1,n2,n3,Ga,Gb,Gc⟩:=id S;have d1:=D.n8;have d2:=D.i4;exists ⟨x,Z.a_System,dx,_,_,rfl,gx,T.cl_System,T.na_put,uc,?_⟩;exists ⟨x,Z.a_System,dx,_,_,rfl,gx,T.cl_System,T.na_states,d5,?_⟩;exists ⟨b,mv.length,H0,pt,rfl,Gb,by lia,by lia,D.pw,λt H1 nt s1 Gt=>?_⟩;obtain ⟨as,ga,qa,_⟩:=Ga.same s1;obtain ⟨ts,gt,qt,_⟩:=id Gt;have la:=qa.length;have lt:=qt.length;rw[dz] at lt;have gx1:=s1 _ _ gx;exists ⟨x,Z.a_System,dx,_,_,rfl,gx1,T.cl_System,T.na_move,ue,?_⟩;exists ⟨⟨_,bE.of ga⟩,⟨_,bE.of gt⟩,?_⟩;refine lV (K:=K) (xs:=as) (ws:=ts) (λi ys H'=>aI H1 H'/\Paired (cA K H') ((ft mv pt st pu).take i) ys) (aQ (bx (by lia))) (by lia) ⟨aI.refl _,.nil⟩ (λi ys H' _ ⟨s,_⟩=>⟨bE.of (s _ _ ga),bE.of (s _ _ gt)⟩) ?_ ?_
  ·rintro i v1 v2 ys H' r h1 h2 hy ⟨s,pr⟩ hr;obtain ⟨line,el,u1,rfl,_,R1⟩:=bK qa h1;obtain ⟨col,ec,u2,rfl,_,R2⟩:=bK qt h2;have ml:=ak el;have mc:=ak ec;have sr:aI H' (upd H' r (.tup [.ref u1,.ref u2])):=aI.new hr;have gr:(upd H' r (.tup [.ref u1,.ref u2])) r=some (.tup [.ref u1,.ref u2]):=aH;have s2:=s.trans sr;generalize upd H' r (.tup [.ref u1,.ref u2])=H2 at sr gr s2 ⊢;have lc:col.length=pt.length:=iL col mc;have ll:line.length=mv.length:=D.mw line ml;obtain ⟨z1,g1,q1⟩:=R1.same s2;obtain ⟨z2,g2,q2⟩:=R2.same s2;have y1:=q1.length;have y2:=q2.length;exists oP g1 g2 (aQ (bx (by lia))) λc1 H3 s3 n3' g3=>?_
   have s13:=s2.trans s3;obtain ⟨z3,g4,q3⟩:=(hp.same s1).same s13;obtain ⟨z4,g5,q4⟩:=(hq.same s1).same s13;have y3:=q3.length;have y4:=q4.length;exists oP g4 g5 (aQ (bx (by lia))) λc2 H4 s4 n4 g6=>?_
   have s34:=s3.trans s4;exists ⟨c1,c2,line++col,st++pu,rfl,⟨_,s4 _ _ g3,Paired.imp' (λ_ _ z=>z.same s34) (b9 q1 q2)⟩,⟨_,g6,Paired.imp' (λ_ _ z=>z.same s4) (b9 q3 q4)⟩,by rw[au,au];lia,by rw[au];lia,.sys ?_ fs,λr2 H5 s5 h5=>?_⟩
   ·refine F.fits λy hy=>?_
    rcases aD.mp hy with hy | hy
    ·exact .inl ⟨line,ml,hy⟩
    ·obtain ⟨j,_,rfl⟩:=ax.mp mc;obtain ⟨xs,hx,rfl⟩:=ax.mp hy;by_cases hj:j < xs.length
     ·refine .inr (.inl ⟨xs,hx,?_⟩);rw[aa,af hj];exact aB hj
     ·exact .inr (.inr (.inr (by rw[aa,aJ (by lia)];rfl)))
   ·have em:(ft mv pt st pu)[i]?=some (eT (line++col) (st++pu)):=by
     unfold ft;rw[bF,el,ec]
    refine ⟨((s2.trans s34).trans s5),?_⟩;rw[take_snoc em];exact b9 (Paired.imp' (λ_ _ z=>(z.same (sr.trans s34)).same s5) pr) (.cons h5 .nil)
  ·rintro ys H' hy ⟨s,pr⟩ l hl;have lm:(ft mv pt st pu).length=mv.length:=by unfold ft;rw[aP,dz];lia
   rw[aE (by lia)] at pr;exact k l _ (s1.none (s.none hl)) ((s1.trans s).trans (aI.new hl)) ⟨ys,aH,Paired.imp' (λ_ _ z=>z.same (aI.new hl)) pr⟩
theorem uk:aR ["system","states","puts","step"] ["system"] (aK CU):=by walk_at "d"
theorem Li (T:Txt K mg Z) (ptree:P.given.tree=none):cD P w K mg base fN 8 Z.IT Z.IB ["system"] (Eg K Z.a_System):=by
 have kJ:=sk (P:=P) (w:=w) (base:=base) T ptree;have A6:=zj (P:=P) (w:=w) (base:=base) T ptree;have Ax:=xZ (P:=P) (w:=w) (base:=base) T ptree;refine T.zF.F.ok uk (λvs H Q E h=>?_) (λcdv A outer s H vs Q E hr h=>?_)
 ·obtain ⟨x,H0,mv,pt,lk,Rk,pk,rfl,_⟩:=h;rfl
 ·obtain ⟨x,H0,mv,pt,lk,Rk,pk,rfl,S,D,SF,KR,full,CS,k⟩:=h
  refine ⟨_,(ar (a9 (i:=1) uk.nd rfl (Or.inl rfl) (eX (ae (cO kJ hr T.iq (ae (c7 (pv 0) rfl) ai)) ai)))
   (ar (a9 (i:=2) uk.nd rfl (Or.inl rfl) (eX ai))
   (ar (eV PassesOwn.never rfl (cI rfl T.range (ae (c7 (pv 0) rfl) ai)) (aM (i:=3) uk.nd)
    (ar (jV (BB fg eP eO kO (pv 2) (ae (cO A6 hr T.lJ (ae (pv 0) (ae (pv 1) ai))) ai)))
   (aA (jV (BB fg eP eO kO (pv 1) (ae (Nz (pv 0) T.cl_System T.pR Ax (hr.mono (by decide)) T.rG .nil HQ (ae (bf bM (pv 1) (mD iY ao)) (ae (bf bM (pv 2) (mD iY ao)) ai))) ai))))))
   (aA (aY (dR (ae (pv 1) (ae (bJ oV (pv 2) (eX (ae (cO kJ hr T.iq (ae (c7 (pv 0) rfl) ai)) ai))) ai)))))))),?_⟩
  refine aN (σ:=[some (.ref x),none,none,none]) rfl ?_;obtain ⟨dx,am,ap,al,gx,m1,m2,m3,Gm,Gp,Gl⟩:=id S;have d8:=D.n8;have i4:=D.i4;exists ⟨x,Z.a_System,dx,_,_,rfl,gx,T.cl_System,T.na_states,d5,?_⟩;exists ⟨mv.length,rfl,by lia,λr0 H1 n0 s1 R0=>?_⟩;exists dB λa H2 s2 na ga=>?_
  exists dB λb H3 s3 nb gb=>?_
  have s03:=(s1.trans s2).trans s3;have gx3:=s03 _ _ gx;have ga3:=s3 _ _ ga;have ab:a≠b:=λz=>by rw[<- z,ga] at nb;cases nb
  have Ha0:H a=none:=s1.none na;have Hb0:H b=none:=(s1.trans s2).none nb;obtain ⟨zs0,gz0,_⟩:=id R0;have r0a:r0≠a:=λz=>by rw[<- z,gz0] at na;cases na
  have r0b:r0≠b:=λz=>by rw[<- z,s2 _ _ gz0] at nb;cases nb
  exists ⟨x,Z.a_System,dx,_,_,rfl,gx3,T.cl_System,T.na_states,d5,?_⟩;exists ⟨by lia,by lia,?_⟩;refine eK (n:=mv.length) (λj σ' H'=>aI H H'/\∃xs ys sts pus y,σ'=[some (.ref x),some (.ref a),some (.ref b),y]/\H' a=some (.lst xs)/\H' b=some (.lst ys)/\Paired (og K (λq=>H q=none/\q≠a/\q≠b) H') sts xs/\Paired (og K (λq=>H q=none/\q≠a/\q≠b) H') pus ys/\Fo mv pt sts pus/\pus.length=j/\∀pu∈pus,∀z∈pu,z=0\/z=1) ⟨s03,[.ref r0],[],[List.replicate mv.length 0],[],none,rfl,ga3,gb,.cons ⟨r0,rfl,⟨n0,r0a,r0b⟩,(R0.same s2).same s3⟩ .nil,.nil,Ml,rfl,(λ_ h=>nomatch h)⟩ ?_ ?_
  ·rintro j σ' H' hj ⟨s',xs,ys,sts,pus,y,rfl,ga',gb',pa,pb,C,lj,z01⟩;have lxs:=pa.length;have lys:=pb.length;have lC:=C.len;obtain ⟨F2,⟨w,SW⟩,FN⟩:=CS sts pus C z01 (by lia)
   have lst:(sts.getD pus.length []).length=mv.length:=by
    rw[aa,af (by lia)];exact C.wide _ (aB _)
   exists ⟨.inl ⟨rfl,_,bE.of gb'⟩,?_⟩;exists ⟨x,a,w,_,H,mv,pt,lk,sts,pus,Rk,pk,rfl,S.same s',D,bG.ofE ga' pa (λq h=>h.1) (λq h=>h.2.1),C,by lia,KR,full,F2,SW,λr pu Hc nr sc Rr lp z1 nx=>?_⟩;have gbc:=sc _ _ gb';have gac:=sc _ _ ga';obtain ⟨zs1,gz1,_⟩:=id Rr;have ra:r≠a:=λz=>by rw[z,ga'] at nr;cases nr
   have rb:r≠b:=λz=>by rw[z,gb'] at nr;cases nr
   exists kM gbc (bx (by lia)) ?_;have gad:(upd Hc b (.lst (ys++[.ref r]))) a=some (.lst xs):=by rw[aU ab];exact gac
   have gbd:(upd Hc b (.lst (ys++[.ref r]))) b=some (.lst (ys++[.ref r])):=aH;have sd:aI H (upd Hc b (.lst (ys++[.ref r]))):=(s'.trans sc).after Hb0;have pad:=Paired.imp' (λ_ _ z=>og.updL (o:=.lst (ys++[.ref r])) (og.same z sc) gbc (λq h=>h.2.2)) pa;have pbd:=b9 (Paired.imp' (λ_ _ z=>og.updL (o:=.lst (ys++[.ref r])) (og.same z sc) gbc (λq h=>h.2.2)) pb) (.cons (og.updL (o:=.lst (ys++[.ref r])) (P:=λq=>H q=none/\q≠a/\q≠b) ⟨r,rfl,⟨s'.none nr,ra,rb⟩,Rr⟩ gbc (λq h=>h.2.2)) .nil);have Rrd:cP K (upd Hc b (.lst (ys++[.ref r]))) r pu:=Rr.updL gbc rb;generalize upd Hc b (.lst (ys++[.ref r]))=Hd at gad gbd sd pad pbd Rrd ⊢;exists ⟨.inl ⟨rfl,_,bE.of gad⟩,?_⟩;obtain ⟨v,ev⟩:∃v,xs[pus.length]?=some v:=⟨_,af (by lia)⟩;obtain ⟨st,est,q,rfl,hq,Rq⟩:=bK pad ev;have est':sts.getD pus.length []=st:=by rw[aa,est];rfl
   rw[est'] at lst FN;exists ⟨x,dx,_,rfl,sd _ _ gx,Jh,?_⟩;exists cB (bE.of gad) (Ah (by lia) ev) ?_;exists cB (bE.of gbd) (Ah (k:=ys.length) (by rw[au];rfl) (by rw[bQ (aj _),iC];rfl)) ?_;exists ⟨x,q,r,_,mv,pt,lk,st,pu,rfl,S.same sd,D,SF,Rq,Rrd,lst,lp,FN pu z1,λr2 He n2 se R2=>?_⟩;have pbd:Paired (og K (λq=>H q=none/\q≠a/\q≠b) Hd) (pus++[pu]) (ys++[.ref r]):=pbd;have gae:=se _ _ gad;have gbe:=se _ _ gbd;have r2a:r2≠a:=λz=>by rw[z,gad] at n2;cases n2
   have r2b:r2≠b:=λz=>by rw[z,gbd] at n2;cases n2
   exists kM gae (bx (by lia)) ?_;exists ⟨(sd.trans se).after Ha0,xs++[.ref r2],ys++[.ref r],sts++[ft mv pt st pu],pus++[pu],_,rfl,aH,by rw[aU ab.symm];exact gbe,b9 (Paired.imp' (λ_ _ z=>og.updL (og.same z se) gae (λq h=>h.2.1)) pad) (.cons (og.updL (P:=λq=>H q=none/\q≠a/\q≠b) ⟨r2,rfl,⟨sd.none n2,r2a,r2b⟩,R2⟩ gae (λq h=>h.2.1)) .nil),Paired.imp' (λ_ _ z=>og.updL (og.same z se) gae (λq h=>h.2.1)) pbd,nx _ (HU D) (λc=>?_),by rw[au,lj];rfl,λp' hp=>?_⟩
   ·rw[JH D lst lp c];unfold bC;rw[est']
   ·rcases aD.mp hp with hp | hp
    ·exact z01 p' hp
    ·rw[bB.mp hp];exact z1
  ·rintro σ' H' ⟨s',xs,ys,sts,pus,y,rfl,ga',gb',pa,pb,C,lj,z01⟩;have lys:=pb.length;have gx':=s' _ _ gx;exists ⟨x,Z.a_System,dx,_,_,rfl,gx',T.cl_System,T.na_ins,uf,?_⟩;exists ⟨pt.length,rfl,by lia,λr Hc nr sc Rr=>?_⟩;exists dB λl Hd sd nl gl=>?_
   exists oP ((sc.trans sd) _ _ gb') gl (aQ (bx (show ys.length+1<=_ by lia))) λl2 He se n2 ge=>?_
   exists cK λt Hf sf gf=>?_
   have scf:=((sc.trans sd).trans se).trans sf;have q3:Paired (cU K H Hd) (pus++[List.replicate pt.length 0]) (ys++[.ref r]):=b9 (Paired.imp' (λ_ _ ⟨q,e,h,R⟩=>⟨q,e,h.1,R.same (sc.trans sd)⟩) pb) (.cons ⟨r,rfl,s'.none nr,Rr.same sd⟩ .nil);exact k t a l2 sts pus Hf (s'.trans scf) gf ((bG.ofE ga' pa (λq h=>h.1) (λq h=>h.2.1)).same scf) ⟨_,sf _ _ ge,Paired.imp' (λ_ _ z=>z.same (se.trans sf)) q3,jg ⟨_,n2,q3⟩⟩ C lj z01
theorem CI:aR ["one","other"] ["one","other"] (aK qI):=by walk_at "d"
theorem uw (T:Txt K mg Z) (ptree:P.given.tree=none):cD P w K mg base fN 4 Z.xE Z.xk ["one","other"] (Bu K):=by
 have DK:=EC (P:=P) (w:=w) (base:=base) T ptree;refine T.kG.F.ok CI (λvs H Q E h=>?_) (λcdv A outer s H vs Q E hr h=>?_)
 ·obtain ⟨p,q,xq,yq,rfl,_⟩:=h;rfl
 ·obtain ⟨p,q,xq,yq,rfl,hp,hq,hl,hz,hn,hm,k⟩:=h;refine ⟨_,(aA (aY (cy ["mine","yours"] [] [] (mC rfl T.zip (ae (pv 0) (ae (pv 1) ai))) (λ_=>(jd K 2 (ck (aM (i:=0) (show ND9 ["mine","yours"] by decide +kernel)) (ck (aM (i:=1) (show ND9 ["mine","yours"] by decide +kernel)) fB)))) (λ_=>cF) (λ_=>(cO DK hr T.uA (ae (pv 0) (ae (pv 1) ai))))))),?_⟩;refine aN (σ:=[some (.ref p),some (.ref q)]) rfl ?_;obtain ⟨xs,gx,qx⟩:=id hp;obtain ⟨ys,gy,qy⟩:=id hq;have lx:=qx.length;have ly:=qy.length;exists ⟨⟨_,bE.of gx⟩,⟨_,bE.of gy⟩,?_⟩;refine lV (K:=K) (xs:=xs) (ws:=ys) (λi zs H'=>aI H H'/\Paired (cA K H') ((List.zipWith (λx y=>x - y) xq yq).take i) zs) (aQ (bx (by lia))) (by lia) ⟨aI.refl _,.nil⟩ (λi zs H' _ ⟨s,_⟩=>⟨bE.of (s _ _ gx),bE.of (s _ _ gy)⟩) ?_ ?_
  ·rintro i x y zs H' r hx hy hlen ⟨s,hP⟩ hr;obtain ⟨n,en,hn1⟩:=bK qx hx;obtain ⟨m,em,hm1⟩:=bK qy hy;have s1:=aI.new (o:=.tup [x,y]) hr;have s01:=s.trans s1;have gr:(upd H' r (.tup [x,y])) r=some (.tup [x,y]):=aH;generalize upd H' r (.tup [x,y])=Hr at s1 s01 gr ⊢;exists ⟨_,_,n,m,rfl,hn1.same s01,hm1.same s01,hn n (ak en),hm m (ak em),λr3 H3 s3 h3=>?_⟩;refine ⟨s01.trans s3,?_⟩;have ez:(List.zipWith (λx y=>x - y) xq yq)[i]?=some (n - m):=by rw[bF,en,em]
   rw[take_snoc ez];exact b9 (Paired.imp' (λ_ _ z=>z.same (s1.trans s3)) hP) (.cons h3 .nil)
  ·rintro zs H' hy ⟨s,hP⟩ l hl';rw[aE (by rw[aP];lia)] at hP;exact k l _ (s.none hl') (s.trans (aI.new hl')) ⟨zs,aH,Paired.imp' (λ_ _ z=>z.same (aI.new hl')) hP⟩
theorem jT:aR ["one","other","wide","columns"] ["one","other","wide"] (aK oH):=by walk_at "d"
theorem AR (T:Txt K mg Z) (ptree:P.given.tree=none):cD P w K mg base fN 6 Z.pL Z.pH ["one","other","wide"] (yH K):=by
 have c8:=fJ (P:=P) (w:=w) (base:=base) T ptree;have wO:=zo (P:=P) (w:=w) (base:=base) T ptree;refine T.ir.F.ok jT (λvs H Q E h=>?_) (λcdv A outer s H vs Q E hr h=>?_)
 ·obtain ⟨p,q,w,H0,H1,one,other,rfl,_⟩:=h;rfl
 ·obtain ⟨p,q,w,H0,H1,one,other,rfl,hp,hq,z1,z2,hw,h1,h2,kk⟩:=h
  refine ⟨_,(ar (a9 (i:=3) jT.nd rfl (Or.inr rfl) (cO c8 hr T.dS (ae (pv 1) (ae (pv 2) ai))))
   (aA (aY (cy ["line"] ["columns"] [3] (cL (pv 0)) (λ_=>(aM (i:=0) (show ND9 ["line","columns"] by decide +kernel))) (λ_=>cF) (λ_=>(cO wO hr T.jQ (ae (pv 1) (ae (pv 0) ai)))))))),?_⟩
  refine aN (σ:=[some (.ref p),some (.ref q),some (.int w),none]) rfl ?_;exists ⟨q,w,H1,other,rfl,hq,z2,hw,h2,λc H2 nc s2 hc=>?_⟩;obtain ⟨xs,gx,qx,_⟩:=hp.same s2;exists ⟨⟨_,bE.of gx⟩,?_⟩;refine eD (K:=K) (F:=cU K H0) (cU K H) (λxs=>(cm other w).map λys=>eT ys xs) gx qx z1 (λa b=>a.same b) (λa b=>a.same b) ?_ ?_
  ·rintro i ns x H3 NY NN en s3 ⟨u,rfl,_,hu⟩ k;obtain ⟨e1,e2⟩:=h1 ns (ak en);exists ⟨c,u,H,cm other w,ns,rfl,hc.same s3,hu,by simp [cm];lia,by lia,λys hy=>⟨?_,e2 ys hy⟩,λr H4 nr s4 hr=>k _ _ s4 ⟨r,rfl,s2.none (s3.none nr),hr⟩⟩;obtain ⟨j,_,rfl⟩:=ax.mp hy;rw[ah];exact e1.symm
  ·rintro ys' H3 r hr s3 g pr nx;exact kk r H3 (s2.none hr) (s2.trans s3) ⟨ys',g,pr,jg nx⟩
theorem AH:aR ["system","rows"] ["system","rows"] (aK oB):=by walk_at "d"
theorem C4 (T:Txt K mg Z) (ptree:P.given.tree=none):cD P w K mg base fN 4 Z.wI Z.wB ["one","other"] (HF K):=by
 have d6:=jN (P:=P) (w:=w) (base:=base) T ptree;have gQ:=oX (P:=P) (w:=w) (base:=base) T ptree;have gR:=kN (P:=P) (w:=w) (base:=base) T ptree;refine T.jO.F.ok gJ (λvs H Q E h=>?_) (λcdv A outer s H vs Q E hr h=>?_)
 ·obtain ⟨p,q,xs,ys,rfl,_⟩:=h;rfl
 ·obtain ⟨p,q,xs,ys,rfl,hp,hq,hl,hz,⟨⟨M,h1⟩,⟨N,h2⟩⟩,kk⟩:=h
  refine ⟨_,(ar (a9 (i:=2) gJ.nd rfl (Or.inl rfl) (cO d6 hr T.dI (ae (pv 0) ai)))
   (ar (a9 (i:=3) gJ.nd rfl (Or.inl rfl) (cO d6 hr T.dI (ae (pv 1) ai)))
   (ar (a9 (i:=4) gJ.nd rfl (Or.inl rfl) (yZ rfl T.list rfl T.zip (ae (cO gQ hr T.fW (ae (pv 0) (ae (pv 2) ai))) (ae (cO gQ hr T.fW (ae (pv 1) (ae (pv 3) ai))) ai))))
   (aA (aY (cO gR hr T.iP (ae (bL (E4 rfl) (by rfl) T.sum PyProof.Rows.boot_sum (ae (cy ["mine","yours"] [] [] (cL (pv 4)) (λ_=>(jd K 2 (ck (aM (i:=0) (show ND9 ["mine","yours"] by decide +kernel)) (ck (aM (i:=1) (show ND9 ["mine","yours"] by decide +kernel)) fB)))) (λ_=>cF) (λ_=>(bJ cW (pv 0) (pv 1)))) ai)) (ae (bJ cW (pv 2) (pv 3)) ai)))))))),?_⟩
  refine aN (σ:=[some (.ref p),some (.ref q),none,none,none]) rfl ?_;replace hp:=hp.rowK;replace hq:=hq.rowK;replace hl:(ys.map nm).length=(xs.map nm).length:=by simpa using hl
  replace hz:(xs.map nm).length<=1000:=by simpa using hz
  obtain ⟨b1,s1⟩:=h1.bot;obtain ⟨b2,s2⟩:=h2.bot;have k2:∀r H',aI H H'->H' r=some (.tup [.int (lo (Gx (xs.map nm) (ys.map nm)) (eE (xs.map nm)*eE (ys.map nm))),.int (hi (Gx (xs.map nm) (ys.map nm)) (eE (xs.map nm)*eE (ys.map nm)))])->Q (.ref r) H':=λr H' s g=>kk r H' s (cA.mk g (Io b1 b2))
  clear kk;generalize xs.map nm=ns at hp hq hl hz h1 h2 b1 b2 s1 s2 k2;generalize ys.map nm=ms at hp hq hl hz h1 h2 b1 b2 s1 s2 k2;have hb:0 < eE ns*eE ms:=iw b1 b2;exists ⟨p,ns,M,rfl,hp,hz,h1,λH1 t1=>?_⟩;exists ⟨q,ms,N,rfl,hq.same t1,by lia,h2,λH2 t2=>?_⟩;have u2:=t1.trans t2;exists ⟨p,ns,M,_,rfl,hp.same u2,hz,h1,b1,s1,λr1 H3 n3 t3 g3=>?_⟩;exists ⟨q,ms,N,_,rfl,(hq.same u2).same t3,by lia,h2,b2,s2,λr2 H4 n4 t4 g4=>?_⟩;exists ⟨r1,r2,_,_,rfl,bE.of (t4 _ _ g3),bE.of g4,by simp [dy,hl],λL ts H5 t5 n5 g5 pr=>?_⟩;have lt:=pr.length;have ll:(dy ns (eE ns)).length=ns.length:=by simp [dy]
  have lm:(dy ms (eE ms)).length=ns.length:=by simp [dy,hl]
  rw[qj,ah,ah,ll,lm] at lt;exists ⟨⟨_,bE.of g5⟩,?_⟩;refine dY (K:=K) (xs:=ts) (λi ys H'=>H'=H5/\ys=((List.zipWith (λx y=>x*y) (dy ns (eE ns)) (dy ms (eE ms))).take i).map V.int) (aQ (bx (by lia))) ⟨rfl,rfl⟩ (λi ys H' _ ⟨e,_⟩=>by subst e;exact bE.of g5) ?_ ?_
  ·rintro i x ys H' hx hlen ⟨rfl,rfl⟩;obtain ⟨pq,epq,T,rfl,gT⟩:=bK pr hx;obtain ⟨t,u,et,eu,rfl⟩:=GV epq;exists fM (show fP _ _ from .inr ⟨_,_,t8 h1 b1 s1 (ak et),t8 h2 b2 s2 (ak eu),by decide⟩) ?_;have ez:(List.zipWith (λx y=>x*y) (dy ns (eE ns)) (dy ms (eE ms)))[i]?=some (t*u):=by rw[bF,et,eu]
   exact ⟨rfl,by rw[take_snoc ez];simp⟩
  ·rintro ys H' hy ⟨rfl,rfl⟩ l hl';exists ⟨l,List.zipWith (λx y=>x*y) (dy ns (eE ns)) (dy ms (eE ms)),rfl,bE.of (by rw[aH,aE (by rw[aP];lia)]),?_⟩;exists fM (show fP _ _ from .inr ⟨_,_,s1,s2,by decide⟩) ?_;exists ⟨_,_,rfl,by lia,(s1.mul s2).mono (by decide),λr H6 t6 g6=>?_⟩;rw[if_neg (by lia),if_neg (by lia)] at g6;exact k2 r H6 ((((u2.trans t3).trans t4).trans t5).trans ((aI.new hl').trans t6)) g6
theorem C6 (T:Txt K mg Z) (ptree:P.given.tree=none):cD P w K mg base fN 5 Z.wJ Z.wC ["grid","row"] (Hy K):=by
 have G_row_dot_R:=C4 (P:=P) (w:=w) (base:=base) T ptree;refine T.jQ.F.ok yN (λvs H Q E h=>?_) (λcdv A outer s H vs Q E hr h=>?_)
 ·obtain ⟨p,q,H0,rows,ys,rfl,_⟩:=h;rfl
 ·obtain ⟨p,q,H0,rows,ys,rfl,hp,hq,hz,hl,hr1,kk⟩:=h;refine ⟨_,(aA (aY (cy ["line"] ["row"] [1] (cL (pv 0)) (λ_=>(aM (i:=0) (show ND9 ["line","row"] by decide +kernel))) (λ_=>cF) (λ_=>(cO G_row_dot_R hr T.jO (ae (pv 0) (ae (pv 1) ai))))))),?_⟩;refine aN (σ:=[some (.ref p),some (.ref q)]) rfl ?_;obtain ⟨xs,gx,qx,_⟩:=id hp;exists ⟨⟨_,bE.of gx⟩,?_⟩;refine eD (K:=K) (F:=cU K H0) (cA K) (λxs=>eT xs ys) gx qx hz (λa b=>a.same b) (λa b=>a.same b) ?_ ?_
  ·rintro i ns x H' NY NN en s ⟨u,rfl,_,hu⟩ k;obtain ⟨e1,e2⟩:=hr1 ns (ak en);exists ⟨u,q,ns,ys,rfl,hu,hq.same s,e1.symm,by lia,e2,λr H2 s2 h2'=>k _ _ s2 h2'⟩
  ·rintro ys' H' r hr s g pr nx;exact kk r H' hr s ⟨ys',g,pr⟩
theorem xX (T:Txt K mg Z) (ptree:P.given.tree=none):cD P w K mg base fN 6 Z.pL Z.pH ["one","other","wide"] (yI K):=by
 have c8:=fJ (P:=P) (w:=w) (base:=base) T ptree;have G_grid_on_R:=C6 (P:=P) (w:=w) (base:=base) T ptree;refine T.ir.F.ok jT (λvs H Q E h=>?_) (λcdv A outer s H vs Q E hr h=>?_)
 ·obtain ⟨p,q,w,H0,H1,one,other,rfl,_⟩:=h;rfl
 ·obtain ⟨p,q,w,H0,H1,one,other,rfl,hp,hq,z1,z2,hw,h1,h2,kk⟩:=h
  refine ⟨_,(ar (a9 (i:=3) jT.nd rfl (Or.inr rfl) (cO c8 hr T.dS (ae (pv 1) (ae (pv 2) ai))))
   (aA (aY (cy ["line"] ["columns"] [3] (cL (pv 0)) (λ_=>(aM (i:=0) (show ND9 ["line","columns"] by decide +kernel))) (λ_=>cF) (λ_=>(cO G_grid_on_R hr T.jQ (ae (pv 1) (ae (pv 0) ai)))))))),?_⟩
  refine aN (σ:=[some (.ref p),some (.ref q),some (.int w),none]) rfl ?_;exists ⟨q,w,H1,other,rfl,hq,z2,hw,h2,λc H2 nc s2 hc=>?_⟩;obtain ⟨xs,gx,qx,_⟩:=hp.same s2;exists ⟨⟨_,bE.of gx⟩,?_⟩;refine eD (K:=K) (F:=cU K H0) (cU K H) (λxs=>(cm other w).map λys=>eT ys xs) gx qx z1 (λa b=>a.same b) (λa b=>a.same b) ?_ ?_
  ·rintro i ns x H3 NY NN en s3 ⟨u,rfl,_,hu⟩ k;obtain ⟨e1,e2⟩:=h1 ns (ak en);exists ⟨c,u,H,cm other w,ns,rfl,hc.same s3,hu,by simp [cm];lia,by lia,λys hy=>⟨?_,e2 ys hy⟩,λr H4 nr s4 hr=>k _ _ s4 ⟨r,rfl,s2.none (s3.none nr),hr⟩⟩;obtain ⟨j,_,rfl⟩:=ax.mp hy;rw[ah];exact e1.symm
  ·rintro ys' H3 r hr s3 g pr nx;exact kk r H3 (s2.none hr) (s2.trans s3) ⟨ys',g,pr,jg nx⟩
theorem xW (T:Txt K mg Z) (ptree:P.given.tree=none):cD P w K mg base fN 7 Z.uZ Z.uM ["system","rows"] (Bl K Z.a_System):=by
 have G_grid_times_R:=xX (P:=P) (w:=w) (base:=base) T ptree;refine T.nv.F.ok AH (λvs H Q E h=>?_) (λcdv A outer s H vs Q E hr h=>?_)
 ·obtain ⟨x,p,H0,H1,mv,pt,lk,N,rfl,_⟩:=h;rfl
 ·obtain ⟨x,p,H0,H1,mv,pt,lk,N,rfl,S,D,GN,n100,hN,k⟩:=h;refine ⟨_,(aA (aY (cO G_grid_times_R hr T.ir (ae (pv 1) (ae (c7 (pv 0) rfl) (ae (c7 (pv 0) rfl) ai)))))),?_⟩;refine aN (σ:=[some (.ref x),some (.ref p)]) rfl ?_;obtain ⟨dx,am,ap,al,gx,_,_,_,Gm,_,_⟩:=id S;have d1:=D.n8;exists ⟨x,Z.a_System,dx,_,_,rfl,gx,T.cl_System,T.na_move,ue,?_⟩;exists ⟨x,Z.a_System,dx,_,_,rfl,gx,T.cl_System,T.na_states,d5,?_⟩;exists ⟨p,am,mv.length,H1,H0,N,mv,rfl,GN,Gm,by lia,by lia,by lia,hN,D.mw,k⟩
theorem KD:aR ["one","other"] ["one","other"] (aK CO):=by walk_at "d"
theorem Lg (T:Txt K mg Z) (ptree:P.given.tree=none):cD P w K mg base fN 3 Z.IM Z.Iw ["one","other"] (mV K (λx y=>x*y)):=by
 have gR:=kN (P:=P) (w:=w) (base:=base) T ptree;refine T.zD.F.ok KD (λvs H Q E h=>?_) (λcdv A outer s H vs Q E hr h=>?_)
 ·obtain ⟨p,q,a,b,c,d,rfl,hp,hq,hb,hd,sa,sb,sc,sd,k⟩:=yi h;rfl
 ·obtain ⟨p,q,a,b,c,d,rfl,hp,hq,hb,hd,sa,sb,sc,sd,k⟩:=yi h;refine ⟨_,(aA (aY (cO gR hr T.iP (ae (bJ cW (bf cw (pv 0) ao) (bf cw (pv 1) ao)) (ae (bJ cW (bf cw (pv 0) ao) (bf cw (pv 1) ao)) ai))))),?_⟩;refine aN (σ:=[some (.ref p),some (.ref q)]) rfl ?_;have hbd:0 < b*d:=iw hb hd;have sbd:Sz 449950 (b*d):=(sb.mul sd).mono (by decide);exists fM (show fP _ _ from .inr ⟨_,_,sa,sc,by decide⟩) ?_;exists fM (show fP _ _ from .inr ⟨_,_,sb,sd,by decide⟩) ?_;walk_at "w";exists ⟨_,_,rfl,by lia,sbd,λr H' s' h'=>?_⟩;rw[if_neg (by lia),if_neg (by lia)] at h';exact k r H' s' h'
theorem CH:aR ["by","row"] ["by","row"] (aK qH):=by walk_at "d"
theorem uu (T:Txt K mg Z) (ptree:P.given.tree=none):cD P w K mg base fN 4 Z.xD Z.xj ["by","row"] (FE K):=by
 have Oj:=Lg (P:=P) (w:=w) (base:=base) T ptree;refine T.kF.F.ok CH (λvs H Q E h=>?_) (λcdv A outer s H vs Q E hr h=>?_)
 ·obtain ⟨u,q,c,ys,rfl,_⟩:=h;rfl
 ·obtain ⟨u,q,c,ys,rfl,hc,sc,hq,hz,h2,kk⟩:=h;refine ⟨_,(aA (aY (cy ["value"] ["by"] [0] (cL (pv 1)) (λ_=>(aM (i:=0) (show ND9 ["value","by"] by decide +kernel))) (λ_=>cF) (λ_=>(cO Oj hr T.zD (ae (pv 1) (ae (pv 0) ai))))))),?_⟩;refine aN (σ:=[some u,some (.ref q)]) rfl ?_;obtain ⟨us,gu,qu⟩:=id hq;exists ⟨⟨_,bE.of gu⟩,?_⟩;refine eD (K:=K) (F:=cA K) (cA K) (λy=>c*y) gu qu hz (λa b=>a.same b) (λa b=>a.same b) ?_ ?_
  ·rintro i y x H' NY NN en s hx k;exists ⟨_,_,_,_,rfl,hc.same s,hx,sc,h2 y (ak en),λr H2 s2 h2'=>k _ _ s2 h2'⟩
  ·rintro ys' H' r hr s g pr nx;exact kk r H' hr s ⟨ys',g,pr⟩
theorem uo:aR ["system","row","wish","told","weight"] ["system","row","wish"] (aK CV):=by walk_at "d"
theorem Lj (T:Txt K mg Z) (ptree:P.given.tree=none):cD P w K mg base fN 8 Z.IU Z.IC ["system","row","wish"] (Eh K Z.a_System):=by
 have rN:=uw (P:=P) (w:=w) (base:=base) T ptree;have G_taken_over_R:=xW (P:=P) (w:=w) (base:=base) T ptree;have rM:=uu (P:=P) (w:=w) (base:=base) T ptree;refine T.zG.F.ok uo (λvs H Q E h=>?_) (λcdv A outer s H vs Q E hr h=>?_)
 ·obtain ⟨x,p,q,H0,mv,pt,lk,row,wish,rfl,_⟩:=h;rfl
 ·obtain ⟨x,p,q,H0,mv,pt,lk,row,wish,rfl,S,D,Rp,lr,Rq,l100,F,k⟩:=h
  refine ⟨_,(ar (a9 (i:=3) uo.nd rfl (Or.inl rfl) (pv 1))
   (ar (eV PassesOwn.never rfl (Qc rfl T.reversed (ae (pv 2) ai)) (aM (i:=4) uo.nd)
    (aA (a9 (i:=3) uo.nd rfl (Or.inl rfl) (cO rN hr T.kG (ae (bf bM (cO G_taken_over_R hr T.nv (ae (pv 0) (ae (eX (ae (pv 3) ai)) ai))) ao) (ae (cO rM hr T.kF (ae (pv 4) (ae (pv 1) ai))) ai))))))
   (aA (aY (pv 3))))),?_⟩
  refine aN (σ:=[some (.ref x),some (.ref p),some (.ref q),none,none]) rfl ?_;obtain ⟨ws,gw,qw⟩:=id Rq;have lw:=qw.length;have d8:=D.n8;walk_at "w";unfold Sh;exists ⟨q,ws,rfl,bE.of gw,?_⟩;refine NW (K:=K) (a:=q) (xs:=ws) (λi σ' H'=>aI H H'/\∃r y,σ'=[some (.ref x),some (.ref p),some (.ref q),some (.ref r),y]/\cP K H' r (vA mv row wish i)) ⟨aI.refl _,p,_,rfl,Rp⟩ (λi σ' H' _ ⟨s,_⟩=>bE.of (s _ _ gw)) ?_ ?_
  ·rintro i v σ' H' hi hv ⟨s',r,y,rfl,Rr⟩;obtain ⟨a,ea,hq⟩:=bK qw hv;have ma:=ak ea;have ea':wish.getD (wish.length - 1 - i) 0=a:=by rw[aa,lw,ea];rfl
   have ln:=wH (wish:=wish) lr i;exists dB λl H1 s1 nl gl=>?_
   have G1:bG K (λ_=>none) H1 l [vA mv row wish i]:=⟨_,gl,.cons ⟨r,rfl,rfl,Rr.same s1⟩ .nil,λz=>by
    obtain ⟨zs,gz,_⟩:=Rr;cases bB.mp z;rw[gz] at nl;cases nl⟩
   have s01:=s'.trans s1;exists ⟨x,l,_,_,mv,pt,lk,_,rfl,S.same s01,D,G1,(show 1<=100 by decide),λxs hx=>?_,λt H2 nt s2 G2=>?_⟩
   ·rw[bB.mp hx];exact ⟨ln,λys hy=>⟨F.col ys hy,F.rw i (by lia)⟩⟩
   obtain ⟨us,gu,qu,_⟩:=id G2;have e2:gH [vA mv row wish i] mv mv.length=[Cz mv (vA mv row wish i)]:=rfl;rw[e2] at qu
   match us,qu,gu with
   | [u],.cons ⟨t1,et,_,Rt⟩ .nil,gu =>
   subst et;have s02:=s01.trans s2;exists ⟨_,p,a,row,rfl,?_,F.ws a ma,Rp.same s02,by lia,F.rz,λt2 H3 n3 s3 R3=>?_⟩
   ·exact hq.same s02
   exists ⟨t1,t2,_,_,rfl,Rt.same s3,R3,by rw[ah,Cy,lr],by rw[Cy];lia,F.tk i (by lia),λz hz=>?_,λt3 H4 n4 s4 R4=>?_⟩
   ·obtain ⟨y,hy,rfl⟩:=ax.mp hz;exact F.mul a ma y hy
   exists ⟨(s02.trans s3).trans s4,t3,_,rfl,?_⟩;show cP K H4 t3 (List.zipWith (λx y=>x - y) (Cz mv (vA mv row wish i)) (row.map λy=>wish.getD (wish.length - 1 - i) 0*y))
   rw[ea'];exact R4
  ·rintro σ' H' ⟨s',r,y,rfl,Rr⟩;walk_at "w";rw[<- lw] at Rr;exact k r H' s' Rr
theorem MR:aR ["one","other"] ["one","other"] (aK FJ):=by walk_at "d"
theorem NH (T:Txt K mg Z) (ptree:P.given.tree=none):cD P w K mg base fN 3 Z.Mr Z.L7 ["one","other"] (mV K (λx y=>x+y)):=by
 have gR:=kN (P:=P) (w:=w) (base:=base) T ptree;refine T.Dg.F.ok MR (λvs H Q E h=>?_) (λcdv A outer s H vs Q E hr h=>?_)
 ·obtain ⟨p,q,a,b,c,d,rfl,hp,hq,hb,hd,sa,sb,sc,sd,k⟩:=yo h;rfl
 ·obtain ⟨p,q,a,b,c,d,rfl,hp,hq,hb,hd,sa,sb,sc,sd,k⟩:=yo h;refine ⟨_,(aA (aY (cO gR hr T.iP (ae (bJ eJ (bJ cW (bf cw (pv 0) ao) (bf cw (pv 1) ao)) (bJ cW (bf cw (pv 1) ao) (bf cw (pv 0) ao))) (ae (bJ cW (bf cw (pv 0) ao) (bf cw (pv 1) ao)) ai))))),?_⟩;refine aN (σ:=[some (.ref p),some (.ref q)]) rfl ?_;have hbd:0 < b*d:=iw hb hd;have sbd:Sz 449950 (b*d):=(sb.mul sd).mono (by decide);exists fM (show fP _ _ from .inr ⟨_,_,sa,sd,by decide⟩) ?_;exists fM (show fP _ _ from .inr ⟨_,_,sc,sb,by decide⟩) ?_;exists fM (show fP _ _ from .inr ⟨_,_,sb,sd,by decide⟩) ?_;walk_at "w";exists ⟨_,_,rfl,by lia,sbd,λr H' s' h'=>?_⟩;rw[if_neg (by lia),if_neg (by lia)] at h';exact k r H' s' h'
theorem Ek:aR ["one","other"] ["one","other"] (aK tq):=by walk_at "d"
theorem EB (T:Txt K mg Z) (ptree:P.given.tree=none):cD P w K mg base fN 4 Z.Ak Z.zX ["one","other"] (yC K):=by
 have QW:=NH (P:=P) (w:=w) (base:=base) T ptree;refine T.qZ.F.ok Ek (λvs H Q E h=>?_) (λcdv A outer s H vs Q E hr h=>?_)
 ·obtain ⟨p,q,xs,ys,rfl,_⟩:=h;rfl
 ·obtain ⟨p,q,xs,ys,rfl,hp,hq,hl,h1000,sx,sy,k⟩:=h;refine ⟨_,(aA (aY (cy ["mine","yours"] [] [] (mC rfl T.zip (ae (pv 0) (ae (pv 1) ai))) (λ_=>(jd K 2 (ck (aM (i:=0) (show ND9 ["mine","yours"] by decide +kernel)) (ck (aM (i:=1) (show ND9 ["mine","yours"] by decide +kernel)) fB)))) (λ_=>cF) (λ_=>(cO QW hr T.Dg (ae (pv 0) (ae (pv 1) ai))))))),?_⟩;refine aN (σ:=[some (.ref p),some (.ref q)]) rfl ?_;obtain ⟨us,gu,qu⟩:=id hp;obtain ⟨ws,gw,qw⟩:=id hq;have lu:=qu.length;have lw:=qw.length;exists ⟨⟨_,bE.of gu⟩,⟨_,bE.of gw⟩,?_⟩;refine lV (K:=K) (xs:=us) (ws:=ws) (λi zs H'=>aI H H'/\Paired (cA K H') ((List.zipWith (λx y=>x+y) xs ys).take i) zs) (aQ (bx (by lia))) (by lia) ⟨aI.refl _,.nil⟩ (λi zs H' _ ⟨s,_⟩=>⟨bE.of (s _ _ gu),bE.of (s _ _ gw)⟩) ?_ ?_
  ·rintro i u w zs H' r hu hw hlen ⟨s',pr⟩ hr;obtain ⟨x,ex,nx⟩:=bK qu hu;obtain ⟨y,ey,ny⟩:=bK qw hw;have sr:aI H' (upd H' r (.tup [u,w])):=aI.new hr;have gr:(upd H' r (.tup [u,w])) r=some (.tup [u,w]):=aH;generalize upd H' r (.tup [u,w])=H2 at sr gr ⊢;exists ⟨_,_,x,y,rfl,(nx.same s').same sr,(ny.same s').same sr,sx x (ak ex),sy y (ak ey),λr3 H3 s3 n3=>?_⟩;refine ⟨(s'.trans sr).trans s3,?_⟩;have ez:(List.zipWith (λx y=>x+y) xs ys)[i]?=some (x+y):=by rw[bF,ex,ey]
   rw[take_snoc ez];exact b9 (Paired.imp' (λ_ _ z=>cA.same z (sr.trans s3)) pr) (.cons n3 .nil)
  rintro zs H' hz ⟨s',pr⟩ l hl';rw[aE (by rw[aP];lia)] at pr;exact k l _ (s'.none hl') (s'.trans (aI.new hl')) ⟨zs,aH,Paired.imp' (λ_ _ z=>cA.same z (aI.new hl')) pr⟩
theorem vK:aR ["system","rows","fed_back","move"] ["system","rows"] (aK yS):=by walk_at "d"
theorem Jy (T:Txt K mg Z) (ptree:P.given.tree=none):cD P w K mg base fN 7 Z.Fb Z.EX ["system","rows"] (yK K Z.a_System):=by
 have DL:=AR (P:=P) (w:=w) (base:=base) T ptree;have c8:=fJ (P:=P) (w:=w) (base:=base) T ptree;have GL:=EB (P:=P) (w:=w) (base:=base) T ptree;have ju:=lB (P:=P) (w:=w) (base:=base) T ptree;refine T.wo.F.ok vK (λvs H Q E h=>?_) (λcdv A outer s H vs Q E hr h=>?_)
 ·obtain ⟨x,p,H0,H1,mv,pt,lk,F,rfl,_⟩:=h;rfl
 ·obtain ⟨x,p,H0,H1,mv,pt,lk,F,rfl,S,D,GF_,lF,wF,C,k⟩:=h
  refine ⟨_,(ar (a9 (i:=2) vK.nd rfl (Or.inl rfl) (cO DL hr T.ir (ae (cO c8 hr T.dS (ae (c7 (pv 0) rfl) (ae (c7 (pv 0) rfl) ai))) (ae (pv 1) (ae (c7 (pv 0) rfl) ai)))))
   (ar (oQ 3 ["line","more"] [] [] vK.nd rfl rfl (mC rfl T.zip (ae (c7 (pv 0) rfl) (ae (pv 2) ai))) (λ_=>(jd K 2 (ck (aM (i:=0) (show ND9 ["line","more"] by decide +kernel)) (ck (aM (i:=1) (show ND9 ["line","more"] by decide +kernel)) fB)))) (λ_=>cF) (λ_=>(cO GL hr T.qZ (ae (pv 0) (ae (pv 1) ai)))))
   (aA (aY (HM T.mk_System ju (hr.mono (by decide)) rfl T.mg_System T.jq .nil HQ (ae (pv 3) (ae (c7 (pv 0) rfl) (ae (c7 (pv 0) rfl) ai)))))))),?_⟩
  refine aN (σ:=[some (.ref x),some (.ref p),none,none]) rfl ?_;obtain ⟨dx,am,ap,al,gx,_,_,_,Gm,Gp,Gl⟩:=id S;have d1:=D.n8;have d2:=D.i4;exists ⟨x,Z.a_System,dx,_,_,rfl,gx,T.cl_System,T.na_put,uc,?_⟩;exists ⟨x,Z.a_System,dx,_,_,rfl,gx,T.cl_System,T.na_states,d5,?_⟩;exists ⟨ap,mv.length,H0,pt,rfl,Gp,by lia,by lia,D.pw,λtp H2 ntp s2 G2=>?_⟩;have gx2:=s2 _ _ gx;exists ⟨x,Z.a_System,dx,_,_,rfl,gx2,T.cl_System,T.na_states,d5,?_⟩;exists ⟨tp,p,mv.length,H,H1,cm pt mv.length,F,rfl,G2,GF_.same s2,by rw[dz];lia,by lia,by lia,λxs hx=>⟨by rw[iL xs hx,lF],λys hy=>C.f2 xs hx ys hy⟩,wF,λfb H3 nfb s3 G3=>?_⟩;have s13:=s2.trans s3;have gx3:=s13 _ _ gx;obtain ⟨ms,gm,qm,_⟩:=Gm.same s13;obtain ⟨fs,gf,qf,_⟩:=id G3;have lm:=qm.length;have lf:=qf.length;have lT:(gH (cm pt mv.length) F mv.length).length=mv.length:=by unfold gH;rw[ah,dz]
  have wT:∀xs∈gH (cm pt mv.length) F mv.length,xs.length=mv.length:=λxs hx=>by
   obtain ⟨z,_,rfl⟩:=ax.mp hx;rw[ah,dz]
  exists ⟨x,Z.a_System,dx,_,_,rfl,gx3,T.cl_System,T.na_move,ue,?_⟩;exists ⟨⟨_,bE.of gm⟩,⟨_,bE.of gf⟩,?_⟩;refine lV (K:=K) (xs:=ms) (ws:=fs) (λi ys H'=>aI H3 H'/\Paired (cU K H H') ((List.zipWith (λline more=>List.zipWith (λx y=>x+y) line more) mv (gH (cm pt mv.length) F mv.length)).take i) ys) (aQ (bx (by lia))) (by lia) ⟨aI.refl _,.nil⟩ (λi ys H' _ ⟨s,_⟩=>⟨bE.of (s _ _ gm),bE.of (s _ _ gf)⟩) ?_ ?_
  ·rintro i u w ys H4 r4 hu hw hlen ⟨s4,pr4⟩ hr4;obtain ⟨line,el,qa,rfl,_,Ra⟩:=bK qm hu;obtain ⟨more,em,qb,rfl,_,Rb⟩:=bK qf hw;have ml:=ak el;have mm:=ak em;have sr:aI H4 (upd H4 r4 (.tup [.ref qa,.ref qb])):=aI.new hr4;have gr:(upd H4 r4 (.tup [.ref qa,.ref qb])) r4=some (.tup [.ref qa,.ref qb]):=aH;generalize upd H4 r4 (.tup [.ref qa,.ref qb])=H5 at sr gr ⊢;have s35:=s4.trans sr;exists ⟨qa,qb,line,more,rfl,Ra.same s35,Rb.same s35,by rw[wT more mm,D.mw line ml],by rw[D.mw line ml];lia,C.sm line ml,C.st more mm,λr6 H6 n6 s6 R6=>?_⟩;refine ⟨s35.trans s6,?_⟩;have ez:(List.zipWith (λline more=>List.zipWith (λx y=>x+y) line more) mv (gH (cm pt mv.length) F mv.length))[i]?=some (List.zipWith (λx y=>x+y) line more):=by rw[bF,el,em]
   rw[take_snoc ez];exact b9 (Paired.imp' (λ_ _ z=>cU.same z (sr.trans s6)) pr4) (.cons ⟨r6,rfl,s13.none (s35.none n6),R6⟩ .nil)
  rintro ys H4 hy ⟨s4,pr4⟩ mp hmp;have sn:aI H4 (upd H4 mp (.lst ys)):=aI.new hmp;have gn:(upd H4 mp (.lst ys)) mp=some (.lst ys):=aH;have nn:V.ref mp∉ys:=jg ⟨H4,hmp,pr4⟩;rw[aE (by rw[aP];lia),N9 D.mw lF] at pr4;generalize upd H4 mp (.lst ys)=H5 at sn gn ⊢;have GM:bG K H H5 mp (fw mv pt F):=⟨ys,gn,Paired.imp' (λ_ _ z=>cU.same z sn) pr4,nn⟩;have s15:=s13.trans (s4.trans sn);have gx5:=s15 _ _ gx;exists ⟨x,Z.a_System,dx,_,_,rfl,gx5,T.cl_System,T.na_put,uc,?_⟩;exists ⟨x,Z.a_System,dx,_,_,rfl,gx5,T.cl_System,T.na_look,Ku,?_⟩;walk_at "w";intro x2 dx2 nx ndx nex;have ok:=C.ok;exact ⟨x2,dx2,mp,ap,al,H5,H,H0,H0,_,_,_,rfl,nx,ndx,nex,rfl,GM,Gp.same s15,Gl.same s15,Cl81.sysd D,ok.1,ok.2.1,ok.2.2,λH' s' S'=>⟨rfl,k x2 H' (s15.none nx) (s15.trans s') (S'.weak s15)⟩⟩
theorem gI:aR ["system","wish","wide","found","last","lines","sides","rows","mend"] ["system","wish"] (aK vL):=by walk_at "d"
theorem FX (T:Txt K mg Z) (ptree:P.given.tree=none):cD P w K mg base (O6 P w) 10 Z.Cc Z.BO ["system","wish"] (D6 K Z.a_System Z.a_NotSteered):=by
 have tX:=rY (P:=P) (w:=w) (base:=base) T ptree;have Om:=Li (P:=P) (w:=w) (base:=base) T ptree;have c8:=fJ (P:=P) (w:=w) (base:=base) T ptree;have oh:=tI (P:=P) (w:=w) (base:=base) T ptree;have Oo:=Lj (P:=P) (w:=w) (base:=base) T ptree;have Mu:=Jy (P:=P) (w:=w) (base:=base) T ptree;have rN:=uw (P:=P) (w:=w) (base:=base) T ptree;have rM:=uu (P:=P) (w:=w) (base:=base) T ptree;refine T.lE.F.okX gI (λvs H Q E h=>?_) (λcdv A outer s H vs Q E hr h=>?_)
 ·obtain ⟨x,q,a,c,H0,mv,pt,lk,wish,rfl,_⟩:=h;rfl
 ·obtain ⟨x,q,a,c,H0,mv,pt,lk,wish,rfl,S,D,SF,KF,SW,CS,ST,Rq,lq,k,ke⟩:=h
  refine ⟨_,(ar (jV (HN tX (hr.mono (by decide)) rfl T.eo.m T.eo.F.kp T.eo.b .nil Ld (ae (pv 0) ai)))
   (ar (a9 (i:=2) gI.nd rfl (Or.inr rfl) (c7 (pv 0) rfl))
   (ar (a9 (i:=3) gI.nd rfl (Or.inl rfl) (cO Om hr T.zF (ae (pv 0) ai)))
   (ar (oQ 4 ["step"] ["wide"] [2] gI.nd rfl rfl (cI rfl T.range (ae (bJ eJ (pv 2) ao) ai)) (λ_=>(aM (i:=0) (show ND9 ["step","wide"] by decide +kernel))) (λ_=>cF) (λ_=>(eX (ae (Ez (bu eU (pv 0) (pv 1) (bD _)) (jW (v:=.ref Z.a_ONE) rfl T.mg_ONE rfl) (jW (v:=.ref Z.a_NOUGHT) rfl T.mg_NOUGHT rfl)) ai))))
   (ar (oQ 5 ["state","given","end"] [] [] gI.nd rfl rfl (Ny rfl T.zip (ae (bf cw (pv 3) ao) (ae (bf cw (pv 3) ao) (ae (pv 4) ai)))) (λ_=>(jd K 3 (ck (aM (i:=0) (show ND9 ["state","given","end"] by decide +kernel)) (ck (aM (i:=1) (show ND9 ["state","given","end"] by decide +kernel)) (ck (aM (i:=2) (show ND9 ["state","given","end"] by decide +kernel)) fB))))) (λ_=>cF) (λ_=>(bJ oV (bJ oV (pv 0) (pv 1)) (pv 2))))
   (ar (a9 (i:=6) gI.nd rfl (Or.inl rfl) (cO c8 hr T.dS (ae (cy ["line"] ["wide"] [2] (cL (cO oh hr T.lH (ae (kZ oy (pv 5) (oR ao) oS) (ae (bJ eJ (bJ eJ (pv 2) (c7 (pv 0) rfl)) ao) ai)))) (λ_=>(aM (i:=0) (show ND9 ["line","wide"] by decide +kernel))) (λ_=>cF) (λ_=>(kZ (KC K (by rfl)) (pv 0) (oR (pv 1)) oS))) (ae (bJ eJ (c7 (pv 0) rfl) ao) ai))))
   (ar (a9 (i:=7) gI.nd rfl (Or.inl rfl) (kZ oy (pv 6) oS (oR (mD iY ao))))
   (ar (a9 (i:=8) gI.nd rfl (Or.inr rfl) (cO Oo hr T.zG (ae (cO Mu hr T.wo (ae (pv 0) (ae (pv 7) ai))) (ae (bf bM (pv 6) (mD iY ao)) (ae (pv 1) ai)))))
   (aA (aY (cy ["row","by"] ["mend"] [8] (mC rfl T.zip (ae (pv 7) (ae (bf bM (bf cw (pv 3) ao) ao) ai))) (λ_=>(jd K 2 (ck (aM (i:=0) (show ND9 ["row","by","mend"] by decide +kernel)) (ck (aM (i:=1) (show ND9 ["row","by","mend"] by decide +kernel)) fB)))) (λ_=>cF) (λ_=>(cO rN hr T.kG (ae (pv 0) (ae (cO rM hr T.kF (ae (pv 1) (ae (pv 2) ai))) ai))))))))))))))),?_⟩
  refine aN (σ:=[some (.ref x),some (.ref q),none,none,none,none,none,none,none]) rfl ?_;obtain ⟨dx,am,ap,al,gx,m1,m2,m3,Gm,Gp,Gl⟩:=id S;have d8:=D.n8;have i4:=D.i4;exists ⟨x,a,c,H0,mv,pt,lk,rfl,S,D,KF,SW,λRk pk H1 s1 KR full=>?_,λR ps r dx H' RR hf s' nr Rr hd=>ke R ps r dx H' RR hf s' nr Rr hd⟩;exists ⟨x,Z.a_System,dx,_,_,rfl,(s1 _ _ gx),T.cl_System,T.na_states,d5,?_⟩;exists ⟨x,H0,mv,pt,lk,Rk,pk,rfl,S.same s1,D,SF,KR,full,CS,λt a b sts pus H2 s2 gt Ga Gb C lp z01=>?_⟩;have s12:=s1.trans s2;exists ⟨by lia,by lia,?_⟩;rw[show (((mv.length:Nat):Int)+1).toNat=mv.length+1 by lia];obtain ⟨xa,ga,qa,_⟩:=id Ga;obtain ⟨xb,gb,qb,_⟩:=id Gb;have lxa:=qa.length;have lxb:=qb.length;have lC:=C.len;rw[au,aV] at lxb;refine iS (n:=mv.length+1) (cU K H) (λj=>[if j=mv.length then (1:Rat) else 0]) (by lia) (λa b=>a.same b) ?_ ?_
  ·rintro j H3 NY NN hj s3 k1;exists iI (λh0=>?_) (λh0=>?_)
   ·exists dB λl Hx sx nx gl=>?_
    refine k1 _ _ sx ⟨l,rfl,s12.none (s3.none nx),_,gl,.cons ?_ .nil⟩;have e:j=mv.length:=by have:=of_decide_eq_true h0;lia
    rw[if_pos e];exact ⟨_,rfl,T.sq_ONE _⟩
   ·exists dB λl Hx sx nx gl=>?_
    refine k1 _ _ sx ⟨l,rfl,s12.none (s3.none nx),_,gl,.cons ?_ .nil⟩;have e:j≠mv.length:=λz=>h0 (decide_eq_true (by rw[z]))
    rw[if_neg e];exact ⟨_,rfl,T.sq_NOUGHT _⟩
  rintro xl H3 l3 n3 s3 g3 p3 nx3;have lxl:=p3.length;rw[ah,bI] at lxl;have ga3:=s3 _ _ ga;have gb3:=s3 _ _ gb;have gt3:=s3 _ _ gt;walk_at "w";unfold OQ;exists ⟨a,b,l3,rfl,⟨_,bE.of ga3⟩,⟨_,bE.of gb3⟩,⟨_,bE.of g3⟩,?_⟩;have s13:=s12.trans s3;refine JT (K:=K) (xs:=xa) (ws:=xb) (zs:=xl) (λi ys H'=>aI H3 H'/\Paired (cU K H H') ((jm sts (pus++[List.replicate pt.length 0]) mv.length).take i) ys) (aQ (bx (by lia))) (by lia) (by lia) ⟨aI.refl _,.nil⟩ (λi ys H' _ ⟨e,_⟩=>⟨bE.of (e _ _ ga3),bE.of (e _ _ gb3),bE.of (e _ _ g3)⟩) ?_ ?_
  ·rintro j u1 u2 u3 ys H4 r4 h1 h2 h3 hlen ⟨s4,pr4⟩ hr4;obtain ⟨st,es,q1,rfl,_,R1⟩:=bK qa h1;obtain ⟨gv,eg,q2,rfl,_,R2⟩:=bK qb h2;obtain ⟨en,ee,q3,rfl,_,R3⟩:=bK p3 h3;have sr:aI H4 (upd H4 r4 (.tup [.ref q1,.ref q2,.ref q3])):=aI.new hr4;have gr:(upd H4 r4 (.tup [.ref q1,.ref q2,.ref q3])) r4=some (.tup [.ref q1,.ref q2,.ref q3]):=aH;generalize upd H4 r4 (.tup [.ref q1,.ref q2,.ref q3])=H5 at sr gr ⊢;obtain ⟨v1,w1,y1⟩:=(R1.same s3).same (s4.trans sr);obtain ⟨v2,w2,y2⟩:=(R2.same s3).same (s4.trans sr);obtain ⟨v3,w3,y3⟩:=R3.same (s4.trans sr);have lv1:=y1.length;have lv2:=y2.length;have lv3:=y3.length;have c1:st.length=mv.length:=C.wide st (ak es)
   have c2:gv.length=pt.length:=by
    rcases aD.mp (ak eg) with z | z
    ·exact C.wpu gv z
    ·rw[bB.mp z];exact cp
   rw[az] at ee;have jl:j < mv.length+1:=by have:=(aL.mp h1).1;lia
   rw[bo jl] at ee;cases ee;have c3:v3.length=1:=lv3.symm;exists oP w1 w2 (aQ (bx (by lia))) λl5 H6 s6 n6 g6=>?_
   exists oP g6 (s6 _ _ w3) (aQ (bx (by rw[au];lia))) λl6 H7 s7 n7 g7=>?_
   have s57:=s6.trans s7;have s37:=(s4.trans sr).trans s57;refine ⟨s37,?_⟩
   have ez:(jm sts (pus++[List.replicate pt.length 0]) mv.length)[j]?=some (st++gv++[if j=mv.length then 1 else 0]):=by
    unfold jm;rw[az,bo jl];show some (sts.getD j []++(pus++[List.replicate pt.length 0]).getD j []++_)=_
    rw[aa (l:=sts),es,aa (l:=pus++_),eg];rfl
   rw[take_snoc ez];exact b9 (Paired.imp' (λ_ _ z=>cU.same z (sr.trans s57)) pr4) (.cons ⟨l6,rfl,s13.none ((s4.trans sr).none (s6.none n7)),_,g7,Paired.imp' (λ_ _ z=>cA.same z s57) (b9 (b9 y1 y2) y3)⟩ .nil)
  rintro yl H4 hyl ⟨s4,pr4⟩ l4 n4;rw[aE (by unfold jm;rw[ah,bI];lia)] at pr4;have G4:bG K H (upd H4 l4 (.lst yl)) l4 (jm sts (pus++[List.replicate pt.length 0]) mv.length):=⟨yl,aH,Paired.imp' (λ_ _ z=>cU.same z (aI.new n4)) pr4,jg ⟨_,n4,pr4⟩⟩;have s44:aI H4 (upd H4 l4 (.lst yl)):=aI.new n4;generalize upd H4 l4 (.lst yl)=H5 at G4 s44 ⊢;have s15:=s13.trans (s4.trans s44);have gx5:=s15 _ _ gx;have lL:(jm sts (pus++[List.replicate pt.length 0]) mv.length).length=mv.length+1:=by unfold jm;rw[ah,bI]
  have wg:∀xs∈pus++[List.replicate pt.length (0:Rat)],xs.length=pt.length:=λxs hx=>by
   rcases aD.mp hx with z | z
   ·exact C.wpu xs z
   ·rw[bB.mp z];exact cp
  have wL:∀xs∈jm sts (pus++[List.replicate pt.length 0]) mv.length,xs.length=mv.length+pt.length+1:=λxs hx=>by
   unfold jm at hx;obtain ⟨j,hj,rfl⟩:=ax.mp hx;have hj':=jE.mp hj;rw[au,au,aV]
   have e1:(sts.getD j []).length=mv.length:=by
    rw[aa,af (by lia)];exact C.wide _ (aB _)
   have e2:((pus++[List.replicate pt.length 0]).getD j []).length=pt.length:=by
    rw[aa,af (by rw[au,aV];lia)];exact wg _ (aB _)
   lia
  obtain ⟨w,SL,SR⟩:=ST sts pus C lp z01;obtain ⟨zl,gl5,ql5,_⟩:=id G4;exists vV (bE.of gl5) λl6 H6 s6 n6 g6=>?_
  rw[show (1:Int)=((1:Nat):Int) from rfl,Aa] at g6;have q6:=ip ql5 1;have G6:bG K H H6 l6 ((jm sts (pus++[List.replicate pt.length 0]) mv.length).drop 1):=⟨_,g6,Paired.imp' (λ_ _ z=>cU.same z s6) q6,jg ⟨_,n6,q6⟩⟩;have lD:((jm sts (pus++[List.replicate pt.length 0]) mv.length).drop 1).length=mv.length:=by rw[ic,lL];lia
  have s16:=s15.trans s6;have gx6:=s16 _ _ gx;exists ⟨x,Z.a_System,dx,_,_,rfl,gx6,T.cl_System,T.na_ins,uf,?_⟩;walk_at "w";rw[show ((mv.length:Nat):Int)+((pt.length:Nat):Int)+1=((mv.length+pt.length+1:Nat):Int) by lia];refine ⟨l6,mv.length+pt.length+1,w,_,_,rfl,G6,by lia,by lia,λxs hx=>wL xs (jF hx),SL,λr R ps M H7 nr s7 G7 RR kp M0 ML tp=>?_⟩
  have rk:ps.length=mv.length:=by
   have:=Mm C (by rw[lD,lp]) (λj hj c hc=>?_) RR
   ·lia
   ·unfold jm bC;rw[aa (l:=List.drop 1 _),Fw,az,bo (by lia),fE 1 j];show (sts.getD (j+1) []++_++_).getD c 0=_
    have e1:(sts.getD (j+1) []).length=mv.length:=by
     rw[aa,af (by lia)];exact C.wide _ (aB _)
    rw[cz,aa,bY (by lia),<- aa]
  have Z6:=SR R ps RR rk;have lR:R.length=mv.length:=by rw[RR.1,rk]
  obtain ⟨xr,gr7,qr7,_⟩:=id G7;have lxr:=qr7.length;exists ⟨⟨_,bE.of gr7⟩,?_⟩;have s17:=s16.trans s7;refine eD (K:=K) (F:=cU K H6) (cU K H) (λxs=>xs.drop mv.length) gr7 qr7 (by lia) (λa b=>a.same b) (λa b=>a.same b) ?_ ?_
  ·rintro j xs v H8 NY NN en s8 ⟨u,rfl,_,hu⟩ k1;obtain ⟨us,gu,qu⟩:=id hu;exists vV (bE.of gu) λl8 H9 s9 n9 g9=>?_
   rw[Aa] at g9;exact k1 _ _ s9 ⟨l8,rfl,s17.none (s8.none n9),_,g9,Paired.imp' (λ_ _ z=>cA.same z s9) (ip qu mv.length)⟩
  rintro ys8 H8 r8 n8 s8 g8 pr8 nx8;have G8:bG K H H8 r8 (R.map (·.drop mv.length)):=⟨ys8,g8,pr8,jg nx8⟩;have s18:=s17.trans s8;have gx8:=s18 _ _ gx;exists ⟨x,Z.a_System,dx,_,_,rfl,gx8,T.cl_System,T.na_ins,uf,?_⟩;walk_at "w";rw[show ((pt.length:Nat):Int)+1=((pt.length+1:Nat):Int) by lia];refine ⟨r8,pt.length+1,H,_,rfl,G8,by rw[ah];lia,by lia,λxs hx=>?_,λr9 H9 n9 s9 G9=>?_⟩
  ·obtain ⟨ys,hy,rfl⟩:=ax.mp hx;rw[ic,RR.2.1 ys hy]
   lia
  have s19:=s18.trans s9;have G9':bG K H H9 r9 (fR R mv.length pt.length):=G9.weak s18;generalize hS:fR R mv.length pt.length=S9 at G9';have lS:S9.length=pt.length+1:=by rw[<- hS];unfold fR;exact iK
  have wS:∀xs∈S9,xs.length=mv.length:=λxs hx=>by
   rw[<- hS] at hx;unfold fR cm at hx;obtain ⟨j,_,rfl⟩:=ax.mp hx;rw[ah,ah,lR]
  obtain ⟨x9,g9,q9,_⟩:=id G9';have lx9:=q9.length;exists vV (bE.of g9) λlA HA sA nA gA=>?_
  rw[Mi (show x9.length=pt.length+1 by lia)] at gA;have qA:=qV q9 pt.length;have GA:bG K H HA lA (S9.take pt.length):=⟨_,gA,Paired.imp' (λ_ _ z=>cU.same z sA) qA,jg ⟨_,nA,qA⟩⟩;have s1A:=s19.trans sA;exists ⟨x,lA,H0,H,mv,pt,lk,S9.take pt.length,rfl,S.same s1A,D,GA,by rw[bZ];lia,λxs hx=>wS xs (bW hx),by rw[<- hS];exact Z6.cl,λxc HB nB sB SB=>?_⟩;obtain ⟨v,ev⟩:∃v,x9[pt.length]?=some v:=⟨_,af (by lia)⟩;obtain ⟨sd,esd,qs,rfl,_,Rs⟩:=bK q9 ev;have esd':S9.getD pt.length []=sd:=by rw[aa,esd];rfl
  have sAB:=sA.trans sB;exists cB (bE.of (sAB _ _ g9)) (Ah (k:=pt.length) (by lia) ev) ?_;have lc:(fw mv pt (S9.take pt.length)).length=mv.length:=fD;have lsd:sd.length=mv.length:=wS sd (ak esd);have s1B:=s1A.trans sB;exists ⟨xc,qs,q,_,_,pt,lk,sd,wish,rfl,SB,Cl81.sysd D,Rs.same sAB,by rw[lc,lsd],Rq.same s1B,by lia,by rw[<- esd',<- hS];exact Z6.am,λrm HC sC RC=>?_⟩;have MZ:=Z6.mz;rw[hS,esd'] at MZ;have lme:=wH (wish:=wish) (show sd.length=(fw mv pt (S9.take pt.length)).length by rw[lc,lsd]) wish.length;rw[lc] at lme;obtain ⟨me,eme⟩:∃me,vA (fw mv pt (S9.take pt.length)) sd wish wish.length=me:=⟨_,rfl⟩;rw[eme] at RC MZ lme;have s1C:=s1B.trans sC;have s2C:=((((s3.trans (s4.trans s44)).trans s6).trans s7).trans s8).trans ((s9.trans sAB).trans sC);obtain ⟨v0,ev0⟩:∃v,xb[0]?=some v:=⟨_,af (by lia)⟩;obtain ⟨p0,ep0,qp,rfl,_,Rp0⟩:=bK qb ev0;have ep0':(pus++[List.replicate pt.length (0:Rat)]).getD 0 []=p0:=by rw[aa,ep0];rfl
  rw[ep0'] at MZ;have lp0:p0.length=pt.length:=wg p0 (ak ep0);obtain ⟨vp,gp0,qp0⟩:=Rp0.same s2C;have lvp:=qp0.length;have gAC:=(sB.trans sC) _ _ gA;have qAC:=Paired.imp' (λ_ _ z=>cU.same z (sAB.trans sC)) qA;have lqA:=qAC.length;rw[bZ] at lqA;have gtC:=s2C _ _ gt;have gbC:=s2C _ _ gb
  have z0:∀z∈p0,z=0\/z=1:=λz hz=>by
   rcases aD.mp (ak ep0) with y | y
   ·exact z01 p0 y z hz
   ·rw[bB.mp y] at hz;exact .inl (gG hz)
  have RZ:=Z6.rz;rw[hS] at RZ;exists cB (bE.of gbC) (ff (j:=0) ev0) ?_;exists ⟨⟨_,bE.of gAC⟩,⟨_,bE.of gp0⟩,?_⟩;refine lV (K:=K) (xs:=x9.take pt.length) (ws:=vp) (λj ys H'=>aI HC H'/\Paired (cU K H H') ((List.zipWith (λrow b=>List.zipWith (λx y=>x - y) row (me.map λy=>b*y)) (S9.take pt.length) p0).take j) ys) (aQ (bx (by rw[bZ];lia))) (by rw[bZ];lia) ⟨aI.refl _,.nil⟩ (λj ys H' _ ⟨e,_⟩=>⟨bE.of (e _ _ gAC),bE.of (e _ _ gp0)⟩) ?_ ?_
  ·rintro j u1 u2 ys HD rD h1 h2 hlen ⟨sD,prD⟩ hrD;obtain ⟨row,er,q1,rfl,_,R1⟩:=bK qAC h1;obtain ⟨b0,eb,Nb⟩:=bK qp0 h2;have mr:=ak er;have mb:=ak eb;have sr:aI HD (upd HD rD (.tup [.ref q1,u2])):=aI.new hrD;have gr:(upd HD rD (.tup [.ref q1,u2])) rD=some (.tup [.ref q1,u2]):=aH;generalize upd HD rD (.tup [.ref q1,u2])=HE at sr gr ⊢;have sCE:=sD.trans sr;exists ⟨u2,rm,b0,me,rfl,Nb.same sCE,Pn (z0 b0 mb),RC.same sCE,by lia,λz hz=>(MZ z hz).1,λt6 H6 n6 s6 R6=>?_⟩;exists ⟨q1,t6,row,_,rfl,R1.same (sCE.trans s6),R6,by rw[ah,lme,wS row (bW mr)],by rw[wS row (bW mr)];lia,RZ row mr,λz hz=>?_,λt7 H7 n7 s7 R7=>?_⟩
   ·obtain ⟨y,hy,rfl⟩:=ax.mp hz;exact (MZ y hy).2 b0 mb
   refine ⟨(sCE.trans s6).trans s7,?_⟩;have ez:(List.zipWith (λrow b=>List.zipWith (λx y=>x - y) row (me.map λy=>b*y)) (S9.take pt.length) p0)[j]?=some (List.zipWith (λx y=>x - y) row (me.map λy=>b0*y)):=by rw[bF,er,eb]
   rw[take_snoc ez];exact b9 (Paired.imp' (λ_ _ z=>cU.same z ((sr.trans s6).trans s7)) prD) (.cons ⟨t7,rfl,s1C.none (sCE.none (s6.none n7)),R7⟩ .nil)
  rintro ys HD hy ⟨sD,prD⟩ rr nrr;rw[aE (by rw[aP,bZ,bZ];lia)] at prD
  have wG:∀xs∈List.zipWith (λrow b=>List.zipWith (λx y=>x - y) row (me.map λy=>b*y)) (S9.take pt.length) p0,xs.length=mv.length:=λxs hx=>by
   obtain ⟨j,hj,rfl⟩:=bO hx;rw[dh,aP,ah,lme,wS _ (bW (aB _)),yr]
  obtain ⟨Ma,Mb,a0,ab,b0',bb,fa,fb⟩:=Z6.gz;rw[hS,esd',eme] at fb;rw[hS] at fa;refine k Rk pk rr _ _ ((s1C.trans sD).trans (aI.new nrr)) KR full (s1C.none (sD.none nrr)) ⟨ys,aH,Paired.imp' (λ_ _ z=>cU.same z (aI.new nrr)) prD,jg ⟨_,nrr,prD⟩⟩ (by rw[aP,bZ];lia) wG ⟨NP D C lp RR rk lq (by rw[hS]) (by rw[hS];exact esd'.symm) eme.symm ep0'.symm rfl,Ma*Mb,cv a0 b0',ag (aX ab bb) (by rw[<- bh];exact dW (by decide)),λxs hx z hz=>?_⟩;obtain ⟨j,hj,rfl⟩:=bO hx;rw[dh] at hz;obtain ⟨c9,hc9,rfl⟩:=bO hz;rw[dh,dN];have f1:=(fa _ (aB (l:=S9.take pt.length) (n:=j) (by rw[aP] at hj;lia)) _ (aB (n:=c9) (by rw[aP] at hc9;lia))).dvd (mQ Ma Mb);have f2:=(fb _ (aB (l:=me) (n:=c9) (by rw[aP,ah] at hc9;lia))).dvd (cS Mb Ma);have mj:=aB (l:=p0) (n:=j) (by rw[aP] at hj;lia);rw[show (2:Nat)^3001=2^3000+2^3000 by rw[cY,Nat.mul_two]];exact Qz f1 f2 (z0 _ mj)
theorem CK:aR ["_law_system","_law_wish"] ["_law_system","_law_wish"] (aK qL):=by walk_at "d"
theorem ux (T:Txt K mg Z) (ptree:P.given.tree=none):cD P w K mg base fN 11 Z.xH Z.xo ["_law_system","_law_wish"] (D7 K Z.a_System):=by
 have J0:=FX (P:=P) (w:=w) (base:=base) T ptree;refine T.gY.F.ok CK (λvs H Q E h=>?_) (λcdv A outer s H vs Q E hr h=>?_)
 ·obtain ⟨sy,wq,H0,mv,pt,lk,R,ps,wish,rfl,_⟩:=h;rfl
 ·obtain ⟨sy,wq,H0,mv,pt,lk,R,ps,wish,rfl,A,Rw,lw,⟨Mw,w0,wb,tw⟩,RR,ky,kn⟩:=h
  refine ⟨_,(aA (Qa rfl rfl (λ_ _ _ hX=>(aA (aY (dR (ae v5 (ae (Lc J0 (hr.mono (by decide)) rfl T.lE.m T.lE.F.kp T.lE.b .nil hX (ae (pv 0) (ae (pv 1) ai))) ai))))))
   (Si rfl rfl T.mg_NotSteered (λ_=>(aA (aY (dR (ae v5 (ae FT ai)))))) Qu))),?_⟩
  refine aN (σ:=[some (.ref sy),some (.ref wq)]) rfl ?_;obtain ⟨a,c,KF,_,_⟩:=A.Y.un.kf;exists Pz ?_;exists K6 ?_;exists ⟨sy,wq,a,c,H0,mv,pt,lk,wish,rfl,A.S,A.D,A.F,KF,λR ps RR=>⟨(A.Y.un.sw RR).1,(A.Y.un.sw RR).2.1⟩,A.Y.cs,A.Y.st wish Mw lw w0 wb tw,Rw,lw,λR' ps' r7 G H7 s7 RR' full n7 G7 lG wG KP=>?_,λR' ps' r dq H7 RR' lt s7 n7 R7 g7=>?_⟩
  ·obtain ⟨_,rfl⟩:=RR.same RR';exists cK λt H8 s8 g8=>?_
   exact ky full t r7 G H8 (s7.trans s8) g8 n7 (G7.same s8) lG wG KP
  ·obtain ⟨_,rfl⟩:=RR.same RR';refine .inl ⟨T.xm_NotSteered_NotSteered,λea=>?_⟩;exists cK λt H8 s8 g8=>?_
   exact kn lt t H8 (s7.trans s8) g8
theorem my:aR ["_law_thing","_law_part"] ["_law_thing"] (aK jJ):=by walk_at "d"
theorem uy (T:Txt K mg Z) (ptree:P.given.tree=none):cD P w K mg base fN 2 Z.oa Z.nV ["_law_thing"] (Jm K):=by
 have gU:=mG (P:=P) (w:=w) (base:=base) T ptree;refine T.jk.F.ok my (λvs H Q E h=>?_) (λcdv A outer s H vs Q E hr h=>?_)
 ·obtain ⟨x,n,rfl,_⟩:=h;rfl
 ·obtain ⟨x,n,rfl,⟨p,rfl,hp⟩,hn,k⟩:=h
  refine ⟨_,(ar (dn (PW.pt (pP (jK (jc (yh rfl T.isinstance PyProof.Rows.boot_tuple T.tuple (pv 0)))) (kr (bu wZ (bL bw (by rfl) T.len bg (ae (pv 0) ai)) ao (bD _))))) (aA (aY mE)) cu)
   (ar (eV PassesOwn.never rfl (Qb (pv 0)) (aM (i:=1) my.nd)
    (aA (dn (PW.pt (pP (jK (jc (yh rfl T.isinstance PyProof.Rows.boot_int T.int (pv 1)))) (kr (jc (yh rfl T.isinstance PyProof.Rows.boot_bool T.bool (pv 1)))))) (aA (aY mE)) cu)))
   (aA (aY (C0 (gW ze (bf cw (pv 0) ao) ao (bD _)) (yY (gW (FU (Gh hr)) (cO gU hr T.gN (ae (bf cw (pv 0) ao) (ae (bf cw (pv 0) ao) ai))) (pv 0) (bD _)))))))),?_⟩
  refine aN (σ:=[some (.ref p),none]) rfl ?_;obtain ⟨hb,hg,_,hs⟩:=hn;exists .inr ⟨p,_,_,rfl,hp,rfl,?_⟩;exists ⟨_,_,rfl,.inr hp,?_⟩;walk_at "w"
  try refine NQ ?_
  exists ⟨⟨_,hp⟩,?_⟩;refine NV (K:=K) (a:=p) (xs:=[.int n.1,.int n.2]) (λi σ' H'=>H'=H/\∃x,σ'=[some (.ref p),x]) ⟨rfl,none,rfl⟩ (λi σ' H' _ ⟨e,_⟩=>by subst e;exact hp) ?_ ?_
  ·rintro i x σ' H' hx ⟨rfl,y,rfl⟩
   obtain ⟨z,rfl⟩:∃z,x=V.int z:=by
    have hm:x∈[V.int n.1,V.int n.2]:=ak hx;simp only[ay,aG,or_false] at hm;rcases hm with e | e
    ·exact ⟨_,e⟩
    ·exact ⟨_,e⟩
   exists .inl ⟨_,_,.int z,rfl,?_⟩;exists .inl ⟨_,_,.int z,rfl,?_⟩;exists ⟨rfl,_,rfl⟩
  ·rintro σ' H' ⟨rfl,x,rfl⟩;walk_at "w";rw[decide_eq_true hb];exists ⟨n.1,n.2,rfl,hb,hs.mono (by decide),λr H' s1 h'=>?_⟩;obtain ⟨e1,e2⟩:=Qk hb hg;exists ⟨_,_,Sa,(lo n.1 n.2,hi n.1 n.2),n,by decide,⟨r,rfl,pZ.of h'⟩,⟨p,rfl,s1.sqt hp⟩,?_⟩;rw[e1,e2,decide_eq_true rfl];exact k _ s1
theorem yO:aR ["_law_thing","_law_many"] ["_law_thing","_law_many"] (aK m8):=by walk_at "d"
theorem zy (T:Txt K mg Z) (ptree:P.given.tree=none):cD P w K mg base fN 3 Z.sU Z.sJ ["_law_thing","_law_many"] (vH K):=by
 have wU:=uy (P:=P) (w:=w) (base:=base) T ptree;refine T.lN.F.ok yO (λvs H Q E h=>?_) (λcdv A outer s H vs Q E hr h=>?_)
 ·obtain ⟨p,ns,rfl,_⟩:=h;rfl
 ·obtain ⟨p,ns,rfl,hp,hl,hn,k⟩:=h
  refine ⟨_,(ar (dn (PW.pt (pP (jK (jc (v7 rfl T.isinstance PyProof.Rows.boot_list T.list (pv 0)))) (kr (bu wZ (bL bw (by rfl) T.len bg (ae (pv 0) ai)) (pv 1) (bD _))))) (aA (aY mE)) cu)
   (aA (aY (bL (Ad rfl) (by rfl) T.all PyProof.Rows.boot_all (ae (cy ["_law_one"] [] [] (cL (pv 0)) (λ_=>(aM (i:=0) (show ND9 ["_law_one"] by decide +kernel))) (λ_=>cF) (λ_=>(cO wU hr T.jk (ae (pv 0) ai)))) ai))))),?_⟩
  refine aN (σ:=[some (.ref p),some (.int ns.length)]) rfl ?_;obtain ⟨xs,gx,qx⟩:=id hp;have lx:=qx.length;exists ⟨_,_,.lst gx,rfl,?_⟩;exists ⟨_,_,rfl,.inl (bE.of gx),?_⟩;walk_at "w";rw[show ((xs.length:Nat):Int)=(ns.length:Nat) by rw[lx],decide_eq_true rfl];exists ⟨⟨_,bE.of gx⟩,?_⟩;refine dY (K:=K) (xs:=xs) (λi ys H'=>aI H H'/\ys=List.replicate i (.bl true)) (aQ (bx (by lia))) ⟨aI.refl _,rfl⟩ (λi ys H' _ ⟨s,_⟩=>bE.of (s _ _ gx)) ?_ ?_
  ·rintro i x ys H' hx hlen ⟨s,rfl⟩;obtain ⟨n,en,z⟩:=bK qx hx;exists ⟨x,n,rfl,s.num z,hn n (ak en),λH2 s2=>⟨s.trans s2,by rw[Cr]⟩⟩
  ·rintro ys H' hy ⟨s,rfl⟩ l hl';exists ⟨l,List.replicate xs.length true,rfl,bE.of (by rw[aH];simp),?_⟩;have e4:(List.replicate xs.length true).all id=true:=by simp
   rw[e4];exact k _ (s.trans (aI.new hl'))
theorem xV:aR ["_law_thing","_law_many","_law_wide"] ["_law_thing","_law_many","_law_wide"] (aK kX):=by walk_at "d"
theorem xY (T:Txt K mg Z) (ptree:P.given.tree=none):cD P w K mg base fN 4 Z.rJ Z.rE ["_law_thing","_law_many","_law_wide"] (yG K):=by
 have A9:=zy (P:=P) (w:=w) (base:=base) T ptree;refine T.ks.F.ok xV (λvs H Q E h=>?_) (λcdv A outer s H vs Q E hr h=>?_)
 ·obtain ⟨p,rows,m,rfl,_⟩:=h;rfl
 ·obtain ⟨p,rows,m,rfl,hp,hl,hm,hn,k⟩:=h
  refine ⟨_,(ar (dn (PW.pt (pP (jK (jc (v7 rfl T.isinstance PyProof.Rows.boot_list T.list (pv 0)))) (kr (bu wZ (bL bw (by rfl) T.len bg (ae (pv 0) ai)) (pv 1) (bD _))))) (aA (aY mE)) cu)
   (aA (aY (bL (Ad rfl) (by rfl) T.all PyProof.Rows.boot_all (ae (cy ["_law_row_here"] ["_law_wide"] [2] (cL (pv 0)) (λ_=>(aM (i:=0) (show ND9 ["_law_row_here","_law_wide"] by decide +kernel))) (λ_=>cF) (λ_=>(cO A9 hr T.lN (ae (pv 0) (ae (pv 1) ai))))) ai))))),?_⟩
  refine aN (σ:=[some (.ref p),some (.int rows.length),some (.int m)]) rfl ?_;obtain ⟨xs,gx,qx⟩:=id hp;have lx:=qx.length;exists ⟨_,_,.lst gx,rfl,?_⟩;exists ⟨_,_,rfl,.inl (bE.of gx),?_⟩;walk_at "w";rw[show ((xs.length:Nat):Int)=(rows.length:Nat) by rw[lx],decide_eq_true rfl];exists ⟨⟨_,bE.of gx⟩,?_⟩;refine dY (K:=K) (xs:=xs) (λi ys H'=>aI H H'/\ys=List.replicate i (.bl true)) (aQ (bx (by lia))) ⟨aI.refl _,rfl⟩ (λi ys H' _ ⟨s,_⟩=>bE.of (s _ _ gx)) ?_ ?_
  ·rintro i x ys H' hx hlen ⟨s,rfl⟩;obtain ⟨ns,en,q,rfl,z⟩:=bK qx hx;obtain ⟨e1,e2⟩:=hn ns (ak en);exists ⟨q,ns,by rw[e1],z.same s,by lia,e2,λH2 s2=>⟨s.trans s2,by rw[Cr]⟩⟩
  ·rintro ys H' hy ⟨s,rfl⟩ l hl';exists ⟨l,List.replicate xs.length true,rfl,bE.of (by rw[aH];simp),?_⟩;have e4:(List.replicate xs.length true).all id=true:=by simp
   rw[e4];exact k _ (s.trans (aI.new hl'))
theorem mB:aR ["_law_one","_law_other","_law_total","_law_k"] ["_law_one","_law_other"] (aK tE):=by walk_at "d"
theorem EE (T:Txt K mg Z) (ptree:P.given.tree=none):cD P w K mg base fN 3 Z.Ap Z.z8 ["_law_one","_law_other"] (CD K):=by
 have jS:=qX (P:=P) (w:=w) (base:=base) T ptree;have iV:=oY (P:=P) (w:=w) (base:=base) T ptree;refine T.rd.F.ok mB (λvs H Q E h=>?_) (λcdv A outer s H vs Q E hr h=>?_)
 ·obtain ⟨p,q,xs,ys,rfl,_⟩:=h;rfl
 ·obtain ⟨p,q,xs,ys,rfl,hp,hq,hl,hz,⟨k1,j1,k2,j2,h1,h2,hkj⟩,kk⟩:=h
  refine ⟨_,(ar (a9 (i:=2) mB.nd rfl (Or.inl rfl) (dR (ae ao (ae ao ai))))
   (ar (eV PassesOwn.never rfl (cI rfl T.range (ae (bL bw (by rfl) T.len bg (ae (pv 0) ai)) ai)) (aM (i:=3) mB.nd)
    (aA (a9 (i:=2) mB.nd rfl (Or.inl rfl) (cO jS hr T.iQ (ae (pv 2) (ae (cO iV hr T.gZ (ae (bf bM (pv 0) (pv 3)) (ae (bf bM (pv 1) (pv 3)) ai))) ai))))))
   (aA (aY (pv 2))))),?_⟩
  refine aN (σ:=[some (.ref p),some (.ref q),none,none]) rfl ?_;obtain ⟨us,gu,qu⟩:=id hp;obtain ⟨ws,gw,qw⟩:=id hq;have lu:=qu.length;have lw:=qw.length;exists cK λr0 H0 s0 g0=>?_
  exists ⟨_,_,rfl,.inl (bE.of (s0 _ _ gu)),?_⟩;exists ⟨by lia,by lia,?_⟩;refine eK (n:=us.length) (λi σ' H'=>aI H H'/\∃(r:V) (v:Option V),σ'=[some (.ref p),some (.ref q),some r,v]/\cA K H' (eT (xs.take i) (ys.take i)) r) ⟨s0,_,none,rfl,cA.mk g0 rfl⟩ ?_ ?_
  ·rintro i σ' H' hi ⟨s,r,v,rfl,hr⟩;have ix:i < xs.length:=by lia
   have iy:i < ys.length:=by lia
   obtain ⟨vx,ex,nx⟩:=Kd (Paired.imp' (λ_ _ z=>z.same s) qu) ix;obtain ⟨vy,ey,ny⟩:=Kd (Paired.imp' (λ_ _ z=>z.same s) qw) iy;exists cB (bE.of (s _ _ gu)) ex ?_;exists cB (bE.of (s _ _ gw)) ey ?_;exists ⟨_,_,_,_,rfl,nx,ny,h1.szn (getD_mem ix) (by lia),h2.szn (getD_mem iy) (by lia),λr3 H3 s3 n3=>?_⟩;exists ⟨_,_,_,_,rfl,hr.same s3,n3,LZ h1 h2 hz i hkj,Lo (h1.one (getD_mem ix)) (h2.one (getD_mem iy)) hkj,λr4 H4 s4 n4=>?_⟩;exists ⟨(s.trans s3).trans s4,_,_,rfl,by rw[BN ix iy];exact n4⟩
  ·rintro σ' H' ⟨s,r,v,rfl,hr⟩;rw[aE (by lia),aE (by lia)] at hr;obtain ⟨t,rfl,ht⟩:=hr;exists kk _ H' s ⟨t,rfl,ht⟩
theorem FH:aR ["_law_grid","_law_row_here"] ["_law_grid","_law_row_here"] (aK vS):=by walk_at "d"
theorem zw (T:Txt K mg Z) (ptree:P.given.tree=none):cD P w K mg base fN 4 Z.Ci Z.BU ["_law_grid","_law_row_here"] (CC K):=by
 have GO:=EE (P:=P) (w:=w) (base:=base) T ptree;refine T.o8.F.ok FH (λvs H Q E h=>?_) (λcdv A outer s H vs Q E hr h=>?_)
 ·obtain ⟨p,q,H0,rows,ys,rfl,_⟩:=h;rfl
 ·obtain ⟨p,q,H0,rows,ys,rfl,hp,hq,hz,hl,hr1,kk⟩:=h;refine ⟨_,(aA (aY (cy ["_law_one"] ["_law_row_here"] [1] (cL (pv 0)) (λ_=>(aM (i:=0) (show ND9 ["_law_one","_law_row_here"] by decide +kernel))) (λ_=>cF) (λ_=>(cO GO hr T.rd (ae (pv 0) (ae (pv 1) ai))))))),?_⟩;refine aN (σ:=[some (.ref p),some (.ref q)]) rfl ?_;obtain ⟨xs,gx,qx,_⟩:=id hp;exists ⟨⟨_,bE.of gx⟩,?_⟩;refine eD (K:=K) (F:=cU K H0) (cA K) (λxs=>eT xs ys) gx qx hz (λa b=>a.same b) (λa b=>a.same b) ?_ ?_
  ·rintro i ns x H' NY NN en s ⟨u,rfl,_,hu⟩ k;obtain ⟨e1,e2⟩:=hr1 ns (ak en);exists ⟨u,q,ns,ys,rfl,hu,hq.same s,e1.symm,by lia,e2,λr H2 s2 h2'=>k _ _ s2 h2'⟩
  ·rintro ys' H' r hr s g pr nx;exact kk r H' hr s ⟨ys',g,pr⟩
theorem fU:aR ["_law_parts_here","_law_state","_law_puts","_law_move_here","_law_put","_law_look","_law_found","_law_k"] ["_law_parts_here","_law_state","_law_puts"] (aK qO):=by walk_at "d"
theorem C7 (T:Txt K mg Z) (ptree:P.given.tree=none):cD P w K mg base fN 5 Z.xK Z.xu ["_law_parts_here","_law_state","_law_puts"] (D9 K):=by
 have wQ:=zw (P:=P) (w:=w) (base:=base) T ptree;have kg:=oZ (P:=P) (w:=w) (base:=base) T ptree;have oi:=tK (P:=P) (w:=w) (base:=base) T ptree;refine T.o9.F.ok fU (λvs H Q E h=>?_) (λcdv A outer s H vs Q E hr h=>?_)
 ·obtain ⟨r,s0,u0,H0,mv,pt,lk,st,pu,rfl,_⟩:=h;rfl
 ·obtain ⟨r,s0,u0,H0,mv,pt,lk,st,pu,rfl,PQ,D,hs,hu,l1,l2,NX,k⟩:=h
  refine ⟨_,(ar (fV (pv 0) (vZ rfl (ck (aM (i:=3) fU.nd) (ck (aM (i:=4) fU.nd) (ck (aM (i:=5) fU.nd) fB)))))
   (ar (a9 (i:=6) fU.nd rfl (Or.inl rfl) (cO wQ hr T.o8 (ae (pv 3) (ae (pv 1) ai))))
   (ar (eV PassesOwn.never rfl (cI rfl T.range (ae (bL bw (by rfl) T.len bg (ae (pv 4) ai)) ai)) (aM (i:=7) fU.nd)
    (aA (a9 (i:=6) fU.nd rfl (Or.inl rfl) (cO kg hr T.ji (ae (pv 6) (ae (cO oi hr T.lO (ae (bf bM (pv 2) (pv 7)) (ae (bf bM (pv 4) (pv 7)) ai))) ai))))))
   (aA (aY (pv 6)))))),?_⟩
  refine aN (σ:=[some (.ref r),some (.ref s0),some (.ref u0),none,none,none,none,none]) rfl ?_;obtain ⟨m,p,l,g,n1,n2,n3,Gm,Gp,Gl⟩:=id PQ;have d1:=D.n8;have d2:=D.i4;exists ⟨m,s0,H0,mv,st,rfl,Gm,hs,by lia,by lia,λxs hx=>⟨by rw[D.mw xs hx,l1],NX.f2 xs hx⟩,λf H1 nf s1 R1=>?_⟩;obtain ⟨ps,gp,qp,_⟩:=Gp.same s1;have lp:=qp.length;exists ⟨_,_,rfl,.inl (bE.of gp),?_⟩;exists ⟨by lia,by lia,?_⟩;refine eK (n:=ps.length) (λkk σ' H'=>∃(f:Addr) (x:Option V),σ'=[some (.ref r),some (.ref s0),some (.ref u0),some (.ref m),some (.ref p),some (.ref l),some (.ref f),x]/\H f=none/\aI H1 H'/\cP K H' f (nextK mv pt st pu kk)) ⟨f,none,rfl,nf,aI.refl _,by rw[F3];exact R1⟩ ?_ ?_
  ·rintro kk σ' H' hk ⟨f',x,rfl,nf',s',R'⟩;have kp:kk < pt.length:=by lia
   have ku:kk < pu.length:=by lia
   obtain ⟨zs,gz,qz⟩:=(hu.same s1).same s';have lz:=qz.length;obtain ⟨vu,eu,nu⟩:=Kd qz ku;obtain ⟨row,vr,er,ev,mr,q,rfl,_,Rq⟩:=jM qp kp
   have er':pt[kk]=row:=by
    rw[af kp] at er;exact bU er
   have eu':pu.getD kk 0=pu[kk]:=by rw[aa,af ku];rfl
   have mu:pu.getD kk 0∈pu:=getD_mem ku;exists cB (bE.of gz) eu ?_;exists cB (bE.of (s' _ _ gp)) (ff ev) ?_;exists ⟨vu,q,_,row,rfl,nu,NX.su _ mu,Rq.same s',by rw[D.pw row mr];lia,NX.sp row mr,λr1 H2 n1' s2 R2=>?_⟩;exists ⟨f',r1,_,_,rfl,R'.same s2,R2,by rw[ah,iO,D.pw row mr],by rw[iO];lia,NX.part kk,λy hy=>?_,λr2 H3 n2' s3 R3=>?_⟩
   ·obtain ⟨y',hy',rfl⟩:=ax.mp hy;exact NX.mul _ mu row mr y' hy'
   ·exists ⟨s1.none (s'.none (s2.none n2')),(s'.trans s2).trans s3,?_⟩;have e:=F4 (st:=st) (pu:=pu) (λxs hx=>by rw[D.mw xs hx,l1]) kp ku (by rw[er'];exact D.pw row mr);rw[er',<- eu'] at e;rw[<- e];exact R3
  ·rintro σ' H' ⟨f',x,rfl,nf',s',R'⟩;rw[rT (by lia) (by lia)] at R';exists k f' H' nf' (s1.trans s') R'
theorem mW:aR ["_law_parts_here","_law_rows_here","_law_start","_law_steps","_law_states","_law_k"] ["_law_parts_here","_law_rows_here","_law_start","_law_steps"] (aK oO):=by walk_at "d"
theorem AZ (T:Txt K mg Z) (ptree:P.given.tree=none):cD P w K mg base fN 6 Z.vq Z.uX ["_law_parts_here","_law_rows_here","_law_start","_law_steps"] (Ei K):=by
 have Fg:=C7 (P:=P) (w:=w) (base:=base) T ptree;have wQ:=zw (P:=P) (w:=w) (base:=base) T ptree;refine T.nK.F.ok mW (λvs H Q E h=>?_) (λcdv A outer s H vs Q E hr h=>?_)
 ·obtain ⟨r,g,s,tt,H0,H1,mv,pt,lk,G,st,rfl,_⟩:=h;rfl
 ·obtain ⟨r,g,s,tt,H0,H1,mv,pt,lk,G,st,rfl,P0,D,Gg,lG,wG,Rs,ls,t20,KS,k⟩:=h
  refine ⟨_,(ar (a9 (i:=4) mW.nd rfl (Or.inl rfl) (eX (ae (pv 2) ai)))
   (ar (eV PassesOwn.never rfl (cI rfl T.range (ae (pv 3) ai)) (aM (i:=5) mW.nd)
    (aA (jV (BB fg eP eO kO (pv 4) (ae (cO Fg hr T.o9 (ae (pv 0) (ae (bf bM (pv 4) (mD iY ao)) (ae (cO wQ hr T.o8 (ae (pv 1) (ae (bf bM (pv 4) (mD iY ao)) ai))) ai)))) ai)))))
   (aA (aY (pv 4))))),?_⟩
  refine aN (σ:=[some (.ref r),some (.ref g),some (.ref s),some (.int tt),none,none]) rfl ?_;have d8:=D.n8;have i4:=D.i4;exists dB λsl Ha sa nsl ga=>?_
  have ssl:s≠sl:=λz=>by obtain ⟨_,g,_⟩:=Rs;rw[z,nsl] at g;cases g
  exists ⟨by lia,by lia,?_⟩;refine eK (n:=tt) (λi σ' H'=>aI H H'/\∃us y,σ'=[some (.ref r),some (.ref g),some (.ref s),some (.int tt),some (.ref sl),y]/\H' sl=some (.lst us)/\Paired (cU K (F1 sl) H') ((List.range (i+1)).map λt=>dH (fw mv pt G) t st) us) ⟨sa,[.ref s],none,rfl,ga,.cons ⟨s,rfl,Lk ssl,Rs.same sa⟩ .nil⟩ ?_ ?_
  ·rintro i σ' H2 hi ⟨s2,us,y,rfl,g2,pr2⟩;have lu:=pr2.length;rw[ah,bI] at lu;have lx:=kY (pt:=pt) (G:=G) ls i;obtain ⟨KF,NX⟩:=KS i (by lia)
   obtain ⟨zs,q,rfl,qsl,Rq⟩:∃zs q,us=zs++[V.ref q]/\q≠sl/\cP K H2 q (dH (fw mv pt G) i st):=by
    have ev:=af (show i < us.length by lia);obtain ⟨R2,e2,q,e3,e4,e5⟩:=bK pr2 ev;rw[az,bo (by lia)] at e2;cases e2;rw[e3] at ev;refine ⟨us.take i,q,?_,(λz=>off_ne (l:=sl) (by have e4':=e4;rw[z] at e4';exact e4')),e5⟩;rw[<- take_snoc ev,aE (by lia)]
   exists ⟨.inl ⟨rfl,_,bE.of g2⟩,?_⟩;exists cB (bE.of g2) (nY _ _) ?_;exists cB (bE.of g2) (nY _ _) ?_;exists ⟨g,q,H1,G,_,rfl,Gg.same s2,Rq,by lia,by lia,λxs hx=>⟨by rw[wG xs hx,lx],KF xs hx⟩,λr3 H3 n3 s3 R3=>?_⟩;have R3:cP K H3 r3 (kb G (dH (fw mv pt G) i st)):=R3;exists ⟨r,q,r3,H0,mv,pt,lk,_,_,rfl,P0.same (s2.trans s3),D,Rq.same s3,R3,lx,by unfold kb;rw[ah,lG],NX,λr4 H4 n4 s4 R4=>?_⟩;rw[II D lx lG wG] at R4;have s34:=s3.trans s4;have g4:=s34 _ _ g2;have r4l:r4≠sl:=λz=>by rw[z,s3 _ _ g2] at n4;cases n4
   exists kM g4 (bx (by lia)) ?_;refine ⟨(s2.trans s34).after nsl,_,_,rfl,aH,?_⟩;rw[AB,dE];exact b9 (Paired.imp' (λ_ _ z=>cU.updL (cU.same z s34) g4 off_ne) pr2) (.cons (cU.updL ⟨r4,rfl,Lk r4l,R4⟩ g4 off_ne) .nil)
  rintro σ' H2 ⟨s2,us,y,rfl,g2,pr2⟩;exists k sl us H2 nsl s2 g2 pr2
theorem gi:aR ["_law_states","_law_wish","_law_n","_law_k","_law_total","_law_i"] ["_law_states","_law_wish"] (aK oN):=by walk_at "d"
theorem AY (T:Txt K mg Z) (ptree:P.given.tree=none):cD P w K mg base fN 4 Z.vo Z.uW ["_law_states","_law_wish"] (yF K):=by
 have kg:=oZ (P:=P) (w:=w) (base:=base) T ptree;have oi:=tK (P:=P) (w:=w) (base:=base) T ptree;refine T.nJ.F.ok gi (λvs H Q E h=>?_) (λcdv A outer s H vs Q E hr h=>?_)
 ·obtain ⟨l,w,n,tt,S,ws,us,H0,rfl,_⟩:=h;rfl
 ·obtain ⟨l,w,n,tt,S,ws,us,H0,rfl,gl,pl,nT,t20,Rw,lw,KS,eq,k⟩:=h
  refine ⟨_,(ar (a9 (i:=2) gi.nd rfl (Or.inl rfl) (bL bw (by rfl) T.len bg (ae (pv 1) ai)))
   (ar (eV PassesOwn.never rfl (cI rfl T.range (ae (bJ oU (bL bw (by rfl) T.len bg (ae (pv 0) ai)) (pv 2)) ai)) (aM (i:=3) gi.nd)
    (ar (a9 (i:=4) gi.nd rfl (Or.inl rfl) (bJ zd (eX (ae (dR (ae ao (ae ao ai))) ai)) (pv 2)))
   (ar (eV PassesOwn.never rfl (cI rfl T.range (ae (pv 2) ai)) (aM (i:=5) gi.nd)
    (aA (a9 (i:=4) gi.nd rfl (Or.inl rfl) (cO kg hr T.ji (ae (pv 4) (ae (cO oi hr T.lO (ae (bf bM (pv 1) (pv 5)) (ae (bf bM (pv 0) (bJ eJ (pv 3) (pv 5))) ai))) ai))))))
   (aA (dn (bu (C2 (Gh hr)) (pv 4) (bf bM (pv 0) (bJ eJ (pv 3) (pv 2))) (bD _)) (aA (aY mE)) cu)))))
   (aA (aY mE)))),?_⟩
  refine aN (σ:=[some (.ref l),some (.ref w),none,none,none,none]) rfl ?_;have lu:=pl.length;rw[ah,bI] at lu
  have at_:∀j,j<=tt->∃q,E6 us (j:Int)=some (.ref q)/\cP K H q (S j):=λj hj=>by
   have ev:=af (show j < us.length by lia);obtain ⟨R2,e2,q,e3,e4,e5⟩:=bK pl ev;rw[az,bo (by lia)] at e2;cases e2;rw[e3] at ev;exact ⟨q,ff ev,e5⟩
  obtain ⟨wv,gwv,qwv⟩:=id Rw;have lwv:=qwv.length;exists ⟨_,_,rfl,.inl (bE.of gwv),?_⟩;rw[<- lwv,lw];exists ⟨_,_,rfl,.inl (bE.of gl),?_⟩;rw[<- lu];exists ⟨by lia,by lia,?_⟩;rw[show (((tt+1:Nat):Int) - (n:Int)).toNat=tt+1 - n by lia];refine eK (n:=tt+1 - n) (λi σ' H'=>aI H H'/\∃y1 y2 y3,σ'=[some (.ref l),some (.ref w),some (.int n),y1,y2,y3]) ⟨aI.refl _,_,_,_,rfl⟩ ?_ ?_
  ·rintro u σ' H3 hu ⟨s3,y1,y2,y3,rfl⟩;exists cK λt4 H4 s4 g4=>?_
   exists dB λl5 H5 s5 n5 g5=>?_
   exists yU g5 (by lia) λtot H6 s6 n6 g6=>?_
   have s46:=s5.trans s6;have s26:=s3.trans (s4.trans s46)
   have Rt:cP K H6 tot (GX ((List.range n).map λi=>S (u+i)) ws n 0):=by
    rw[MF];exact ⟨_,g6,k6 (cA.mk (q:=0) (s46 _ _ g4) rfl) n⟩
   exists ⟨by lia,by lia,?_⟩;refine eK (n:=n) (λi σ' H'=>aI H H'/\∃tot y3,σ'=[some (.ref l),some (.ref w),some (.int n),some (.int u),some (.ref tot),y3]/\cP K H' tot (GX ((List.range n).map λi=>S (u+i)) ws n i)) ⟨s26,tot,_,rfl,Rt⟩ ?_ ?_
   ·rintro i σ' H7 hi ⟨s7,tot7,y7,rfl,R7⟩;obtain ⟨vx,ex,nx⟩:=Kd (Paired.imp' (λ_ _ z=>cA.same z s7) qwv) (show i < ws.length by lia);have mw:ws.getD i 0∈ws:=getD_in (by lia);obtain ⟨q,eq7,Rq⟩:=at_ (u+i) (by lia);exists cB (bE.of (s7 _ _ gwv)) ex ?_;walk_at "w";rw[show ((u:Int)+(i:Int))=((u+i:Nat):Int) by lia];refine cB (bE.of (s7 _ _ gl)) eq7 ?_;exists ⟨_,q,_,_,rfl,nx,KS.sw _ mw,Rq.same s7,by rw[KS.len];lia,KS.sz _ (by lia),λr8 H8 n8 s8 R8=>?_⟩;exists ⟨tot7,r8,_,_,rfl,R7.same s8,R8,by rw[ah,sY,KS.len],by rw[sY];lia,KS.tot u i (by lia) (by lia),λy hy=>?_,λr9 H9 n9 s9 R9=>?_⟩
    ·obtain ⟨y',hy',rfl⟩:=ax.mp hy;exact KS.mul _ mw _ (by lia) y' hy'
    exists ⟨(s7.trans s8).trans s9,r9,_,rfl,?_⟩;have e1:((List.range n).map λi=>S (u+i))[i]?=some (S (u+i)):=by rw[az,bo hi];rfl
    have e2:ws[i]?=some (ws.getD i 0):=by rw[aa,af (show i < ws.length by lia)];rfl
    rw[<- MG e1 e2 (KS.len _)];exact R9
   rintro σ' H7 ⟨s7,tot7,y7,rfl,R7⟩
   have e7:GX ((List.range n).map λi=>S (u+i)) ws n n=S (u+n):=by
    have:=eq u;unfold Ou at this;rwa [lw] at this
   rw[e7] at R7;obtain ⟨q,eq7,Rq⟩:=at_ (u+n) (by lia);walk_at "w";rw[show ((u:Int)+(n:Int))=((u+n:Nat):Int) by lia];refine cB (bE.of (s7 _ _ gl)) eq7 ?_;exists ⟨_,_,uE,_,_,by decide,R7.kind,(Rq.same s7).kind,?_⟩;rw[decide_eq_true rfl];exists ⟨s7,_,_,_,rfl⟩
  rintro σ' H3 ⟨s3,y1,y2,y3,rfl⟩;exists k _ s3
theorem i8:aR ["_law_parts_here","_law_system","_law_wish","_law_start","_law_n","_law_kind","_law_rows_here","_law_states"] ["_law_parts_here","_law_system","_law_wish","_law_start"] (aK qR):=by walk_at "d"
theorem Dc (T:Txt K mg Z) (ptree:P.given.tree=none):cD P w K mg base fN 12 Z.xO Z.xy ["_law_parts_here","_law_system","_law_wish","_law_start"] (Bx K Z.a_System):=by
 have kd:=ux (P:=P) (w:=w) (base:=base) T ptree;have Aw:=xY (P:=P) (w:=w) (base:=base) T ptree;have DS:=AZ (P:=P) (w:=w) (base:=base) T ptree;have DR:=AY (P:=P) (w:=w) (base:=base) T ptree;refine T.pA.F.ok i8 (λvs H Q E h=>?_) (λcdv A outer s H vs Q E hr h=>?_)
 ·obtain ⟨r,sy,wq,s,N,M1,M2,Vx,H0,H1,mv,pt,lk,R,ps,wish,st,rfl,_⟩:=h;rfl
 ·obtain ⟨r,sy,wq,s,N,M1,M2,Vx,H0,H1,mv,pt,lk,R,ps,wish,st,rfl,P0,A,n4,X,Rw,lw,WS,Rs,ls,N0,Nb,fs,RR,full,k⟩:=h
  refine ⟨_,(ar (a9 (i:=4) i8.nd rfl (Or.inl rfl) (bL bw (by rfl) T.len bg (ae (bf cw (pv 0) ao) ai)))
   (ar (fV (cO kd hr T.gY (ae (pv 1) (ae (pv 2) ai))) (vZ rfl (ck (aM (i:=5) i8.nd) (ck (aM (i:=6) i8.nd) fB))))
   (ar (dn (PW.pt (pP (bu eU (pv 5) v5 (bD _)) (kr (jK (jc (cO Aw hr T.ks (ae (pv 6) (ae (bL bw (by rfl) T.len bg (ae (bf cw (pv 0) ao) ai)) (ae (pv 4) ai))))))))) (aA (aY mE)) cu)
   (ar (a9 (i:=7) i8.nd rfl (Or.inl rfl) (cO DS hr T.nK (ae (pv 0) (ae (pv 6) (ae (pv 3) (ae (bJ eJ (pv 4) ao) ai))))))
   (ar (dn (jK (jc (cO DR hr T.nJ (ae (pv 7) (ae (pv 2) ai))))) (aA (aY mE)) cu)
   (ar (dn (PW.pt (jb (bu (FU (Gh hr)) (pv 2) (bJ zd (eX (ae (dR (ae ao (ae ao ai))) ai)) (pv 4)) (bD _)) (jU (bu (C2 (Gh hr)) (kZ oy (pv 7) (oR (pv 4)) oS) (bJ zd (eX (ae (bJ zd (eX (ae (dR (ae ao (ae ao ai))) ai)) (pv 4)) ai)) ao) (bD _))))) (aA (aY mE)) cu)
   (aA (aY (RS (gW (C2 (Gh hr)) (pv 2) (cy ["_law_k"] [] [] (cI rfl T.range (ae (pv 4) ai)) (λ_=>(aM (i:=0) (show ND9 ["_law_k"] by decide +kernel))) (λ_=>cF) (λ_=>(dR (ae (iN nX (by rfl) T.int PyProof.Rows.boot_int (ae (gW eU (pv 0) ao (bD _)) ai)) (ae ao ai))))) (bD _)) (yY (gW (FU (Gh hr)) (bf bM (pv 7) (pv 4)) (pv 3) (bD _)))))))))))),?_⟩
  refine aN (σ:=[some (.ref r),some (.ref sy),some (.ref wq),some (.ref s),none,none,none,none]) rfl ?_;have D:=A.D;have d4:=D.i4;obtain ⟨m,p,l,gt,mn,pn,ln,Gm,Gp,Gl⟩:=id P0;obtain ⟨um,gm,qm,_⟩:=id Gm;have lum:=qm.length;exists ⟨_,_,rfl,.inl (bE.of gm),?_⟩;rw[<- lum];exists ⟨sy,wq,H1,mv,pt,lk,R,ps,wish,rfl,A,Rw,lw,WS,RR,λ_ t2 g G H2 s2 g2 ng Gg lG wG KP=>?_,λlt=>absurd full (by lia)⟩;obtain ⟨KP,Mg,Mg0,Mgb,fG⟩:=KP;obtain ⟨⟨NT,NT0,NTb,fT⟩,KS⟩:=Mq (T:=mv.length+2) X D ls lG wG N0 Nb fs Mg0 Mgb fG (by lia);have gt2:=s2 _ _ gt;obtain ⟨up,gp,qp,_⟩:=Gp.same s2;have lup:=qp.length;have szG:∀xs∈G,∀z∈xs,j4 z:=λxs hx z hz=>kl (Tp.of (fG xs hx z hz) (W:=2^(3001+6000)) (by rw[bh];exact cN _ Mgb)) Mg0 (ag Mgb (dW (by decide))) (dW (by decide))
  have lm1:(G.map (List.map nm)).length=pt.length:=by rw[ah];exact lG
  walk_at "w";rw[decide_eq_false (show ¬(Str.ofString "yes"=Str.ofString "no") by decide)];exists ⟨_,_,rfl,.inl (bE.of gp),?_⟩;rw[<- lup];exists ⟨g,_,mv.length,by rw[lm1],Gg.gridK,by rw[lm1];lia,by lia,λns' hx=>?_,λH3 s3=>?_⟩
  ·obtain ⟨xs,mx,rfl⟩:=ax.mp hx;refine ⟨by rw[ah];exact wG xs mx,λv hv=>?_⟩;obtain ⟨v,mv',rfl⟩:=ax.mp hv;exact CA (szG xs mx v mv')
  have s03:=s2.trans s3;walk_at "w";rw[show ((mv.length:Int)+2)=((mv.length+2:Nat):Int) by lia];refine ⟨r,g,s,mv.length+2,H0,_,mv,pt,lk,G,st,rfl,P0.same s03,D,Gg.same s3,lG,wG,Rs.same s03,ls,by lia,KS,λsl us H4 nsl s4 gsl psl=>?_⟩;have s04:=s03.trans s4;have lus:=psl.length;rw[ah,bI] at lus;have lenS:∀t,(dH (fw mv pt G) t st).length=mv.length:=λt=>kY ls t
  have eqS:=ON (st:=st) ls lw KP;have K5:QR mv.length (mv.length+2) (λt=>dH (fw mv pt G) t st) wish:=NO lenS (by lia) NT0 NTb fT WS lw (by lia);exists ⟨sl,wq,mv.length,mv.length+2,λt=>dH (fw mv pt G) t st,wish,us,_,rfl,gsl,psl,by lia,by lia,Rw.same s04,lw,K5,eqS,λH5 s5=>?_⟩;have s05:=s04.trans s5;have gsl5:=s5 _ _ gsl;have psl5:Paired (cU K (F1 sl) H5) ((List.range (mv.length+2+1)).map λt=>dH (fw mv pt G) t st) us:=Paired.imp' (λ_ _ z=>cU.same z s5) psl;exists cK λt6 H6 s6 g6=>?_
  exists dB λl7 H7 s7 n7 g7=>?_
  exists yU g7 (by lia) λtot H8 s8 n8 g8=>?_
  have s58:=(s6.trans s7).trans s8;have Rt:cP K H8 tot (List.replicate mv.length 0):=⟨_,g8,k6 (cA.mk (q:=0) ((s7.trans s8) _ _ g6) rfl) mv.length⟩;exists ⟨_,_,uE,wish,List.replicate mv.length 0,by decide,(Rw.same (s05.trans s58)).kind,Rt.kind,?_⟩;by_cases z1:wish=List.replicate mv.length 0
  ·rw[decide_eq_true z1];exists vV (bE.of (s58 _ _ gsl5)) λlb H9 s9 nb gb=>?_
   rw[Aa] at gb;have qb:=Paired.imp' (λ_ _ z=>cU.same z (s58.trans s9)) (ip psl5 mv.length);exists cK λt10 H10 s10 g10=>?_
   exists dB λl11 H11 s11 n11 g11=>?_
   exists yU g11 (by lia) λt12 H12 s12 n12 g12=>?_
   have Rt2:cP K H12 t12 (List.replicate mv.length 0):=⟨_,g12,k6 (cA.mk (q:=0) ((s11.trans s12) _ _ g10) rfl) mv.length⟩;exists dB λl13 H13 s13 n13 g13=>?_
   exists yU (k:=3) g13 (by decide) λt14 H14 s14 n14 g14=>?_
   have s9e:=(((s10.trans s11).trans s12).trans s13).trans s14;have G1:Gf.R K H14 (.ref lb) (((List.range (mv.length+2+1)).map λt=>dH (fw mv pt G) t st).drop mv.length):=⟨lb,_,rfl,bE.of (s9e _ _ gb),Paired.imp' (λ_ _ ⟨q,a,_,c⟩=>by rw[a];exact (c.same s9e).kind) qb⟩;have G2:Gf.R K H14 (.ref t14) (List.replicate 3 (List.replicate mv.length 0)):=⟨t14,_,rfl,bE.of g14,show Paired (λa x=>uE.R K H14 x a) _ _ from .cons (Rt2.same (s13.trans s14)).kind (.cons (Rt2.same (s13.trans s14)).kind (.cons (Rt2.same (s13.trans s14)).kind .nil))⟩;exists ⟨_,_,Gf,_,_,by decide,G1,G2,?_⟩;rw[decide_eq_true (FO ls lw KP z1)];have s59:=(s58.trans s9).trans s9e;exists ⟨by lia,by lia,?_⟩;refine iS (n:=mv.length) (cA K) (λj=>if j=0 then (1:Rat) else 0) (by lia) (λa b=>a.same b) ?_ ?_
   ·rintro j Hb NY NN hj sa k1;exists cK λtb Hc sc gc=>k1 _ _ sc (cA.mk gc ?_)
    by_cases z:j=0
    ·rw[if_pos z,decide_eq_true (by lia)];rfl
    ·rw[if_neg z,decide_eq_false (by lia)];rfl
   rintro zs Hd ul nul sd gu pru _;have Ru:cP K Hd ul ((List.range mv.length).map λj=>if j=0 then (1:Rat) else 0):=⟨zs,gu,pru⟩;have s0d:=(s05.trans s59).trans sd;exists ⟨_,_,uE,wish,_,by decide,(Rw.same s0d).kind,Ru.kind,?_⟩;by_cases z2:wish=(List.range mv.length).map λj=>if j=0 then (1:Rat) else 0
   ·rw[decide_eq_true z2];obtain ⟨vn,evn⟩:∃v,us[mv.length]?=some v:=⟨_,af (by lia)⟩;obtain ⟨Rn,en,qn,rfl,_,Rqn⟩:=bK psl5 evn;rw[az,bo (by lia)] at en;cases en;have eS:dH (fw mv pt G) mv.length st=st:=Bg ls lw KP z2;exists cB (bE.of ((s59.trans sd) _ _ gsl5)) (ff evn) ?_;exists ⟨_,_,uE,_,st,by decide,(Rqn.same (s59.trans sd)).kind,(Rs.same s0d).kind,?_⟩;rw[decide_eq_true eS];exact k _ s0d
   ·rw[decide_eq_false z2];exists k _ s0d
  ·rw[decide_eq_false z1];have s59:=s58;exists ⟨by lia,by lia,?_⟩;refine iS (n:=mv.length) (cA K) (λj=>if j=0 then (1:Rat) else 0) (by lia) (λa b=>a.same b) ?_ ?_
   ·rintro j Hb NY NN hj sa k1;exists cK λtb Hc sc gc=>k1 _ _ sc (cA.mk gc ?_)
    by_cases z:j=0
    ·rw[if_pos z,decide_eq_true (by lia)];rfl
    ·rw[if_neg z,decide_eq_false (by lia)];rfl
   rintro zs Hd ul nul sd gu pru _;have Ru:cP K Hd ul ((List.range mv.length).map λj=>if j=0 then (1:Rat) else 0):=⟨zs,gu,pru⟩;have s0d:=(s05.trans s59).trans sd;exists ⟨_,_,uE,wish,_,by decide,(Rw.same s0d).kind,Ru.kind,?_⟩;by_cases z2:wish=(List.range mv.length).map λj=>if j=0 then (1:Rat) else 0
   ·rw[decide_eq_true z2];obtain ⟨vn,evn⟩:∃v,us[mv.length]?=some v:=⟨_,af (by lia)⟩;obtain ⟨Rn,en,qn,rfl,_,Rqn⟩:=bK psl5 evn;rw[az,bo (by lia)] at en;cases en;have eS:dH (fw mv pt G) mv.length st=st:=Bg ls lw KP z2;exists cB (bE.of ((s59.trans sd) _ _ gsl5)) (ff evn) ?_;exists ⟨_,_,uE,_,st,by decide,(Rqn.same (s59.trans sd)).kind,(Rs.same s0d).kind,?_⟩;rw[decide_eq_true eS];exact k _ s0d
   ·rw[decide_eq_false z2];exists k _ s0d
theorem jH:aR ["_law_script","_law_bag_here","_law_n","_law_ins","_law_outs","_law_wide","_law_parts_here","_law_system","_law_far","_law_wishes","_law_wish"] ["_law_script"] (aK KG):=by walk_at "d"
theorem Qg (T:Txt K mg Z) (ptree:P.given.tree=none):cD P w K mg base fN 13 Z.O1 Z.O0 ["_law_script"] (yE K):=by
 have GP:=EF (P:=P) (w:=w) (base:=base) T ptree;have DO:=AV (P:=P) (w:=w) (base:=base) T ptree;have bS:=gX (P:=P) (w:=w) (base:=base) T ptree;have DP:=AW (P:=P) (w:=w) (base:=base) T ptree;have Fi:=C9 (P:=P) (w:=w) (base:=base) T ptree;have iJ:=qY (P:=P) (w:=w) (base:=base) T ptree;have kd:=ux (P:=P) (w:=w) (base:=base) T ptree;have Fj:=Dc (P:=P) (w:=w) (base:=base) T ptree;refine T.O5.ok jH (λvs H Q E h=>?_) (λcdv A outer s H vs Q E hr h=>?_)
 ·obtain ⟨a0,ns,rfl,_⟩:=h;rfl
 ·obtain ⟨a0,ns,rfl,hS,hlen,k⟩:=h
  refine ⟨_,(ar (a9 (i:=1) jH.nd rfl (Or.inl rfl) (cO GP hr T.rf (ae (pv 0) ai)))
   (ar (fV (cO DO hr T.nG (ae (pv 1) ai)) (vZ rfl (ck (aM (i:=2) jH.nd) (ck (aM (i:=3) jH.nd) (ck (aM (i:=4) jH.nd) (ck (aM (i:=5) jH.nd) fB))))))
   (ar (a9 (i:=2) jH.nd rfl (Or.inl rfl) (bL (rW rfl) (by rfl) T.min PyProof.Rows.boot_min (ae (pv 2) (ae (bJ eJ ao (iN nX (by rfl) T.int PyProof.Rows.boot_int (ae (gW eU (cO bS hr T.bT (ae (pv 1) (ae ao ai))) ao (bD _)) ai))) ai))))
   (ar (a9 (i:=6) jH.nd rfl (Or.inl rfl) (cO DP hr T.nH (ae (pv 1) (ae (pv 2) (ae (bL (JX rfl) (by rfl) T.max PyProof.Rows.boot_max (ae (pv 3) (ae ao ai))) (ae (pv 4) (ae (pv 5) ai)))))))
   (ar (a9 (i:=7) jH.nd rfl (Or.inl rfl) (cO Fi hr T.ph (ae (pv 6) ai)))
   (ar (a9 (i:=8) jH.nd rfl (Or.inl rfl) ao)
   (gV (dn (PW.pt (jb (bu pQ (pv 2) ao (bD _)) (jU (bu eU (cO bS hr T.bT (ae (pv 1) (ae ao ai))) ao (bD _))))) (aA (a9 (i:=8) jH.nd rfl (Or.inl rfl) ao)) cu)
   (ar (a9 (i:=9) jH.nd rfl (Or.inl rfl) (eX (ae (cO iJ hr T.gM (ae (pv 1) (ae (pv 2) (ae (pv 8) ai)))) (ae (bJ zd (eX (ae (dR (ae ao (ae ao ai))) ai)) (pv 2)) (ae (cy ["_law_k"] [] [] (cI rfl T.range (ae (pv 2) ai)) (λ_=>(aM (i:=0) (show ND9 ["_law_k"] by decide +kernel))) (λ_=>cF) (λ_=>(dR (ae (iN nX (by rfl) T.int PyProof.Rows.boot_int (ae (gW eU (pv 0) ao (bD _)) ai)) (ae ao ai))))) ai)))))
   (ar (dn (bu eU (bf cw (cO kd hr T.gY (ae (pv 7) (ae (bf bM (pv 9) ao) ai))) ao) v5 (bD _)) (aA (aY (C0 (gW eU (bf cw (cO kd hr T.gY (ae (pv 7) (ae (bf bM (pv 9) ao) ai))) ao) v5 (bD _)) (yY (gW eU (bf cw (cO kd hr T.gY (ae (pv 7) (ae (bf bM (pv 9) ao) ai))) ao) v5 (bD _)))))) cu)
   (ar (eV PassesOwn.never rfl (cL (pv 9)) (aM (i:=10) jH.nd)
    (aA (dn (jK (jc (cO Fj hr T.pA (ae (pv 6) (ae (pv 7) (ae (pv 10) (ae (cO iJ hr T.gM (ae (pv 1) (ae (pv 2) (ae (pv 8) ai)))) ai))))))) (aA (aY mE)) cu)))
   (aA (aY mE)))))))))))),?_⟩
  refine aN (σ:=[some (.ref a0),none,none,none,none,none,none,none,none,none,none]) rfl ?_;exists ⟨a0,ns,rfl,hS,hlen,λb H0 hb0 B0 s0=>?_⟩;exists ⟨b,rfl,B0,λt1 n i o w H1 g1 n5 i4 o4 hw hn B1 u1=>?_⟩;exists ⟨b,8,rfl,B1,by decide,by decide,λv Hv v0 v1 Bv uv=>?_⟩;walk_at "w"
  obtain ⟨m,em,m4,mn⟩:∃m:Nat,(if (3+if decide (v=0)=true then (1:Int) else 0) < (n:Int) then 3+(if decide (v=0)=true then (1:Int) else 0) else (n:Int))=(m:Int)/\m<=4/\m<=n:=by
   by_cases hv:v=0
   ·rw[decide_eq_true hv,if_pos rfl];by_cases h:(3+1:Int) < n
    ·exact ⟨4,by rw[if_pos h];rfl,by lia,by lia⟩
    ·exact ⟨n,by rw[if_neg h],by lia,by lia⟩
   ·rw[decide_eq_false hv,if_neg aO];by_cases h:(3+0:Int) < n
    ·exact ⟨3,by rw[if_pos h];rfl,by lia,by lia⟩
    ·exact ⟨n,by rw[if_neg h],by lia,by lia⟩
  rw[em]
  obtain ⟨c,c20,wc,hc2,cn⟩:∃c,c<=20/\max w 6<=2^c/\((m<=4/\w<=9)\/(m<=2/\c=10))/\c*((m+max i 1+o)*m)<=800:=by
   have a1:(m+max i 1+o)*m<=12*4:=aX (by lia) m4;rcases hw with rfl | rfl | ⟨rfl,h2⟩
   ·exact ⟨4,by decide,by decide,.inl ⟨m4,by decide⟩,by lia⟩
   ·exact ⟨4,by decide,by decide,.inl ⟨m4,by decide⟩,by lia⟩
   ·have a2:(m+max i 1+o)*m<=10*2:=aX (by lia) (by lia);exact ⟨10,by decide,by decide,.inr ⟨by lia,rfl⟩,by lia⟩
  walk_at "w";rw[show (if (1:Int) > (i:Int) then (1:Int) else (i:Int))=((max i 1:Nat):Int) by split <;> lia];refine ⟨b,m,max i 1,o,w,c,rfl,Bv,by lia,by lia,o4,by lia,by lia,wc,c20,cn,λr mv pt lk H2 P2 lm lp ll D PG B2 u2=>?_⟩;obtain ⟨Y,_,SF⟩:=Nq PG D lm (by lia) o4 hc2;obtain ⟨M1,M2,Vx,X⟩:=Nr PG lm m4 (by lia) hc2;clear PG hc2 cn wc c20 em;subst lm;have d8:=D.n8;have di:=D.i4;exists ⟨r,Hv,mv,pt,lk,rfl,P2,D,SF.sf,λx H3 nx s3 Sx=>?_⟩;have B3:=B2.same s3;have A3:Fl K Z.a_System H2 H3 x mv pt lk:=⟨Sx,D,SF,Y⟩;have P3:=P2.same s3;exists ⟨λσ' H'=>(∃fv:Nat,σ'=[some (.ref a0),some (.ref b),some (.int mv.length),some (.int i),some (.int o),some (.int w),some (.ref r),some (.ref x),some (.int fv),none,none]/\((fv=9/\mv.length<=4)\/(fv=1000/\mv.length<=2)))/\jx H' b/\cZ b H3 H',?_,?_⟩
  ·exists iI (λh0=>?_) (λh0=>?_)
   ·have n3:=of_decide_eq_true h0;exists ⟨b,8,rfl,B3,by decide,by decide,λv' H4 v0' v1' B4 u4=>?_⟩;exists iI (λh1=>?_) (λh1=>?_)
    ·exists ⟨⟨1000,rfl,.inr ⟨rfl,by lia⟩⟩,B4,u4⟩
    ·exists ⟨⟨9,rfl,.inl ⟨rfl,m4⟩⟩,B4,u4⟩
   ·exists ⟨⟨9,rfl,.inl ⟨rfl,m4⟩⟩,B3,(aI.refl _).upto⟩
  rintro σ' H4 ⟨⟨fv,rfl,hf⟩,B4,u4⟩;have A4:Fl K Z.a_System H2 H4 x mv pt lk:=⟨A3.S.upto u4 B3 B2.at,D,SF,Y⟩;have P4:=P3.upto u4 B3 Bv.at;have fv1:1<=fv/\fv<=1000:=by lia
  exists ⟨b,mv.length,fv,rfl,B4,by lia,by lia,by lia,λq0 w0 H5 nq0 R0 l0 d0 B5 u5=>?_⟩;have W0:=Pc (LY d0 (by lia));exists cK λt6 H6 s6 g6=>?_
  exists dB λl7 H7 s7 n7 g7=>?_
  exists yU g7 (by lia) λq1 H8 s8 nq1 g8=>?_
  have R1:cP K H8 q1 (List.replicate mv.length 0):=⟨_,g8,k6 (cA.mk (q:=0) ((s7.trans s8) _ _ g6) rfl) mv.length⟩;exists ⟨by lia,by lia,?_⟩;refine iS (n:=mv.length) (cA K) (λj=>if j=0 then (1:Rat) else 0) (by lia) (λa b=>a.same b) ?_ ?_
  ·rintro j Hb NY NN hj sa k1;exists cK λtb Hc sc gc=>k1 _ _ sc (cA.mk gc ?_)
   by_cases z:j=0
   ·rw[if_pos z,decide_eq_true (by lia)];rfl
   ·rw[if_neg z,decide_eq_false (by lia)];rfl
  rintro zs H9 q2 nq2 s9 gu pru _;have R2:cP K H9 q2 ((List.range mv.length).map λj=>if j=0 then (1:Rat) else 0):=⟨zs,gu,pru⟩;exists dB λwl H10 s10 nwl gwl=>?_
  have s5x:=(((s6.trans s7).trans s8).trans s9).trans s10;have B10:=B5.same s5x;have bq0:q0≠b:=λz=>B4.at (by rw[<- z];exact nq0)
  have bq1:q1≠b:=λz=>(B5.same (s6.trans s7)).at (by rw[<- z];exact nq1)
  have bq2:q2≠b:=λz=>(B5.same ((s6.trans s7).trans s8)).at (by rw[<- z];exact nq2)
  have bwl:wl≠b:=λz=>(B5.same (((s6.trans s7).trans s8).trans s9)).at (by rw[<- z];exact nwl)
  have W1:GG (List.replicate mv.length 0):=Ov λz hz=>.inl (gG hz)
  have W2:GG ((List.range mv.length).map λj=>if j=0 then (1:Rat) else 0):=Ov λz hz=>by
   obtain ⟨j,_,rfl⟩:=ax.mp hz;by_cases e:j=0
   ·exact .inr (if_pos e)
   ·exact .inl (if_neg e)
  have u410:=u5.same s5x;have A10:Fl K Z.a_System H2 H10 x mv pt lk:=⟨A4.S.upto u410 B4 B2.at,D,SF,Y⟩;have P10:=P4.upto u410 B4 Bv.at;have L10:Paired (λ(c:List Rat) v=>∃q,v=V.ref q/\q≠b/\cP K H10 q c/\c.length=mv.length/\GG c) [w0,List.replicate mv.length 0,(List.range mv.length).map λj=>if j=0 then (1:Rat) else 0] [V.ref q0,V.ref q1,V.ref q2]:=.cons ⟨q0,rfl,bq0,R0.same s5x,l0,W0⟩ (.cons ⟨q1,rfl,bq1,R1.same (s9.trans s10),cp,W1⟩ (.cons ⟨q2,rfl,bq2,R2.same s10,by rw[ah,bI],W2⟩ .nil));obtain ⟨ka,kc,KF,_⟩:=Y.pr;obtain ⟨R,ps,_,_,SR⟩:=vU (iu (mv:=mv) (pt:=pt) rfl D.pw mv.length) (KF.swf d8 D.mw D.pw (aj _));have RR:=SR.rr;replace R0:=R0.same s5x;replace R1:=R1.same (s9.trans s10);replace R2:=R2.same s10;clear SR A3 A4 P2 P3 P4 Sx;exists ⟨x,q0,H2,mv,pt,lk,R,ps,w0,rfl,A10,R0,l0,W0,RR,λfull t11 g11 G11 H11 s11 gt11 _ _ _ _ _=>?_,λlt t11 H11 s11 gt11=>?_⟩
  ·walk_at "w";rw[decide_eq_false (show ¬(Str.ofString "yes"=Str.ofString "no") by decide)];have B11:=B10.same s11;have gwl11:=s11 _ _ gwl;exists ⟨⟨_,bE.of gwl11⟩,?_⟩;refine nR (K:=K) (a:=wl) (xs:=[V.ref q0,V.ref q1,V.ref q2]) (λj σ' H'=>(∃y,σ'=[some (.ref a0),some (.ref b),some (.int mv.length),some (.int i),some (.int o),some (.int w),some (.ref r),some (.ref x),some (.int fv),some (.ref wl),y])/\jx H' b/\cZ b H10 H') ⟨⟨_,rfl⟩,B11,s11.upto⟩ (λj σ' H' _ ⟨_,_,u⟩=>bE.of (u.other bwl gwl)) ?_ ?_
   ·rintro j v σ' H12 hv ⟨⟨y,rfl⟩,B12,u12⟩;obtain ⟨wi,ewi,q,rfl,bq,Rq,lq,Wq⟩:=bK L10 hv;exists ⟨b,mv.length,fv,rfl,B12,by lia,by lia,by lia,λqs st H13 nqs Rs ls ds B13 u13=>?_⟩;obtain ⟨N,N0,Nb,fs⟩:=LY ds (by lia);have u1013:=u12.trans u13;exists ⟨r,x,q,qs,N,M1,M2,Vx,Hv,H2,mv,pt,lk,R,ps,wi,st,rfl,P10.upto u1013 B10 Bv.at,⟨A10.S.upto u1013 B10 B2.at,D,SF,Y⟩,m4,X,Rq.upto u1013 B10 bq,lq,Wq,Rs,ls,N0,ag Nb (dW (by decide)),λz hz=>(fs z hz).mono (dW (by decide)),RR,full,λH14 s14=>?_⟩;exists ⟨⟨_,rfl⟩,B13.same s14,u1013.same s14⟩
   ·rintro σ' H12 ⟨⟨y,rfl⟩,B12,u12⟩;exists k _
  ·walk_at "w";rw[decide_eq_true rfl];have gwl11:=s11 _ _ gwl;exists ⟨x,q1,H2,mv,pt,lk,R,ps,_,rfl,A10.same s11,R1.same s11,cp,W1,RR,λfull=>absurd full (by lia),λ_ t12 H12 s12 gt12=>?_⟩;have s1012:=s11.trans s12;have gwl12:=s1012 _ _ gwl;walk_at "w";rw[decide_eq_true rfl];exists ⟨x,q2,H2,mv,pt,lk,R,ps,_,rfl,A10.same s1012,R2.same s1012,by rw[ah,bI],W2,RR,λfull=>absurd full (by lia),λ_ t13 H13 s13 gt13=>?_⟩;walk_at "w";rw[decide_eq_true rfl];exact k _
end
theorem ln1 {P:List Value->Prop} (h:∀x0,P [x0]):∀us:List Value,us.length=1->P us
 | [x0],_=>h x0
theorem ln2 {P:List Value->Prop} (h:∀x0 x1,P [x0,x1]):∀us:List Value,us.length=2->P us
 | [x0,x1],_=>h x0 x1
theorem ln3 {P:List Value->Prop} (h:∀x0 x1 x2,P [x0,x1,x2]):∀us:List Value,us.length=3->P us
 | [x0,x1,x2],_=>h x0 x1 x2
theorem ln4 {P:List Value->Prop} (h:∀x0 x1 x2 x3,P [x0,x1,x2,x3]):∀us:List Value,us.length=4->P us
 | [x0,x1,x2,x3],_=>h x0 x1 x2 x3
theorem ln5 {P:List Value->Prop} (h:∀x0 x1 x2 x3 x4,P [x0,x1,x2,x3,x4]):∀us:List Value,us.length=5->P us
 | [x0,x1,x2,x3,x4],_=>h x0 x1 x2 x3 x4
local macro_rules | `(tactic| walk_at "b") => `(tactic| (intro _ _ _ _ _ _; first | (refine ln1 ?_; intros; rfl) | (refine ln2 ?_; intros; rfl) | (refine ln3 ?_; intros; rfl) | (refine ln4 ?_; intros; rfl) | (refine ln5 ?_; intros; rfl)))
theorem all_mk {l:W.OpenLaw} {K:W.Frag} 
 
  (X:K.In h) (G:h.Ns mainGlobals mg) (hfa:mg "law"=some (.ref fa)) (htree:l.prog.given.tree=none)
 (aC:W.nsIn K mainGlobals "System"=some (some (.ref C)))
  (h0:Dh K "_law_bag" tG f0 e0)
  (h1:Dh K "_law_take" qK f1 e1)
  (h2:Dh K "_law_sizes" kE f2 e2)
  (h3:Dh K "_law_low" tD f3 e3)
  (h4:Dh K "_law_number" m7 f4 e4)
  (h5:Dh K "_law_row" tz f5 e5)
  (h6:Dh K "_law_move" qP f6 e6)
  (h7:Dh K "_law_sum" tx f7 e7)
  (h8:Dh K "_law_plus" qN f8 e8)
  (h9:Dh K "_law_prod" qM f9 e9)
  (h10:Dh K "_law_by" vT f10 e10)
  (h11:Dh K "_law_mixed" oM f11 e11)
  (h12:Dh K "_law_parts" oK f12 e12)
  (h13:Dh K "want_list" qF f13 e13)
  (h14:Dh K "is_whole" tu f14 e14)
  (h15:Dh K "common_divisor" jI f15 e15)
  (h16:Dh K "is_number" qJ f16 e16)
  (h17:Dh K "is_row" yR f17 e17)
  (h18:Dh K "copied_rows" m6 f18 e18)
  (a19:W.findIn K (.ref C) "__init__"=some (some (.ref f19))) (i19:W.isFn K (.ref f19)=true) (l19:K.lookup f19=some ⟨oc19,od19,.func (W.fnOf "__init__" "System.__init__" (jY dX) (hJ dX) (aK dX) .none kV19 dc19 pm19 an19 cd19 ct19),sl19⟩) (c19:W.codeIn K cd19 "System.__init__"=true) (k19:W.keepIn K (.ref f19)=true)
  (h20:Dh K "_law_copied" m9 f20 e20)
  (h21:Dh K "_law_made" qQ f21 e21)
  (h22:Dh K "tops_over" qG f22 e22)
  (h23:Dh K "common_multiple" ja f23 e23)
  (h24:Dh K "common_bottom" kq f24 e24)
  (h25:Dh K "first_with" oI f25 e25)
  (h26:Dh K "cleared" vR f26 e26)
  (h27:Dh K "brought_up" oJ f27 e27)
  (h28:Dh K "swept" CP f28 e28)
  (h29:Dh K "lowest" yQ f29 e29)
  (h30:Dh K "reduced" vN f30 e30)
  (h31:Dh K "row_dot" vM f31 e31)
  (h32:Dh K "grid_on" vQ f32 e32)
  (h33:Dh K "moved_rows" oG f33 e33)
  (h34:Dh K "reach_grown" mX f34 e34)
  (h35:Dh K "reach_rows" oC f35 e35)
 (xa_NotSteered:W.nsIn K mainGlobals "NotSteered"=some (some (.ref x_NotSteered)))
  (a36:W.findIn K (.ref x_NotSteered) "__init__"=some (some (.ref f36))) (i36:W.isFn K (.ref f36)=true) (l36:K.lookup f36=some ⟨oc36,od36,.func (W.fnOf "__init__" "NotSteered.__init__" (jY c6) (hJ c6) (aK c6) .none kV36 dc36 pm36 an36 cd36 ct36),sl36⟩) (c36:W.codeIn K cd36 "NotSteered.__init__"=true) (k36:W.keepIn K (.ref f36)=true)
  (h37:Dh K "unit_row" tm f37 e37)
  (h38:Dh K "leading_place" ko f38 e38)
  (h39:Dh K "leading" vP f39 e39)
  (h40:Dh K "minus" CT f40 e40)
  (h41:Dh K "null_at" vO f41 e41)
  (h42:Dh K "free_places" m5 f42 e42)
  (h43:Dh K "nulls" CQ f43 e43)
  (h44:Dh K "refuse_unsteered" iF f44 e44)
  (h45:Dh K "nought_row" oE f45 e45)
  (h46:Dh K "grid_turned" mZ f46 e46)
  (h47:Dh K "new_places" oF f47 e47)
  (h48:Dh K "leading_out" mY f48 e48)
  (a49:W.findIn K (.ref C) "moved"=some (some (.ref f49))) (i49:W.isFn K (.ref f49)=true) (l49:K.lookup f49=some ⟨oc49,od49,.func (W.fnOf "moved" "System.moved" (jY fI) (hJ fI) (aK fI) .none kV49 dc49 pm49 an49 cd49 ct49),sl49⟩) (c49:W.codeIn K cd49 "System.moved"=true) (k49:W.keepIn K (.ref f49)=true)
  (h50:Dh K "chain" CU f50 e50)
  (h51:Dh K "row_minus" qI f51 e51)
  (h52:Dh K "grid_times" oH f52 e52)
  (h53:Dh K "taken_over" oB f53 e53)
  (h54:Dh K "times" CO f54 e54)
  (h55:Dh K "row_times" qH f55 e55)
  (h56:Dh K "amiss" CV f56 e56)
  (h57:Dh K "plus" FJ f57 e57)
  (h58:Dh K "row_plus" tq f58 e58)
  (h59:Dh K "closed" yS f59 e59)
  (h60:Dh K "steered" vL f60 e60)
  (h61:Dh K "_law_rows" qL f61 e61)
  (h62:Dh K "_law_is_number" jJ f62 e62)
  (h63:Dh K "_law_is_row" m8 f63 e63)
  (h64:Dh K "_law_is_grid" kX f64 e64)
  (h65:Dh K "_law_dot" tE f65 e65)
  (h66:Dh K "_law_on" vS f66 e66)
  (h67:Dh K "_law_next" qO f67 e67)
  (h68:Dh K "_law_along" oO f68 e68)
  (h69:Dh K "_law_keeps" oN f69 e69)
  (h70:Dh K "_law_good" qR f70 e70)
  (h71:Dh K "law" KG f71 e71)
 (ca0:W.nsIn K mainGlobals "NOUGHT"=some (some (.ref m0))) (cl0:K.lookup m0=some ⟨.type "tuple",mo0,.seq #[.int 0 mt0_0,.int 1 mt0_1] mn0,ms0⟩)
 (ca1:W.nsIn K mainGlobals "ONE"=some (some (.ref m1))) (cl1:K.lookup m1=some ⟨.type "tuple",mo1,.seq #[.int 1 mt1_0,.int 1 mt1_1] mn1,ms1⟩)
 (ci0:W.nsIn K mainGlobals "MOST_STATES"=some (some (.int 8 it0)))
 (ci1:W.nsIn K mainGlobals "MOST_PUTS"=some (some (.int 4 it1)))
 (ci2:W.nsIn K mainGlobals "MOST_LOOKS"=some (some (.int 4 it2)))
  (pg:W.plainGet K C Str.empty=true) (hd:W.hasDictIn K C=true) (po:W.plainOver K C=true) (sa:W.findIn K (.ref C) "__setattr__"=some (some (.builtin "object.__setattr__"))) (mk:W.makesIn K C=true) (kc:W.keepIn K (.ref C)=true)
  (n_move:W.findIn K (.ref C) "move"=some none)
  (n_states:W.findIn K (.ref C) "states"=some none)
  (n_put:W.findIn K (.ref C) "put"=some none)
  (n_ins:W.findIn K (.ref C) "ins"=some none)
  (n_look:W.findIn K (.ref C) "look"=some none)
  (n_outs:W.findIn K (.ref C) "outs"=some none)
 (xa_SumError:W.nsIn K mainGlobals "SumError"=some (some (.ref x_SumError)))
 
  (lx_NotSteered:K.lookup x_NotSteered=some ⟨.type "type",dd_NotSteered,.cls ⟨nm_NotSteered,bs_NotSteered,[.ref x_NotSteered,.ref x_SumError,.type "ValueError",.type "Exception",.type "BaseException",.type "object"],ns_NotSteered,qn_NotSteered,hd_NotSteered,sn_NotSteered,su_NotSteered,ab_NotSteered,co_NotSteered,false⟩,#[ka_NotSteered,kb_NotSteered,kc_NotSteered,kd_NotSteered,some (.builtin "ValueError.__new__"),ke_NotSteered]⟩)
  (sa_NotSteered:W.findIn K (.ref x_NotSteered) "__setattr__"=some (some (.builtin "object.__setattr__"))) (kp_NotSteered:W.keepIn K (.ref x_NotSteered)=true) (nt_NotSteered:W.findIn K (.ref x_NotSteered) "price"=some none)
  (xe_SumError:W.excIn K x_SumError vD "ValueError.__new__"=true)
  (xm_NotSteered_NotSteered:W.exmOne K (.ref x_NotSteered) (.ref x_NotSteered)=some true)
  (ga_NotSteered:W.findIn K (.ref x_NotSteered) "__getattribute__"=some (some (.builtin "BaseException.__getattribute__")))
  (gt_NotSteered:W.findIn K (.ref x_NotSteered) "__getattr__"=some none)
  (mb_NotSteered:W.mroIn K x_NotSteered (.type "BaseException")=some true)
  (mo_NotSteered:W.mroIn K x_NotSteered (.type "object")=some true)
  (hd_NotSteered:W.hasDictIn K x_NotSteered=true)
  (ca_NotSteered:W.findIn K (.ref x_NotSteered) "__class__"=some (some (.builtin "object.__class__")))
  (sg_:W.specialIn K (.builtin "object.__class__") "__get__"=some (some (.builtin "getset_descriptor.__get__")))
  (tk_:W.takesIn K (.builtin "object.__class__")=some true)
  (z_abs:W.nsIn K mainGlobals "abs"=some none)
  (z_len:W.nsIn K mainGlobals "len"=some none)
  (z_min:W.nsIn K mainGlobals "min"=some none)
  (z_range:W.nsIn K mainGlobals "range"=some none)
  (z_int:W.nsIn K mainGlobals "int"=some none)
  (z_isinstance:W.nsIn K mainGlobals "isinstance"=some none)
  (z_list:W.nsIn K mainGlobals "list"=some none)
  (z_bool:W.nsIn K mainGlobals "bool"=some none)
  (z_tuple:W.nsIn K mainGlobals "tuple"=some none)
  (z_all:W.nsIn K mainGlobals "all"=some none)
  (z_enumerate:W.nsIn K mainGlobals "enumerate"=some none)
  (z_zip:W.nsIn K mainGlobals "zip"=some none)
  (z_sum:W.nsIn K mainGlobals "sum"=some none)
  (z_reversed:W.nsIn K mainGlobals "reversed"=some none)
  (z_max:W.nsIn K mainGlobals "max"=some none)
  : ∃fd:FuncData,(∀(s:Shared) (v:Value),BindsTo s fd ⟨[v],[]⟩ [("_law_script",v)])/\∀base:Heap,K.In base->base.Ns mainGlobals mg->cD l.prog w K mg base fN 13 fa fd ["_law_script"] (yE K):=by
 have e:=hfa.symm.trans (W.mg_of X G h71.a);cases e;obtain ⟨_,_,_,_,_,_,_,_,_,rfl,_,_⟩:=h71.F.ex;have F19:=Dp (st:=dX) l19 c19 k19;have F36:=Dp (st:=c6) l36 c36 k36;have F49:=Dp (st:=fI) l49 c49 k49
 have T:Txt K mg ⟨f0,_,f1,_,f2,_,f3,_,f4,_,f5,_,f6,_,f7,_,f8,_,f9,_,f10,_,f11,_,f12,_,f13,_,f14,_,f15,_,f16,_,f17,_,f18,_,f19,_,f20,_,f21,_,f22,_,f23,_,f24,_,f25,_,f26,_,f27,_,f28,_,f29,_,f30,_,f31,_,f32,_,f33,_,f34,_,f35,_,f36,_,f37,_,f38,_,f39,_,f40,_,f41,_,f42,_,f43,_,f44,_,f45,_,f46,_,f47,_,f48,_,f49,_,f50,_,f51,_,f52,_,f53,_,f54,_,f55,_,f56,_,f57,_,f58,_,f59,_,f60,_,f61,_,f62,_,f63,_,f64,_,f65,_,f66,_,f67,_,f68,_,f69,_,f70,_,fa,_,m0,m1,it0,it1,it2,C,x_SumError,x_NotSteered⟩:={
  rf:=h0.D X G
  bT:=h1.D X G
  nG:=h2.D X G
  gN:=h3.D X G
  lM:=h4.D X G
  gM:=h5.D X G
  pd:=h6.D X G
  iQ:=h7.D X G
  ji:=h8.D X G
  gZ:=h9.D X G
  lO:=h10.D X G
  nI:=h11.D X G
  nH:=h12.D X G
  jh:=h13.D X G
  mJ:=h14.D X G
  eZ:=h15.D X G
  o7:=h16.D X G
  we:=h17.D X G
  gL:=h18.D X G
  jq:=F19.binds (ps:=["self","move","put","look"]) λ_ _ _ _ _ _=>by refine ln4 ?_;intros;rfl
  mM:=F19
  gO:=h20.D X G
  ph:=h21.D X G
  fW:=h22.D X G
  iG:=h23.D X G
  dI:=h24.D X G
  nE:=h25.D X G
  tP:=h26.D X G
  nF:=h27.D X G
  uz:=h28.D X G
  iP:=h29.D X G
  lH:=h30.D X G
  jO:=h31.D X G
  jQ:=h32.D X G
  jX:=h33.D X G
  lI:=h34.D X G
  nC:=h35.D X G
  jz:=F36.binds (ps:=["self","price"]) λ_ _ _ _ _ _=>by refine ln2 ?_;intros;rfl
  jA:=F36
  mI:=h37.D X G
  jP:=h38.D X G
  o6:=h39.D X G
  uA:=h40.D X G
  tO:=h41.D X G
  lK:=h42.D X G
  zE:=h43.D X G
  eo:=h44.D X G
  iq:=h45.D X G
  dS:=h46.D X G
  nD:=h47.D X G
  lJ:=h48.D X G
  pR:=⟨a49,i49,k49⟩
  rG:=F49.binds (ps:=["self","state","puts"]) λ_ _ _ _ _ _=>by refine ln3 ?_;intros;rfl
  rO:=F49
  zF:=h50.D X G
  kG:=h51.D X G
  ir:=h52.D X G
  nv:=h53.D X G
  zD:=h54.D X G
  kF:=h55.D X G
  zG:=h56.D X G
  Dg:=h57.D X G
  qZ:=h58.D X G
  wo:=h59.D X G
  lE:=h60.D X G
  gY:=h61.D X G
  jk:=h62.D X G
  lN:=h63.D X G
  ks:=h64.D X G
  rd:=h65.D X G
  o8:=h66.D X G
  o9:=h67.D X G
  nK:=h68.D X G
  nJ:=h69.D X G
  pA:=h70.D X G
  O5:=h71.F
  abs:=W.mg_none_of X G z_abs
  len:=W.mg_none_of X G z_len
  min:=W.mg_none_of X G z_min
  range:=W.mg_none_of X G z_range
  int:=W.mg_none_of X G z_int
  isinstance:=W.mg_none_of X G z_isinstance
  list:=W.mg_none_of X G z_list
  bool:=W.mg_none_of X G z_bool
  tuple:=W.mg_none_of X G z_tuple
  all:=W.mg_none_of X G z_all
  enumerate:=W.mg_none_of X G z_enumerate
  zip:=W.mg_none_of X G z_zip
  sum:=W.mg_none_of X G z_sum
  reversed:=W.mg_none_of X G z_reversed
  max:=W.mg_none_of X G z_max
  mg_NOUGHT:=W.mg_of X G ca0
  sq_NOUGHT:=λH=>.inr ⟨_,_,_,cl0,rfl,rfl,il rfl,.cons ⟨_,rfl⟩ (.cons ⟨_,rfl⟩ (.nil))⟩
  mg_ONE:=W.mg_of X G ca1
  sq_ONE:=λH=>.inr ⟨_,_,_,cl1,rfl,rfl,il rfl,.cons ⟨_,rfl⟩ (.cons ⟨_,rfl⟩ (.nil))⟩
  mg_MOST_STATES:=W.mg_of X G ci0
  mg_MOST_PUTS:=W.mg_of X G ci1
  mg_MOST_LOOKS:=W.mg_of X G ci2
  mg_System:=W.mg_of X G aC
  cl_System:=⟨pg,hd,po,sa⟩
  na_move:=n_move
  na_states:=n_states
  na_put:=n_put
  na_ins:=n_ins
  na_look:=n_look
  na_outs:=n_outs
  mk_System:=⟨mk,a19,i19,kc⟩
  mg_SumError:=W.mg_of X G xa_SumError
  mg_NotSteered:=W.mg_of X G xa_NotSteered
  ex_SumError:=xe_SumError
  xm_NotSteered_NotSteered:=xm_NotSteered_NotSteered
  xi_NotSteered:=⟨⟨_,_,_,_,_,_,_,lx_NotSteered,rfl,rfl⟩,xe_SumError,sa_NotSteered,⟨ga_NotSteered,gt_NotSteered,mb_NotSteered,mo_NotSteered,hd_NotSteered,ca_NotSteered,sg_,tk_⟩⟩
  in_NotSteered:=a36
  fn_NotSteered:=beq_iff_eq.mp i36
  kp_NotSteered:=kp_NotSteered
  nt_NotSteered:=nt_NotSteered
  xc_NotSteered:=⟨ga_NotSteered,gt_NotSteered,mb_NotSteered,mo_NotSteered,hd_NotSteered,ca_NotSteered,sg_,tk_⟩ }
 exact ⟨_,λs v=>.of_eq rfl,λbase _ _=>Qg T htree⟩
theorem walk {l:W.OpenLaw} {K:Params->W.Frag} (hn:l.most=some 63) (hdf:d.params.defaults=[])
  (hi:PyProof.Rows.importsNone q=true)
  (hY:∀(w:World) (h:Heap),YP w h->(K w.params).In h)
  (F:∀(w:World) (mg:Str->Option Value) (fa:Addr) (h:Heap),(K w.params).In h->h.Ns mainGlobals mg->mg d.name=some (.ref fa) →
   ∃fd:FuncData,(∀(s:Shared) (u:Value),BindsTo s fd ⟨[u],[]⟩ [("_law_script",u)])/\∀base:Heap,(K w.params).In base->base.Ns mainGlobals mg->cD l.prog w (K w.params) mg base fN 13 fa fd ["_law_script"] (yE (K w.params))) :
  W.WalkO q loose XP YP l.row.toRowW d [] (λf vs=>PySem.call f vs) :=
 L2.MI (n:=63) (k:=13) (x:="_law_script") (CX:=λ_=>fN) (sp:=λw=>yE (K w.params)) hn (by decide) hdf ⟨rfl,by decide,by decide⟩ hi hY F (λ_ _ a ns hl _ hS=>⟨a,ns,rfl,hS,hl,λ_=>rfl⟩) λ_ _ _ _ _ z=>z
end Lw
namespace PySem.W.Fast
def tw1588191206164728994:=()
def tw9908737934677565876:=()
def tw12852882400850910850:=()
def tw14366202286313308717:=()
def tw1315409983520288903:=()
def tw3694857569684825490:=()
def tw6264033047403978914:=()
def tw14651226408934529292:=()
def tw7892407416763860779:=()
def tw11533449063994189367:=()
def tw16229913897669342487:=()
def tw17791152309344588880:=()
def tw18393436110008168069:=()
def tw15567284334988708445:=()
def tw14763031334250846983:=()
def tw4164306883985686312:=()
def tw12722618825940062286:=()
def tw4744297647818649481:=()
def tw9381915247393385828:=()
def tw4072662918725754051:=()
def tw11813677220537392689:=()
def tw13837126520144338251:=()
def tw16214773895384621488:=()
def tw13420356303279885531:=()
def tw14562685856814875616:=()
def tw4958225086170712611:=()
def tw16246960413133783690:=()
def tw494708120426840849:=()
def tw1190604490610981658:=()
def tw16307881735631547772:=()
def tw3982590041578333095:=()
def tw17001969758219031230:=()
def tw7326489239433939753:=()
def tw11126750489874507085:=()
def tw5394384753150988276:=()
def tw5607560006983868953:=()
def tw7216476316809839888:=()
def tw13011013722392361218:=()
def tw1070883032959616286:=()
def tw3029439149477281584:=()
def tw14705610503238317441:=()
def tw9600208547469401273:=()
def tw14865170811625918110:=()
def tw3690490904575002782:=()
def tw18186230349445277538:=()
def tw1527810539709623690:=()
def tw10415638624962823066:=()
def tw16427777751128619270:=()
def tw2984919566814144756:=()
def tw5937834408790839057:=()
def tw3230306686779964162:=()
def tw12015448431454339212:=()
def tw2089299023857100893:=()
def tw3508004873427100896:=()
def tw10015265623359423579:=()
def tw10949376288682870562:=()
def tw5304712198594846743:=()
def tw1344214913139759390:=()
def tw6988246802302437644:=()
def tw17423217463117295898:=()
def tw5138235532461753001:=()
def tw17754605997550204351:=()
def tw16117563590667637859:=()
def tw11660046328313899627:=()
def tw2601484721169219122:=()
def tw14776733425968787884:=()
def tw5826660176561192318:=()
def tw17256754522472556720:=()
def tw9377474633688597103:=()
def tw15542572262231562992:=()
def tw16346318285802879630:=()
def tw13690776887180415521:=()
def tw7220880797494815737:=()
def tw3438710410139903444:=()
def tw14554169477141257359:=()
def tw4362089836959501229:=()
def tw1773444507474538385:=()
def tw16813311971687722722:=()
def tw6289126807261430168:=()
def tw16700687550882910650:=()
def tw6520614123528940085:=()
def tw13724478826583986659:=()
def tw3051217753192740590:=()
def tw8871560447738186407:=()
def tw5821529346802620241:=()
def tw8109185085349633101:=()
def tw1602580205234136517:=()
def tw9267525100554806824:=()
def tw13644642982555954966:=()
def tw4731824476390727480:=()
def tw564036408958770708:=()
def tw17983975119090885791:=()
def tw2703352273434151832:=()
def tw4703601583155931324:=()
def tw8307987384392849960:=()
def tw16597470517821337922:=()
def tw11960388748231725883:=()
def tw3235322722341243208:=()
def tw3734116493287401330:=()
def tw583636669341553952:=()
def tw1560554404265417934:=()
def tw10005514180771035464:=()
def tw11586772417104239830:=()
def tw14890682552043405470:=()
def tw5062681214634220429:=()
def tw1162391546827078610:=()
def tw14606756310296805873:=()
def tw3416636922638547985:=()
def tw1853393971998393837:=()
def tw7752285862256397623:=()
def tw5616523538805822177:=()
def tw9727391371638338429:=()
def tw5210061153611122762:=()
def tw10795886131437401638:=()
def tw5995032740768778630:=()
def tw14301782439355200335:=()
def tw2737126622778452309:=()
def tw2410167125704902699:=()
def tw7068287868641186537:=()
def tw12340739245693056152:=()
def tw8381015126856865396:=()
def tw17487550532505036722:=()
def tw7162227017584047887:=()
def tw10251064207378031802:=()
def tw4621616723197560174:=()
def tw1277067217683727438:=()
def tw17773397937080696781:=()
def tw17010169739629451843:=()
def tw11393709530783429905:=()
def tw17578331976209707967:=()
def tw17016813046601442169:=()
def tw8494687925835921207:=()
def tw9702016076854346412:=()
def tw16136523504593196326:=()
def tw12148239882797271755:=()
def tw9643105619537917738:=()
def tw18356492435993516900:=()
def tw12968434293703224045:=()
def tw8303421149168346711:=()
def tw1537989807307442396:=()
def tw14024958142740026286:=()
def tw16453811461514232968:=()
def tw14281172999370351455:=()
def tw436961613009544061:=()
def tw11052366053933716171:=()
def tw15588356995494554721:=()
def tw14740335750113229634:=()
def tw4573134376448622504:=()
def tw93327378003158327:=()
def tw17239978320574180965:=()
def tw5929965471795708097:=()
def tw13199473074539278263:=()
def tw14452424291718839517:=()
def tw3188561046301562597:=()
def tw13992299934720571166:=()
def tw16488284540613104725:=()
def tw8653340289256120137:=()
def tw7628709900750129207:=()
def tw15216505035579355090:=()
def tw12346795970699819452:=()
def tw17223333799138786859:=()
def tw7813139150998980446:=()
def tw1930542958587367592:=()
def tw5545605365773549252:=()
def tw8196338816239679225:=()
def tw17480931094728292252:=()
def tw6469268459179169018:=()
def tw10501373050759846215:=()
def tw114242954187600420:=()
def tw3457100197238121044:=()
def tw6934280176132398038:=()
def tw10737833678695875246:=()
def tw10245261491841931036:=()
def tw313954921725594468:=()
def tw3038213413295018444:=()
def tw4869677700533635366:=()
def tw2574077861029933035:=()
def tw6106967177545694494:=()
def tw4521043344971947216:=()
def tw2663094382605269873:=()
def tw1027918677901101698:=()
def tw7545040223504610535:=()
def tw144357435512676442:=()
def tw2605850178169154791:=()
def tw17585973135623198367:=()
def tw11854160235873821073:=()
def tw16392955742498130980:=()
def tw17212217482331393294:=()
def tw7707121013777855547:=()
def tw7710167230095773298:=()
def tw10853982521817951990:=()
def tw8271435362685205839:=()
def tw18320739357304441164:=()
def tw642977169422868680:=()
def tw811998165549945400:=()
def tw7731688950317669189:=()
def tw12538992917532104031:=()
def tw12504834841471601132:=()
def tw8073987910642812881:=()
def tw10150563211068043169:=()
def tw1844254616030649877:=()
def tw7760153689758157954:=()
def tw15266254954218444876:=()
def tw4663874139435425961:=()
def tw1312591553667455522:=()
def tw183543457696618487:=()
def tw17490523918284993164:=()
def tw8293590603309936414:=()
def tw17198974980644295815:=()
def tw11514522927276473889:=()
def tw1530017837471793467:=()
def tw14604884289435419242:=()
def tw16811182075423673335:=()
def tw9839534251707705431:=()
def tw4998992607944686819:=()
def tw4600997937886148503:=()
def tw8471556605562293174:=()
def tw5376353424907039407:=()
def tw15893143709319879534:=()
def tw7121792964031120552:=()
def tw15717233148107017164:=()
def tw8017730678825079487:=()
def tw18166140458991181427:=()
def tw2245046879374642231:=()
def tw5352255667591836597:=()
def tw7962487331964006112:=()
def tw5696049705494402875:=()
def tw2665694380683442025:=()
def tw13715092892618266924:=()
def tw3116593178800934374:=()
def tw5652550800066040789:=()
def tw3013010263895325983:=()
def tw12650756481406785505:=()
def tw12194685201680817799:=()
def tw8242503218693049055:=()
def tw16039864471209905429:=()
def tw5614704220429201114:=()
def tw15871246685416065652:=()
def tw16073304231334507689:=()
def tw14248629891103607831:=()
def tw10498609421636579541:=()
def tw5557851449073420783:=()
def tw1531543288360602753:=()
def tw2678643465082195864:=()
def tw5202635745736009498:=()
def tw17401938100125988745:=()
def tw15218190092870347606:=()
def tw18185507126502843282:=()
def tw9825383402330143695:=()
def tw9152249017581573533:=()
def tw12908291099880031408:=()
def tw4719778215548597124:=()
def tw13547440850554825364:=()
def tw14940223163067796582:=()
def tw12596497345061826801:=()
def tw7285508230009295915:=()
def tw5369899967583731850:=()
def tw11480270838846108133:=()
def tw10277782686362464984:=()
def tw5028982972667088380:=()
def tw5918663722887438422:=()
def tw8666647394002832686:=()
def tw8379883436516883360:=()
def tw5916987778768932231:=()
def tw3152359325310381429:=()
def tw11797252579081060043:=()
def tw1743616734895325201:=()
def tw11512277657678968690:=()
def tw11807528066631885567:=()
def tw1515324946704041232:=()
def tw5868402120792522838:=()
def tw2225453237497543179:=()
def tw9130495512059361826:=()
def tw16746078050957990112:=()
def tw17052178920324467003:=()
def tw2854454439958899750:=()
def tw11836663531677470177:=()
def tw13065983977886924222:=()
def tw2494489962990895065:=()
def tw14859443881600778823:=()
def tw11863721482491517782:=()
def tw795051090058041871:=()
def tw13583659603122730105:=()
def tw12793848649072244924:=()
def tw17010936165005645529:=()
def tw15931679419605846708:=()
def tw6722307281081651581:=()
def tw17494822263436878899:=()
def tw13654745305868083432:=()
def tw2877948375689889143:=()
def tw7110287904653952112:=()
def tw6998066638374593066:=()
def tw13897645370818261446:=()
def tw4278603545448024809:=()
def tw13907495735746756098:=()
def tw12753596179098989813:=()
def tw2491080784724349396:=()
def tw16026271758118840833:=()
def tw12075712071101684289:=()
def tw6720096453944291940:=()
def tw12109285456927904206:=()
def tw1998559905187491237:=()
def tw8132764973797641199:=()
def tw10355217972470736181:=()
def tw7085944095309506352:=()
def tw17775250001778568359:=()
def tw6452263069972528825:=()
def tw9134243098845853039:=()
def tw9711960299251466698:=()
def tw5209019702855786869:=()
def tw17940854752499717996:=()
def tw8632707362720287213:=()
def tw13148763102958790481:=()
def tw15251821615637326758:=()
def tw13767478779894348253:=()
def tw10072208272606893079:=()
def tw9095609429847805112:=()
def tw11114309555010057276:=()
def tw551848053369125173:=()
def tw7528027633711385675:=()
def tw775823616599207282:=()
def tw9253402001770780665:=()
def tw5819809144725150914:=()
def tw13315194622443197972:=()
def tw16050256757887244346:=()
def tw10750247460578262690:=()
def tw4733020188275817106:=()
def tw18383161389661404934:=()
def tw16198111834316352983:=()
def tw5934500275096773664:=()
def tw3349115076107718071:=()
def tw14129523378917442678:=()
def tw2447077150153053699:=()
def tw1692048231912271313:=()
def tw10796732780993533454:=()
def tw7928801970839266970:=()
def tw13880572903978715455:=()
def tw8439738047846026862:=()
def tw12755332622256765200:=()
def tw362759487768226470:=()
def tw65774271244893494:=()
def tw6191414099649167935:=()
def tw2558271799820775847:=()
def tw19101792070525058:=()
def tw3392597480418983018:=()
def tw3970698068460655392:=()
def tw1875754018699937601:=()
def tw2286820954362770156:=()
def tw17485168236719844587:=()
def tw4133560078344256975:=()
def tw6914541504451557596:=()
def tw12666677101847276708:=()
def tw13777781222868156463:=()
def tw12182389750297288337:=()
def tw17160438665287789218:=()
def tw5730784488884057099:=()
def tw5773276566605110844:=()
def tw2746000089171755792:=()
def tw17485212359473922367:=()
def tw16589978940530884690:=()
def tw18003929947248296055:=()
def tw3353795968122118974:=()
def tw4299469895025901942:=()
def tw12817107011009613695:=()
def tw10536286325123841105:=()
def tw6362137431548333391:=()
def tw6662347616917119923:=()
def tw7337846209825725117:=()
def tw12181467343067282223:=()
def tw5287292250731438636:=()
def tw1811632267036069246:=()
def tw17175189752809896608:=()
def tw1766665354580087036:=()
def tw9130619319687125783:=()
def tw9415437290228963910:=()
def tw3317970462015736098:=()
def tw12794219815217860122:=()
def tw5772323166098754719:=()
def tw12622750802228695822:=()
def tw8061395114278659604:=()
def tw692038967736030119:=()
def tw4731499070997033699:=()
def tw9585766687100748018:=()
def tw8585937020084105462:=()
def tw1073317919451740515:=()
def tw10408066424249096991:=()
def tw2205816167760742639:=()
def tw12080212489119754810:=()
def tw11475313218993143346:=()
def tw6588410235148275130:=()
def tw5491634821786136787:=()
def tw12180750690294861276:=()
def tw1409458294322132307:=()
def tw7118464017288319457:=()
def tw777693047393767907:=()
def tw7460342226957475114:=()
def tw13638113354485985216:=()
def tw3069399425545405317:=()
def tw17288440580939492656:=()
def tw7916072685630140390:=()
def tw6813000202396804424:=()
def tw16220998586232720994:=()
def tw11938305730501411283:=()
def tw6705006963098317871:=()
def tw14362736083103605677:=()
def tw9442976481853328872:=()
def tw17575541123682147354:=()
def tw2762545640013351043:=()
def tw13419139003675903780:=()
def tw10859327438194246322:=()
def tw7010195388011762320:=()
def tw17417363226534824403:=()
def tw5674300145772495363:=()
def tw15403360802272205429:=()
def tw2251332037562926587:=()
def tw18052460294404369570:=()
def tw11393267457254588591:=()
def tw17287420539287171688:=()
def tw17209445903433491757:=()
def tw14094336572236008401:=()
def tw13226111300847662549:=()
def tw10305268279379978097:=()
def tw12969691248873439801:=()
def tw7470533302937375846:=()
def tw6806056538078041215:=()
def tw17510686767009393238:=()
def tw10955271063699832508:=()
def tw6308732148690545818:=()
def tw2432773563223979455:=()
def tw14778884268782434204:=()
def tw9079182823886111471:=()
def tw1560544409219621774:=()
def tw16974741418215701122:=()
def tw1016319013136036837:=()
def tw975910603760267289:=()
def tw11570646052483876850:=()
def tw7511009082250507676:=()
def tw11370848583874470413:=()
def tw16233290713112515434:=()
def tw5928610908930270162:=()
def tw7315530228611342636:=()
def tw2226744722933785070:=()
def tw16010220067827252427:=()
def tw10527126886620232924:=()
def tw5405754517228314544:=()
def tw455379198870930368:=()
def tw9775916269457496259:=()
def tw11365599071132638224:=()
def tw17703725922752834922:=()
def tw1532242965211152649:=()
def tw17466283324085950772:=()
def tw17825033800746191177:=()
def tw13350605165001195101:=()
def tw544085593902856063:=()
def tw17927678173931429281:=()
def tw885681724366744546:=()
def tw15617136811431406041:=()
def tw4934708004842546568:=()
def tw10490008524224754764:=()
def tw4990081836310826139:=()
theorem te1588191206164728994:True:=trivial
end PySem.W.Fast
open PySem PySem.W PyProof.Rows
set_option maxRecDepth 100000 in
set_option maxHeartbeats 0 in
theorem PySem.Challenge.cw_helmsum_k85_whole_wished_courses_holds : PySem.Challenge.rw_helmsum_k85_whole_wished_courses.Holds := by
 w_on;o_law;k_head;(case hw=>w_witness2)
 k_fill
 refine Lw.walk (l:=PySem.Challenge.rw_helmsum_k85_whole_wished_courses) rfl rfl ?hi (λw h Y=>PySem.W.kIn_of Y) ?F
 case hi=>decide +kernel
 case F =>
  intro w mg fa h KX G hmg;refine' Lw.all_mk KX G hmg rfl ?aC ?_ ?_ ?_ ?_ ?_ ?_ ?_ ?_ ?_ ?_ ?_ ?_ ?_ ?_ ?_ ?_ ?_ ?_ ?_ ?a19 ?i19 ?l19 ?c19 ?k19 ?_ ?_ ?_ ?_ ?_ ?_ ?_ ?_ ?_ ?_ ?_ ?_ ?_ ?_ ?_ ?_ ?xa_NotSteered ?a36 ?i36 ?l36 ?c36 ?k36 ?_ ?_ ?_ ?_ ?_ ?_ ?_ ?_ ?_ ?_ ?_ ?_ ?a49 ?i49 ?l49 ?c49 ?k49 ?_ ?_ ?_ ?_ ?_ ?_ ?_ ?_ ?_ ?_ ?_ ?_ ?_ ?_ ?_ ?_ ?_ ?_ ?_ ?_ ?_ ?_ ?ca0 ?cl0 ?ca1 ?cl1 ?ci0 ?ci1 ?ci2 ?pg ?hd ?po ?sa ?mk ?kc ?n_move ?n_states ?n_put ?n_ins ?n_look ?n_outs ?xa_SumError ?lx_NotSteered ?sa_NotSteered ?kp_NotSteered ?nt_NotSteered ?xe_SumError ?xm_NotSteered_NotSteered ?ga_NotSteered ?gt_NotSteered ?mb_NotSteered ?mo_NotSteered ?hd_NotSteered ?ca_NotSteered ?sg_ ?tk_ ?z_abs ?z_len ?z_min ?z_range ?z_int ?z_isinstance ?z_list ?z_bool ?z_tuple ?z_all ?z_enumerate ?z_zip ?z_sum ?z_reversed ?z_max
  all_goals try refine' Sr ?_ ?_ ?_ ?_
  all_goals try k_is
  (case xe_SumError=>k_exc)
  (case xm_NotSteered_NotSteered=>kts_exm)