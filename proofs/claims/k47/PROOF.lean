import PyProof.Rows.All
import Wide.All
import OpenK.AllK
import Wide.FinOn
import Lean
import PyProof.EqAt
import PyProof.EqKinds
import PyProof.TupleCall
import PyProof.NeKinds
import PySem.Challenge.RW_helmsum_k47_papers_of_shut
set_option Elab.async false
set_option linter.all false
set_option maxRecDepth 100000
local macro_rules | `($x.$i:fieldIdx) => match i.raw.isFieldIdx? with | some 9 => `(($x).length) | some 8 => `(($x).heap) | some 7 => `(($x).size) | some 6 => `(($x).heap.objs.size) | some 5 => `(($x).toArray) | _ => Lean.Macro.throwUnsupported
local macro_rules | `(#[$a,*]) => `(⟨$a,*⟩)
local macro_rules | `(tactic| obtain $p:rcasesPatMed := $e:term) => do
 let a := p.raw[0].getSepArgs
 let q : Lean.TSyntax `rcasesPat ← if a.size == 1 then pure ⟨a[0]!⟩ else do
  let l ← a.mapM fun x => `(Lean.Parser.Tactic.rcasesPatLo| $(⟨x⟩):rcasesPat)
  `(rcasesPat| ⟨$l,*⟩)
 `(tactic| first | (refine Classical.byContradiction fun ng => ?_; (rcases $e:term with $q:rcasesPat) <;> (refine ng ?_; clear ng)) | rcases $e:term with $q:rcasesPat)
local macro_rules | `(()) => `(by first | decide | lia)
abbrev aa:=@List.getD_eq_getElem?_getD
abbrev ae:=@List.getElem?_eq_getElem
abbrev af:=@List.length_map
abbrev ag:=@Nat.le_trans
abbrev ai:=@Nat.pow_le_pow_right
abbrev ak:=@Nat.le_refl
abbrev ar:=@List.length_append
abbrev av:=@List.mem_of_getElem?
abbrev ax:=@Nat.mul_le_mul_right
abbrev ay:=@List.mem_append
abbrev aA:=@List.mem_map
abbrev aD:=@List.getElem?_map
abbrev aE:=@List.getElem?_eq_some_iff
abbrev aF:=@List.take_of_length_le
abbrev aI:=@List.mem_cons
abbrev aJ:=@List.length_replicate
abbrev aL:=@Nat.mul_le_mul
abbrev aM:=@List.getElem_mem
abbrev aN:=@List.size_toArray
abbrev aO:=@Nat.mul_le_mul_left
abbrev aQ:=@List.getElem?_eq_none
abbrev aS:=@List.mem_singleton
abbrev aT:=@PySem.boot_len
abbrev aV:=@Nat.pow_add
abbrev aW:=@Rat.intCast_natCast
abbrev aY:=@Rat.intCast_mul
abbrev a9:=@List.length_singleton
abbrev bc:=@List.getElem?_append_right
abbrev br:=@Nat.zero_le
abbrev bw:=@List.not_mem_nil
abbrev bx:=@List.length_cons
abbrev bA:=@Bool.false_ne_true
abbrev bG:=@List.getElem?_append_left
abbrev bJ:=@Nat.one_le_two_pow
abbrev bL:=@List.mem_append_right
abbrev bM:=@List.getElem_of_mem
abbrev bN:=@Nat.lt_of_lt_of_le
abbrev bO:=@Nat.lt_of_le_of_lt
abbrev bP:=@Int.eq_ofNat_of_zero_le
abbrev bQ:=@Nat.mul_pos
abbrev bR:=@List.map_append
abbrev bY:=@List.length_take
abbrev b7:=@Nat.le_mul_of_pos_left
abbrev cb:=@PySem.F.plainAttrs_list
abbrev cg:=@Option.some.inj
abbrev cv:=@Nat.mul_comm
abbrev cw:=@List.mem_cons_of_mem
abbrev cz:=@List.length_range
abbrev cB:=@Nat.lt_or_ge
abbrev cC:=@Nat.le_of_lt
abbrev cG:=@List.mem_or_eq_of_mem_set
abbrev cH:=@List.mem_of_mem_take
abbrev cI:=@Nat.ne_of_lt
abbrev cJ:=@Int.natAbs_natCast
abbrev cN:=@Nat.le_mul_of_pos_right
abbrev cP:=@Rat.mul_comm
abbrev cR:=@List.getElem?_zipWith
abbrev cV:=@List.length_zipWith
abbrev cY:=@Int.fdiv_eq_ediv_of_nonneg
abbrev dc:=@List.append_assoc
abbrev df:=@List.length_set
abbrev dj:=@PySem.F.type_list_append
abbrev dk:=@PySem.F.slot_list_append
abbrev dm:=@Nat.mul_assoc
abbrev du:=@List.mem_replicate
abbrev dE:=@Rat.intCast_neg
abbrev dF:=@List.nil_append
abbrev dG:=@List.getElem?_replicate
abbrev dH:=@Int.natAbs_mul
abbrev dP:=@Nat.not_lt_zero
abbrev dS:=@List.length_reverse
abbrev d6:=@Nat.pow_pos
abbrev d7:=@List.mem_cons_self
abbrev eh:=@PySem.W.kia_one
abbrev eD:=@Nat.succ_mul
abbrev eE:=@Nat.succ_le_succ
abbrev eF:=@Nat.pow_succ
abbrev eG:=@List.ext_getElem
abbrev eI:=@List.getElem?_range
abbrev eN:=@List.nodup_append
abbrev eT:=@Rat.intCast_inj
abbrev eV:=@Nat.pow_lt_pow_right
abbrev eX:=@Nat.dvd_mul_left
abbrev eY:=@List.mem_reverse
abbrev fb:=@List.mem_append_left
abbrev fh:=@Bool.and_eq_true
abbrev fz:=@Nat.lt_irrefl
abbrev fE:=@Rat.mul_zero
abbrev fF:=@Nat.lt_trichotomy
abbrev fG:=@List.ext_getElem?
abbrev fP:=@Rat.natCast_mul
abbrev fQ:=@List.nodup_cons
abbrev fW:=@List.drop_eq_getElem_cons
abbrev gE:=@Nat.lt_succ_self
abbrev gF:=@List.cons_append
abbrev gG:=@Int.gcd_dvd_left
abbrev gM:=@Nat.sub_self
abbrev gU:=@List.reverse_cons
abbrev gV:=@Int.gcd_dvd_right
abbrev gW:=@Bool.eq_iff_iff
abbrev ib:=@List.map_congr_left
abbrev il:=@List.map_map
abbrev iD:=@List.map_cons
abbrev iE:=@List.getElem_map
abbrev iI:=@Nat.eq_zero_or_pos
abbrev iO:=@Int.natAbs_dvd_natAbs
abbrev i8:=@List.flatten_cons
abbrev ja:=@List.eq_of_mem_replicate
abbrev jx:=@Nat.pow_le_pow_left
abbrev jz:=@List.mem_flatten
abbrev jA:=@List.all_eq_true
abbrev jM:=@Rat.zero_mul
abbrev jN:=@Nat.add_comm
abbrev jO:=@Int.emod_lt_of_pos
abbrev jP:=@Bool.false_eq_true
abbrev j6:=@Nat.min_eq_left
abbrev j7:=@List.mem_filter
abbrev kY:=@Nat.le_succ
abbrev kZ:=@List.mem_range
abbrev k9:=@List.getElem_zipWith
abbrev lh:=@Int.natAbs_neg
abbrev lC:=@Int.mul_pos
abbrev mJ:=@Rat.add_zero
abbrev mK:=@PySem.IsL.update
abbrev mL:=@List.lookup_cons
abbrev mM:=@List.length_drop
abbrev mN:=@Int.mul_comm
abbrev mO:=@Int.gcd_comm
abbrev mX:=@PySem.F.plain_extend_loop
abbrev mY:=@PySem.mem_of_lookup
abbrev mZ:=@List.replicate_succ
abbrev nh:=@List.flatten_append
abbrev nG:=@Nat.le_of_dvd
abbrev nH:=@Nat.dvd_trans
abbrev nK:=@Int.mul_assoc
abbrev oo:=@List.append_nil
abbrev ou:=@Int.emod_nonneg
abbrev oy:=@List.getElem_range
abbrev oO:=@Nat.mul_add
abbrev oP:=@Int.dvd_mul_of_dvd_left
abbrev pz:=@Nat.dvd_refl
abbrev pA:=@Nat.dvd_mul_right
abbrev pB:=@List.nodup_nil
abbrev qI:=@PySem.F.slot_zip_next
abbrev sI:=@Nat.pow_mul
abbrev sN:=@List.range_succ
abbrev sO:=@List.map_const'
abbrev uL:=@List.length_pos_iff
abbrev vd:=@List.map_id'
abbrev vU:=@Int.mul_neg_of_pos_of_neg
abbrev xa:=@Nat.one_mul
abbrev xf:=@List.getElem?_take_of_lt
abbrev yz:=@Rat.intCast_eq_zero_iff
abbrev yA:=@Nat.min_le_right
abbrev yB:=@Nat.le_add_right
abbrev yC:=@Int.natCast_dvd_natCast
abbrev zh:=@PySem.W.cellsFrom_some
abbrev zi:=@Int.zero_add
abbrev AI:=@Rat.mul_eq_zero
abbrev AJ:=@Rat.intCast_sub
abbrev AK:=@Rat.intCast_add
abbrev AM:=@List.length_zip
abbrev AO:=@PySem.F.type_list_pop
abbrev AQ:=@PySem.F.slot_list_pop
abbrev AR:=@Bool.beq_eq_decide_eq
abbrev C8:=@Rat.mul_one
abbrev C9:=@Nat.add_mul
abbrev Dc:=@List.mem_of_mem_drop
abbrev Dd:=@List.map_id
abbrev De:=@List.forIn_nil
abbrev EZ:=@PySem.W.plainGet_of
abbrev E3:=@List.filterMap_cons
abbrev Ij:=@Int.natAbs_eq
abbrev Ip:=@PySem.W.callWith_K
abbrev Iq:=@List.append_of_mem
abbrev KO:=@Nat.ne_of_gt
abbrev KP:=@Nat.min_self
abbrev KQ:=@List.map_nil
abbrev Md:=@List.eraseIdxIfInBounds_toArray
abbrev OM:=@Rat.one_mul
abbrev ON:=@PySem.StrLaws.seqIndex_nonneg
abbrev OO:=@Int.dvd_gcd
abbrev OR:=@Nat.le_antisymm
abbrev OS:=@List.of_mem_zip
abbrev OT:=@List.forIn_cons
abbrev OU:=@Int.gcd_pos_of_ne_zero_right
abbrev RS:=@List.take_zero
abbrev RT:=@Int.eq_of_mul_eq_mul_right
abbrev T4:=@PySem.F.entry_extend_loop
abbrev T5:=@List.pairwise_iff_getElem
abbrev T6:=@List.getElem?_zip_eq_some
abbrev T7:=@Int.natAbs_ediv_of_nonneg
abbrev Uc:=@Option.isSome_iff_exists
abbrev Ud:=@List.mem_of_mem_eraseIdx
abbrev Ue:=@List.all_cons
abbrev Vt:=@PySem.F.args_zip_next_1
abbrev Vu:=@Nat.add_sub_cancel_left
abbrev Vv:=@List.filter_cons_of_pos
abbrev Vw:=@List.filter_cons_of_neg
abbrev LR9:=List (List Rat)
abbrev FG9:=PySem.W.Frag
namespace L2
open PySem PySem.Spec PyProof.Rows
abbrev Key:=Sum Int Str
def RA:Key->Value->Bool
 | .inl k,v=>Value.isInt k v
 | .inr x,v=>Value.isStrOf x v
def VY (w:World):Key->Int
 | .inl k=>hashInt k
 | .inr x=>hashStr w x
theorem gR:∀{k:Key} {v:Value},RA k v=true->(∃i t,k=Sum.inl i/\v=Value.int i t)\/(∃x t,k=Sum.inr x/\v=Value.str x t)
 | .inl i,v,h=>by
  obtain t|e:=Value.isInt_shape (k:=i) (v:=v) h;exact .inl #[i,t,rfl,e]
 | .inr x,v,h=>by
  obtain t|e:=Value.isStrOf_shape (x:=x) (v:=v) h;exact .inr #[x,t,rfl,e]
theorem Te (a b:Int):decide ((Sum.inl a:Key)=Sum.inl b)=(a == b):=by
 by_cases e:a=b
 ·subst e;simp
 ·have h:¬(Sum.inl a:Key)=Sum.inl b:=λq=>e (Sum.inl.inj q)
  rw[decide_eq_false h];exact (beq_eq_false_iff_ne.mpr e).symm
theorem Tb (a b:Str):decide ((Sum.inr a:Key)=Sum.inr b)=decide (a=b):=by
 by_cases e:a=b
 ·subst e;simp
 ·have h:¬(Sum.inr a:Key)=Sum.inr b:=λq=>e (Sum.inr.inj q)
  rw[decide_eq_false h,decide_eq_false e]
theorem Td (a:Int) (b:Str):decide ((Sum.inl a:Key)=Sum.inr b)=false:=decide_eq_false (λq=>nomatch q)
theorem Tc (a:Str) (b:Int):decide ((Sum.inr a:Key)=Sum.inl b)=false:=decide_eq_false (λq=>nomatch q)
def Kn (prog:Program) (w:World):PySem.KeyKind prog w Key where
 is:=RA
 hash:=VY w
 inj:=λv a b ha hb=>by
  rcases gR ha with ⟨i,t,rfl,rfl⟩ | ⟨x,t,rfl,rfl⟩
  ·rcases gR hb with ⟨j,u,rfl,e⟩ | ⟨y,u,rfl,e⟩
   ·injection e with e1 _;rw[e1]
   ·exact nomatch e
  ·rcases gR hb with ⟨j,u,rfl,e⟩ | ⟨y,u,rfl,e⟩
   ·exact nomatch e
   ·injection e with e1 _;rw[e1]
 byValue:=λk v h=>by
  rcases gR h with ⟨i,t,rfl,rfl⟩ | ⟨x,t,rfl,rfl⟩ <;> rfl
 pyHash:=λhv h=>by
  rcases gR hv with ⟨i,t,rfl,rfl⟩ | ⟨x,t,rfl,rfl⟩
  ·exact wpAny_pyHash_int h
  ·exact wpAny_pyHash_str h
 eqBool:=λhu hv h=>by
  rcases gR hu with ⟨i,t,rfl,rfl⟩ | ⟨x,t,rfl,rfl⟩
  ·rcases gR hv with ⟨j,u,rfl,rfl⟩ | ⟨y,u,rfl,rfl⟩
   ·rw[Te] at h;exact wpAny_eqBool_int h
   ·rw[Td] at h;exact SeqAt.EqAt.int_str i t y u _ _ _ _ h
  ·rcases gR hv with ⟨j,u,rfl,rfl⟩ | ⟨y,u,rfl,rfl⟩
   ·rw[Tc] at h;exact SeqAt.EqAt.str_int x t j u _ _ _ _ h
   ·rw[Tb] at h;exact wpAny_eqBool_str h
 «strs»:=λk x t v h=>by
  rcases gR h with ⟨i,u,rfl,e⟩ | ⟨y,u,rfl,e⟩
  ·exact nomatch e
  ·injection e with e1 _
   subst e1;cases v <;> rfl
inductive V where
  | non | bl (b : Bool) | int (i : Int) | str (x : Str) | byt (b : Array UInt8) | flt (b : UInt64) | ref (a : Addr) | ty (n : String)
  deriving DecidableEq

def RelV:V->Value->Prop
 | .non,u=>u=Value.none
 | .bl b,u=>u=Value.bool b
 | .int i,u=>∃t,u=Value.int i t
 | .str x,u=>∃t,u=Value.str x t
 | .byt b,u=>∃t,u=Value.bytes b t
 | .flt b,u=>∃t,u=Value.float b t
 | .ref a,u=>u=Value.ref a
 | .ty n,u=>u=Value.type n
abbrev dg:List V->List Value->Prop:=Paired RelV
theorem dg.length (r:dg xs us):xs.9=us.9:=Paired.length r
theorem dg.get:∀{xs:List V} {us:List Value} {i:Nat} {x:V},dg xs us->xs[i]?=some x->∃u,us[i]?=some u/\RelV x u
 | _,_,_,_,.nil,e=>by simp at e
 | _,_,0,_,.cons r _,e=>by simp at e;subst e;exact #[_,rfl,r]
 | _,_,i+1,x,.cons _ t,e=>by
  obtain u|h1|h2:=dg.get (i:=i) (x:=x) t (by simpa using e);exact #[u,by simpa using h1,h2]
theorem dg.set {x:V} {u:Value} (r:RelV x u):∀{xs:List V} {us:List Value} (i:Nat),dg xs us->dg (xs.set i x) (us.set i u)
 | _,_,_,.nil=>.nil
 | _,_,0,.cons _ t=>.cons r t
 | _,_,i+1,.cons q t=>.cons q (dg.set r i t)
theorem dg.append:∀{xs ys:List V} {us ws:List Value},dg xs us->dg ys ws->dg (xs++ys) (us++ws)
 | _,_,_,_,.nil,s=>s
 | _,_,_,_,.cons r t,s=>.cons r (dg.append t s)
theorem dg.take:∀{xs:List V} {us:List Value} (n:Nat),dg xs us->dg (xs.take n) (us.take n)
 | _,_,0,_=>.nil
 | _,_,_+1,.nil=>.nil
 | _,_,n+1,.cons r t=>.cons r (dg.take n t)
theorem dg.drop:∀{xs:List V} {us:List Value} (n:Nat),dg xs us->dg (xs.drop n) (us.drop n)
 | _,_,0,r=>r
 | _,_,_+1,.nil=>.nil
 | _,_,n+1,.cons _ t=>dg.drop n t
def BO:Option V->Option Value->Prop
 | some v,some u=>RelV v u
 | none,none=>True
 | _,_=>False
def KV {κ:Type}:List (κ×V)->List (κ×Value)->Prop:=Paired λ(p:κ×V) (q:κ×Value)=>p.1=q.1/\RelV p.2 q.2
def kV:Key->V
 | .inl i=>.int i
 | .inr x=>.str x
inductive HO where
 | lst (xs:List V)
 | tup (xs:List V)
 | dK (kvs:List (Key×V)) | dT (kvs:List (List Key×V))
 | set (S:Int->Bool) (n:Nat)
 | ins (C dx:Addr) (fs:List (Str×V))
 | own (x:Addr)
 | xd (fs:List (Str×V))
 | met (f x:Addr)
 | rng (lo hi:Int)
 | frz (o:Obj) (u:HO)
 | tbl (ps:Array Value)
 | ext (φ:Heap->Prop)
abbrev Hp:=Addr->Option HO
def upd (H:Hp) (a:Addr) (o:HO):Hp:=λb=>if b=a then some o else H b
theorem aG:upd H a o a=some o:=by unfold upd;rw[if_pos rfl]
theorem bo (h:b≠a):upd H a o b=H b:=by unfold upd;rw[if_neg h]
theorem gY {H:Hp} (h:H a=some o) (h':H b=none):a≠b:=by
 intro e;subst e;rw[h] at h';cases h'
section
variable (P:Program) (w:World)
def j5 (H:Hp) (h:Heap) (a:Addr):HO->Prop
 | .lst xs=>xs.9<=sizeLine/\∃(its:List Value) (n:Nat),dg xs its/\h.get? a=some { cls:=.type "list",data:=.seq its.toArray n }
 | .tup xs=>xs.9<=sizeLine/\∃its:List Value,dg xs its/\IsTup h a its.5
 | .dK kvs=>kvs.9<=sizeLine/\(a == sysModules)=false/\∃vs,KV kvs vs/\h.DictOf (Kn P w) a vs
 | .dT kvs=>kvs.9<=sizeLine/\(a == sysModules)=false/\∃xs:List (List Key×Addr×Value),
   Paired (λ(p:List Key×V) (q:List Key×Addr×Value)=>p.1=q.1/\H q.2.1=some (.tup (p.1.map kV))/\RelV p.2 q.2.2) kvs xs /\
   ∃o es ep,h.get? a=some o/\o.ExactDict/\o.data=.dict es ep/\es.toList=xs.map (entryOfKey (tupleKind (Kn P w)))/\(xs.map (·.1)).Nodup
 | .set S n=>h.SetOf (intKind P w) a S n
 | .ins C dx fs=>H dx=some (.own a)/\fs.9<=1000/\dx≠a/\h.get? a=some (PySem.W.instObj C dx) /\
   ∃mA,h.Ns1 dx mA/\(∀f,BO (fs.lookup f) (mA f))/\PySem.Within mA (fs.map (·.1))
 | .own _=>∃o,h.get? a=some o
 | .xd fs=>∃mA,h.Ns1 a mA/\∀f,BO (fs.lookup f) (mA f)
 | .rng lo hi=>∃t u v,h.get? a=some { cls:=.type "range",data:=.fields [.int lo t,.int hi u,.int 1 v].toArray }
 | .frz o u=>h.get? a=some o/\j5 H h a u
 | .tbl ps=>h.get? a=some { cls:=.none,data:=.fields ps }
 | .met f x=>h.get? a=some (PySem.W.methodObj (.ref f) (.ref x))
 | .ext φ=>φ h/\(∃o,h.get? a=some o)/\∀h1 h2:Heap,φ h1->(∀o,h1.get? a=some o->h2.get? a=some o)->φ h2
def zg (H:Hp) (h:Heap):Prop:=∀a o,H a=some o->j5 P w H h a o
end
section
variable {P:Program} {w:World} {H H':Hp} {h h':Heap} {a:Addr} {o:HO}
theorem j5.lt (x:j5 P w H h a o):a < h.objs.7:=by
 cases o with
 | lst xs=>obtain _|_|_|_|e:=x;exact Heap.lt_size e
 | tup xs=>obtain _|_|_|p:=x;exact p.lt
 | dK kvs=>obtain _|_|_|_|o|_|_|e|_:=x;exact Heap.lt_size e
 | dT kvs=>obtain _|_|_|_|o|_|_|e|_:=x;exact Heap.lt_size e
 | set S n=>obtain o|_|_|_|e|_:=x;exact Heap.lt_size e
 | ins C dx fs=>obtain _|_|_|e|_:=x;exact Heap.lt_size e
 | own y=>obtain _|e:=x;exact Heap.lt_size e
 | xd fs=>obtain _|⟨_,_,_,e,_⟩|_:=x;exact Heap.lt_size e
 | rng lo hi=>obtain _|_|_|e:=x;exact Heap.lt_size e
 | frz ob u=>obtain e|_:=x;exact Heap.lt_size e
 | tbl ps=>exact Heap.lt_size (show h.get? a=some _ from x)
 | met f y=>exact Heap.lt_size (show h.get? a=some _ from x)
 | ext φ=>obtain _|⟨_,e⟩|_:=x;exact Heap.lt_size e
theorem Paired.mapP {α β:Type} {F G:α->β->Prop}:∀{l₁:List α} {l₂:List β},Paired F l₁ l₂->(∀a b,F a b->G a b)->Paired G l₁ l₂
 | _,_,.nil,_=>.nil
 | _,_,.cons r t,f=>.cons (f _ _ r) (Paired.mapP t f)
theorem Paired.imp' {F G:α->β->Prop} (f:∀a b,F a b->G a b) {l₁:List α} {l₂:List β} (r:Paired F l₁ l₂):Paired G l₁ l₂:=Paired.mapP r f
theorem j5.stay (x:j5 P w H h a o) (k:∀b u,(b=a\/H b=some (.own a))->h.get? b=some u->h'.get? b=some u)
  (ho:∀b,H b=some (.own a)->H' b=some (.own a)) (ht:∀b xs,H b=some (.tup xs)->H' b=some (.tup xs)):j5 P w H' h' a o:=by
 induction o with
 | lst xs=>obtain z|its|n|r|e:=x;exact #[z,its,n,r,k _ _ (.inl rfl) e]
 | tup xs=>obtain z|its|r|ob|e|c:=x;exact #[z,its,r,ob,k _ _ (.inl rfl) e,c]
 | dK kvs=>obtain z|y|vs|r|ob|es|ep|e|c:=x;exact #[z,y,vs,r,ob,es,ep,k _ _ (.inl rfl) e,c]
 | dT kvs =>
  obtain z|y|xs|r|ob|es|ep|e|c:=x;exact #[z,y,xs,Paired.mapP r λp q z=>#[z.1,ht _ _ z.2.1,z.2.2],ob,es,ep,k _ _ (.inl rfl) e,c]
 | set S n=>obtain ob|es|ep|t|e|c:=x;exact #[ob,es,ep,t,k _ _ (.inl rfl) e,c]
 | ins C dx fs =>
  obtain d|z|ne|e|mA|⟨od,es,ep,e2,c⟩|r:=x;exact #[ho _ d,z,ne,k _ _ (.inl rfl) e,mA,#[od,es,ep,k _ _ (.inr d) e2,c],r]
 | own y=>obtain ob|e:=x;exact #[ob,k _ _ (.inl rfl) e]
 | xd fs=>obtain mA|⟨od,es,ep,e,c⟩|r:=x;exact #[mA,#[od,es,ep,k _ _ (.inl rfl) e,c],r]
 | rng lo hi=>obtain t|u|v|e:=x;exact #[t,u,v,k _ _ (.inl rfl) e]
 | frz ob u ih=>obtain e|q:=x;exact #[k _ _ (.inl rfl) e,ih q]
 | tbl ps =>
  have e:h.get? a=some { cls:=.none,data:=.fields ps }:=x;show h'.get? a=some { cls:=.none,data:=.fields ps }
  exact k a _ (.inl rfl) e
 | met f y =>
  have e:h.get? a=some (PySem.W.methodObj (.ref f) (.ref y)):=x;show h'.get? a=some (PySem.W.methodObj (.ref f) (.ref y))
  exact k a _ (.inl rfl) e
 | ext φ=>obtain p|⟨o,e⟩|st:=x;exact #[st _ _ p λo q=>k _ _ (.inl rfl) q,#[o,k _ _ (.inl rfl) e],st]
theorem zg.lt (x:zg P w H h) (e:H a=some o):a < h.objs.7:=(x a o e).lt
theorem zg.fresh (x:zg P w H h) (e:h.objs.7<=a):H a=none:=by
 cases q:H a with
 | none=>rfl
 | some u=>exact absurd (bN (x.lt q) e) (fz _)
theorem zg.kept (x:zg P w H h) (k:∀b u,h.get? b=some u->h'.get? b=some u):zg P w H h':=λa o e =>
 (x a o e).stay (λb u _ q=>k b u q) (λ_ q=>q) λ_ _ q=>q
theorem zg.laid (x:zg P w H h) (k:∀b u,h.get? b=some u->h'.get? b=some u) (hp:h.objs.7<=a) (new:j5 P w (upd H a o) h' a o):zg P w (upd H a o) h':=λb u e=>by
 have hn:=x.fresh hp;by_cases hb:b=a
 ·subst hb;rw[aG] at e;cases e;exact new
 ·rw[bo hb] at e;exact (x b u e).stay (λc v _ q=>k c v q) (λc q=>by rw[bo (gY q hn)];exact q) λc xs q=>by rw[bo (gY q hn)];exact q
end
def Rd (H:Hp) (a:Addr) (u:HO):Prop:=H a=some u\/∃o,H a=some (.frz o u)
theorem Rd.ok (r:Rd H a u) (x:zg P w H h):j5 P w H h a u:=by
 rcases r with r | ⟨o,r⟩
 ·exact x a u r
 ·obtain _|q:=x a _ r;exact q
def VG:Option HO->Prop
 | some (.lst _)=>True
 | some (.dK _)=>True
 | some (.dT _)=>True
 | some (.set _ _)=>True
 | some (.ins _ _ _)=>True
 | some (.ext _)=>True
 | _=>False
theorem zg.write (ok:zg P w H h) (mu:VG (H x)) (he:e=x\/H e=some (.own x)) (k:∀b u,b≠e->h.get? b=some u->h'.get? b=some u) (heo:∃u,h'.get? e=some u)
  (new:j5 P w (upd H x o') h' x o'):zg P w (upd H x o') h':=λb u q=>by
 have nown:∀c y,H c=some (.own y)->c≠x:=λc y r z=>by subst z;rw[r] at mu;exact mu
 have ntup:∀c xs,H c=some (.tup xs)->c≠x:=λc xs r z=>by subst z;rw[r] at mu;exact mu
 by_cases hb:b=x
 ·subst hb;rw[aG] at q;cases q;exact new
 ·rw[bo hb] at q;by_cases hbe:b=e
  ·have q':H b=some (.own x):=by
    rcases he with z | z
    ·exact absurd (hbe.trans z) hb
    ·rw[hbe];exact z
   rw[q] at q';cases q';obtain v|hv:=heo;exact #[v,by rw[hbe];exact hv]
  ·refine (ok b u q).stay (λc v hc r=>k c v ?_ r) (λc r=>by rw[bo (nown c b r)];exact r) λc xs r=>by rw[bo (ntup c xs r)];exact r
   rcases hc with rfl | hc
   ·exact hbe
   ·rintro rfl;rcases he with z | z
    ·exact nown c b hc z
    ·rw[hc] at z;cases z;exact hb rfl
structure Un (fs ex:List Addr) (H H':Hp) (h h':Heap):Prop where
 keep:∀b o,h.get? b=some o->H b=none->b∉fs->b∉ex->h'.get? b=some o
 slot:∀b o,h.get? b=some o->H b=none->b∈fs->b∉ex->∃sl,h'.get? b=some { o with slots:=sl }
 free:∀b o,h.get? b=some o->H b=none->b∉ex->H' b=none
 there:∀b o,h.get? b=some o->b∉ex->∃o',h'.get? b=some o'
 tups:∀b xs,H b=some (.tup xs)->H' b=some (.tup xs)
 frzs:∀b o u,H b=some (.frz o u)->H' b=some (.frz o u)
 tbls:∀b ps,H b=some (.tbl ps)->∃more,H' b=some (.tbl (ps++more))
section
variable {fs fs' ex ex':List Addr} {H H1 H2:Hp} {h h1 h2 h':Heap} {a x e:Addr} {o:HO}
theorem Un.any (u:Un fs ex H H1 h h1) (q:h.get? b=some ob) (n:H b=none) (hx:b∉ex):∃sl,h1.get? b=some { ob with slots:=sl }:=by
 by_cases hb:b∈fs
 ·exact u.slot b ob q n hb hx
 ·exact #[ob.slots,u.keep b ob q n hb hx]
theorem Un.kept (k:∀b u,h.get? b=some u->h'.get? b=some u):Un fs ex H H h h' :=
 #[λb ob q _ _ _=>k b ob q,λb ob q _ _ _=>#[ob.slots,k b ob q],λ_ _ _ n _=>n,λb ob q _=>#[ob,k b ob q],λ_ _ q=>q,λ_ _ _ q=>q,λ_ ps q=>#[[].toArray,by rw[q];simp]]
theorem Un.refl:Un fs ex H H h h:=Un.kept λ_ _ q=>q
theorem Un.laid (k:∀b u,h.get? b=some u->h'.get? b=some u) (hp:h.objs.7<=a) (hn:H a=none):Un fs ex H (upd H a o) h h' where
 keep:=λb u q _ _ _=>k b u q
 slot:=λb u q _ _ _=>#[u.slots,k b u q]
 free:=λb u q n _=>by rw[bo (cI (bN (Heap.lt_size q) hp))];exact n
 there:=λb u q _=>#[u,k b u q]
 tups:=λb xs q=>by rw[bo (gY q hn)];exact q
 frzs:=λb u xs q=>by rw[bo (gY q hn)];exact q
 tbls:=λb ps q=>#[[].toArray,by rw[bo (gY q hn),q];simp]
theorem Un.write (mu:VG (H x)) (he:e=x\/H e=some (.own x)) (k:∀b u,b≠e->h.get? b=some u->h'.get? b=some u) (heo:∃u,h'.get? e=some u):Un fs ex H (upd H x o) h h':=by
 have hx:∀b,H b=none->b≠x:=λb n z=>by subst z;rw[n] at mu;exact mu
 have hb:∀b,H b=none->b≠e:=λb n z=>by
  subst z;rcases he with r | r
  ·exact hx b n r
  ·rw[n] at r;cases r
 have hm:∀b u,H b=some u->¬VG (some u)->b≠x:=λb u q nm z=>by subst z;rw[q] at mu;exact nm mu
 refine #[λb u q n _ _=>k b u (hb b n) q,λb u q n _ _=>#[u.slots,k b u (hb b n) q],λb u q n _=>by rw[bo (hx b n)];exact n,λb u q _=>?_,
  λb xs q=>by rw[bo (hm b _ q λz=>z)];exact q,λb u xs q=>by rw[bo (hm b _ q λz=>z)];exact q,λb ps q=>#[[].toArray,by rw[bo (hm b _ q λz=>z),q];simp]]
 by_cases hbe:b=e
 ·subst hbe;exact heo
 ·exact #[u,k b u hbe q]
end
def Vz (h:Heap) (H:Hp):List Addr:=(List.range h.objs.7).filter λa=>(H a).isSome
def Ec (h:Heap) (H:Hp):Heap:=PySem.W.hideAll h (Vz h H)
theorem LA (h:Heap) (H:Hp):(Ec h H).objs.size=h.objs.7:=PySem.W.hideAll_size _ _
theorem NV (e:h.get? b=some o) (n:H b=none):(Ec h H).get? b=some o :=
 PySem.W.hideAll_get _ e λhm=>by
  have q:(H b).isSome=true:=(j7.mp hm).2;rw[n] at q;simp at q
theorem Qo (e:(Ec h H).get? b=some o):h.get? b=some o/\H b=none:=by
 have e':h.get? b=some o:=PySem.W.of_hideAll (Vz h H) e;refine #[e',?_];cases q:H b with
 | none=>rfl
 | some x =>
  have hm:b∈Vz h H:=j7.mpr #[kZ.mpr (Heap.lt_size e'),by simp [q]];have z:(Ec h H).get? b=none:=PySem.W.hideAll_none (Vz h H) hm;rw[z] at e;cases e
structure Mod (K:FG9) (mg:Str->Option Value) (base:Heap):Prop where
 kin:K.In base
 glob:base.Ns mainGlobals mg
 blt:∃mb,base.Ns builtinsNs mb/\∀x:Str,x≠"__name__"->mb x=bootBuiltins x
 nolimit:base.NoLimit
structure Cx where
 prog:Program
 w:World
 K:FG9
 mg:Str->Option Value
 base:Heap
 A:Around
 N:List Str
 s₀:Shared
 H₀:Hp
 env:Env
 outer:List Env
 stack:List Env
 ex:List Addr
 fn:Str->Bool
 calm:Bool
 pn:List (Addr×Obj)
 xe:Value->Shared->Prop
def Mh (l:List Env):List Addr:=l.filterMap (·.frame)
abbrev Cx.fs (X:Cx):List Addr:=Mh X.outer
def V5 (sc:Scope) (x:Str):Prop:=sc.names.lookup x=some .local\/sc.names.lookup x=some .cell\/sc.names.lookup x=some .free
def Loc (sc:Scope) (x:Str):Prop:=sc.names.lookup x=some .local\/sc.names.lookup x=some .cell
def Look (env:Env) (h:Heap) (m:Str->Option Value) (x:Str) (u:Value):Prop :=
 (env.kindOf x=some .local/\m x=some u)\/((env.kindOf x=some .cell\/env.kindOf x=some .free)/\∃c,env.cells.lookup x=some c/\h.IsCell c (some u))
structure Cx.Ok (X:Cx):Prop where
 mod:Mod X.K X.mg X.base
 kind:X.env.scope.kind=.function
 glob:X.env.globals=mainGlobals
 blt:X.env.builtins=builtinsNs
 above:X.s₀.6<=X.env.locals
 inj:∀x y c,X.env.cells.lookup x=some c->X.env.cells.lookup y=some c->x=y
 has:∀x,(X.env.kindOf x=some .cell\/X.env.kindOf x=some .free)->∃c,X.env.cells.lookup x=some c
 cab:∀x c,X.fn x=true->X.env.cells.lookup x=some c->X.s₀.6<=c
 hd:X.calm=true->X.A.handled=none
 frames:X.A.frames=some X.stack
 stk:X.stack=X.outer\/(X.stack=X.env :: X.outer/\X.env.frame=some X.env.locals)
 exf:∀b∈X.ex,b≠X.env.locals/\∀x c,X.env.cells.lookup x=some c->c≠b
 bs:∀b o,X.base.get? b=some o->X.s₀.heap.get? b=some o/\X.H₀ b=none
 bsz:X.base.objs.7<=X.s₀.heap.objs.size
 noex:∀b o,X.base.get? b=some o->b∉X.ex
 exfs:∀b∈X.ex,b∉X.fs
 funs:X.s₀.heap.FunFrames X.base X.outer
 frf:∀b∈X.fs,X.H₀ b=none
structure Inv (X:Cx) (pins:List (Addr×Obj)) (σ:List (Option V)) (H:Hp) (s:Shared):Prop where
 ok:X.Ok
 os:s.os=X.s₀.os
 bare:AllBare s.gens
 base:Un X.fs X.ex X.H₀ H X.s₀.heap s.heap
 loc:∃m,s.heap.Ns X.env.locals m/\∀(i:Nat) (x:Str) (v:V),X.N[i]?=some x->σ[i]?=some (some v)->V5 X.env.scope x->∃u,RelV v u/\Look X.env s.heap m x u
 cell:∀x c,X.env.cells.lookup x=some c->∃v,s.heap.IsCell c v
 free:H X.env.locals=none
 freeC:∀x c,X.env.cells.lookup x=some c->H c=none
 pin:∀p∈X.pn++pins,s.heap.get? p.1=some p.2/\H p.1=none/\p.1≠X.env.locals/\p.1∉X.fs/\∀v,p.2.data≠.cell v
 hok:zg X.prog X.w H s.heap
 len:σ.9=X.N.9
section
variable {X:Cx} {pins:List (Addr×Obj)} {σ:List (Option V)} {H H':Hp} {s:Shared} {h':Heap}
theorem Cx.Ok.nofr (ok:X.Ok) (e:X.base.get? b=some o):b∉X.fs:=λhb=>by
 have:=(ok.funs.mem hb).1;rw[e] at this;cases this
theorem Inv.bs (I:Inv X pins σ H s):∀b o,X.base.get? b=some o->s.heap.get? b=some o/\H b=none:=λb o e =>
 #[I.base.keep b o (I.ok.bs b o e).1 (I.ok.bs b o e).2 (I.ok.nofr e) (I.ok.noex b o e),I.base.free b o (I.ok.bs b o e).1 (I.ok.bs b o e).2 (I.ok.noex b o e)]
theorem Inv.bk (I:Inv X pins σ H s):∀b o,X.base.get? b=some o->s.heap.get? b=some o:=λb o e=>(I.bs b o e).1
theorem Inv.mod (I:Inv X pins σ H s):Mod X.K X.mg X.base:=I.ok.mod
theorem Inv.kIn (I:Inv X pins σ H s):X.K.In s.8:=I.ok.mod.kin.keeps I.bk
theorem Inv.lt (I:Inv X pins σ H s):X.env.locals < s.6:=let ⟨_,hn,_⟩:=I.loc;hn.lt
theorem Inv.sz (I:Inv X pins σ H s):X.s₀.6<=s.6:=ag I.ok.above (cC I.lt)
theorem Inv.nofs (I:Inv X pins σ H s) {a:Addr} (h:s.6<=a):a∉X.fs:=λhb=>by
 obtain _|o|ho|_:=I.ok.funs.mem hb;exact absurd (bN (Heap.lt_size ho) (ag I.sz h)) (fz _)
theorem Inv.cne (I:Inv X pins σ H s):∀x c,X.env.cells.lookup x=some c->c≠X.env.locals:=λx c e z=>by
 obtain v|o|ho|hd:=I.cell x c e;obtain m|⟨o',es,ep,ho',hd',_⟩|_:=I.loc;rw[z,ho'] at ho;cases ho;rw[hd'] at hd;cases hd
theorem Inv.funs (I:Inv X pins σ H s):s.heap.FunFrames X.base X.outer:=by
 have all:∀(l:List Env),(∀b∈Mh l,b∈X.fs)->X.s₀.heap.FunFrames X.base l->s.heap.FunFrames X.base l:=by
  intro l
  induction l with
  | nil=>intro _ _;trivial
  | cons env r ih =>
   intro hs hl;obtain hk|⟨L,o,hf,hn,ho,hd⟩|hr:=hl;have hL:L∈X.fs:=hs L (by unfold Mh;rw[E3,hf];exact d7);obtain sl|e:=I.base.slot L o ho (I.ok.frf L hL) hL λz=>I.ok.exfs L z hL
   exact #[hk,#[L,_,hf,hn,e,hd],ih (λb hb=>hs b (by unfold Mh;rw[E3,hf];exact cw _ hb)) hr]
 exact all X.outer (λ_ hb=>hb) I.ok.funs
theorem Inv.stack (I:Inv X pins σ H s):s.heap.FunFrames X.base X.stack:=by
 rcases I.ok.stk with e | ⟨e,hf⟩
 ·rw[e];exact I.funs
 ·rw[e];obtain m|hn|_:=I.loc;refine .cons (by rw[I.ok.kind];decide) hf hn ?_ I.funs;exact Heap.get?_none_of_le (ag I.ok.bsz I.ok.above)
theorem Inv.stkSub (I:Inv X pins σ H s):∀b∈Mh X.stack,b∈X.env.locals :: X.fs:=λb hb=>by
 rcases I.ok.stk with e | ⟨e,hf⟩
 ·rw[e] at hb;exact cw _ hb
 ·rw[e] at hb;unfold Mh at hb;rw[E3,hf] at hb;exact hb
theorem Inv.stkFree (I:Inv X pins σ H s):∀b∈Mh X.stack,H b=none:=λb hb=>by
 rcases aI.mp (I.stkSub b hb) with e | hb
 ·rw[e];exact I.free
 ·obtain _|o|ho|_:=I.ok.funs.mem hb;exact I.base.free b o ho (I.ok.frf b hb) λz=>I.ok.exfs b z hb
theorem Inv.step {ch:List Addr} (I:Inv X pins σ H s)
  (hch:∀b∈ch,(b∈X.ex\/X.s₀.6<=b)/\b≠X.env.locals/\(∀x c,X.env.cells.lookup x=some c->c≠b)/\∀p∈X.pn++pins,p.1≠b)
  (keep:∀b o,b≠X.env.locals->b∉X.fs->b∉ch->s.heap.get? b=some o->H b=none->h'.get? b=some o)
  (slot:∀b o,b≠X.env.locals->b∈X.fs->b∉ch->s.heap.get? b=some o->H b=none->∃sl,h'.get? b=some { o with slots:=sl }) (free:∀b o,b∉ch->s.heap.get? b=some o->H b=none->H' b=none)
  (there:∀b o,b∉ch->s.heap.get? b=some o->∃o',h'.get? b=some o')
  (tups:∀b xs,H b=some (.tup xs)->H' b=some (.tup xs)) (frzs:∀b o u,H b=some (.frz o u)->H' b=some (.frz o u)) (tbls:∀b ps,H b=some (.tbl ps)->∃more,H' b=some (.tbl (ps++more)))
  (ns:∀m,s.heap.Ns X.env.locals m->h'.Ns X.env.locals m) (hok:zg X.prog X.w H' h') (hg:AllBare g') :
  Inv X pins σ H' { s with heap:=h',gens:=g',drawn:=d',toks:=t' }:=by
 have neL:∀b o,X.s₀.heap.get? b=some o->b≠X.env.locals:=λb o e=>cI (bN (Heap.lt_size e) I.ok.above)
 have neC:∀b o,X.s₀.heap.get? b=some o->b∉X.ex->b∉ch:=λb o e hx hb=>by
  rcases (hch b hb).1 with z | z
  ·exact hx z
  ·exact absurd (bN (Heap.lt_size e) z) (fz _)
 have cellK:∀x c,X.env.cells.lookup x=some c->∀v,s.heap.IsCell c v->h'.IsCell c v:=λx c e v #[o,ho,hd]=>by
  have nch:c∉ch:=λz=>(hch c z).2.2.1 x c e rfl
  by_cases hc:c∈X.fs
  ·obtain sl|q:=slot c o (I.cne x c e) hc nch ho (I.freeC x c e);exact #[_,q,hd]
  ·exact #[o,keep c o (I.cne x c e) hc nch ho (I.freeC x c e),hd]
 refine #[I.ok,I.os,hg,#[λb o e n hb hx=>?_,λb o e n hb hx=>?_,λb o e n hx=>?_,λb o e hx=>?_,λb xs e=>tups b xs (I.base.tups b xs e),λb o xs e=>frzs b o xs (I.base.frzs b o xs e),λb ps e=>?_],?_,λx c e=>?_,?_,λx c e=>?_,λp hp=>?_,hok,I.len]
 ·exact keep b o (neL b o e) hb (neC b o e hx) (I.base.keep b o e n hb hx) (I.base.free b o e n hx)
 ·obtain sl|e1:=I.base.slot b o e n hb hx;obtain sl'|e2:=slot b _ (neL b o e) hb (neC b o e hx) e1 (I.base.free b o e n hx);exact #[sl',e2]
 ·obtain o'|e1:=I.base.there b o e hx;exact free b o' (neC b o e hx) e1 (I.base.free b o e n hx)
 ·obtain o'|e1:=I.base.there b o e hx;exact there b o' (neC b o e hx) e1
 ·obtain m1|e1:=I.base.tbls b ps e;obtain m2|e2:=tbls b _ e1;exact #[m1++m2,by rw[e2,Array.append_assoc]]
 ·obtain m|hn|hl:=I.loc;refine #[m,ns m hn,λi x v e1 e2 e3=>?_];obtain u|r|l:=hl i x v e1 e2 e3;refine #[u,r,?_];rcases l with l | ⟨k,c,e,z⟩
  ·exact .inl l
  ·exact .inr #[k,c,e,cellK x c e _ z]
 ·obtain v|z:=I.cell x c e;exact #[v,cellK x c e v z]
 ·obtain m|⟨o,_,_,ho,_⟩|_:=I.loc;exact free _ o (λz=>(hch _ z).2.1 rfl) ho I.free
 ·obtain v|o|ho|hd:=I.cell x c e;exact free c o (λz=>(hch c z).2.2.1 x c e rfl) ho (I.freeC x c e)
 ·obtain e|n|ne|nf|d:=I.pin p hp;have nch:p.1∉ch:=λz=>(hch p.1 z).2.2.2 p hp rfl
  exact #[keep p.1 p.2 ne nf nch e n,free p.1 p.2 nch e n,ne,nf,d]
theorem Inv.un (I:Inv X pins σ H s) (u:Un X.fs [] H H' s.heap h') (hok:zg X.prog X.w H' h'):Inv X pins σ H' { s with heap:=h',toks:=t' }:=by
 obtain m|⟨o,es,ep,ho,r⟩|_:=id I.loc;obtain sl|hL:=u.any ho I.free (by simp)
 exact I.step (g':=s.gens) (d':=s.drawn) (ch:=[]) (λ_ z=>nomatch z) (λb o _ hb _ e n=>u.keep b o e n hb (by simp)) (λb o _ hb _ e n=>u.slot b o e n hb (by simp)) (λb o _ e n=>u.free b o e n (by simp)) (λb o _ e=>u.there b o e (by simp)) u.tups u.frzs u.tbls (λm' hm=>by
  obtain o'|es'|ep'|ho'|r':=hm;rw[ho] at ho';cases ho';exact #[_,es',ep',hL,r']) hok I.bare
theorem Inv.call (I:Inv X pins σ H s) (u:Un (Mh X.stack) ch H H' s.heap h') (hok:zg X.prog X.w H' h') (hg:AllBare g')
  (hch:∀b∈ch,(b∈X.ex\/X.s₀.6<=b)/\b≠X.env.locals/\(∀x c,X.env.cells.lookup x=some c->c≠b)/\∀p∈X.pn++pins,p.1≠b) :
  Inv X pins σ H' { s with heap:=h',gens:=g',drawn:=d',toks:=t' }:=by
 obtain m|⟨o,es,ep,ho,r⟩|_:=id I.loc;obtain sl|hL:=u.any ho I.free λz=>(hch _ z).2.1 rfl
 exact I.step (ch:=ch) hch (λb o hL hb hc e n=>u.keep b o e n (λz=>(aI.mp (I.stkSub b z)).elim hL hb) hc) (λb o _ _ hc e n=>u.any e n hc) (λb o hc e n=>u.free b o e n hc) (λb o hc e=>u.there b o e hc) u.tups u.frzs u.tbls (λm' hm=>by
  obtain o'|es'|ep'|ho'|r':=hm;rw[ho] at ho';cases ho';exact #[_,es',ep',hL,r']) hok hg
theorem Inv.turned (I:Inv X pins σ H s) (k:∀b o,b≠it->s.heap.get? b=some o->h'.get? b=some o) (hn:H it=none) (hL:it≠X.env.locals)
  (h1:it∈X.ex\/X.s₀.6<=it) (h2:∀x c,X.env.cells.lookup x=some c->c≠it) (h3:∀p∈X.pn++pins,p.1≠it):Inv X pins σ H { s with heap:=h',toks:=t' }:=by
 have nit:∀b u,H b=some u->b≠it:=λb u e z=>by rw[z,hn] at e;cases e
 refine I.step (g':=s.gens) (d':=s.drawn) (ch:=[it]) (λb hb=>?_) (λb o _ _ hc e _=>k b o (λz=>hc (by simp [z])) e) (λb o _ _ hc e _=>#[o.slots,k b o (λz=>hc (by simp [z])) e]) (λ_ _ _ _ n=>n)
  (λb o hc e=>#[o,k b o (λz=>hc (by simp [z])) e]) (λ_ _ e=>e) (λ_ _ _ e=>e) (λb ps e=>#[[].toArray,by rw[e];simp]) (λm hm=>?_) (λb u e=>?_) I.bare
 ·have e:b=it:=by simpa using hb
  subst e;exact #[h1,hL,h2,h3]
 ·obtain o|es|ep|ho|r:=hm;exact #[o,es,ep,k _ o (Ne.symm hL) ho,r]
 ·refine (I.hok b u e).stay (λc v hc q=>k c v ?_ q) (λ_ q=>q) λ_ _ q=>q
  rcases hc with z | z
  ·rw[z];exact nit b u e
  ·exact nit c _ z
theorem Inv.tok (I:Inv X pins σ H s) (t:Nat):Inv X pins σ H { s with toks:=t }:=I.un (h':=s.8) (t':=t) Un.refl I.hok
theorem Inv.kept (I:Inv X pins σ H s) (k:∀b u,s.heap.get? b=some u->h'.get? b=some u):Inv X pins σ H { s with heap:=h',toks:=t' }:=I.un (Un.kept k) (I.hok.kept k)
theorem Inv.laid {a:Addr} (I:Inv X pins σ H s) (k:∀b u,s.heap.get? b=some u->h'.get? b=some u) (hp:s.6<=a) (new:j5 X.prog X.w (upd H a o) h' a o) :
  Inv X pins σ (upd H a o) { s with heap:=h',toks:=t' }:=I.un (Un.laid k hp (I.hok.fresh hp)) (I.hok.laid k hp new)
theorem Inv.write (I:Inv X pins σ H s) (mu:VG (H x)) (he:e=x\/H e=some (.own x)) (k:∀b u,b≠e->s.heap.get? b=some u->h'.get? b=some u) (heo:∃u,h'.get? e=some u)
  (new:j5 X.prog X.w (upd H x o) h' x o):Inv X pins σ (upd H x o) { s with heap:=h',toks:=t' }:=I.un (Un.write mu he k heo) (I.hok.write mu he k heo new)
theorem Inv.pins_of (I:Inv X pins σ H s) (h:∀p∈pins',s.heap.get? p.1=some p.2/\H p.1=none/\p.1≠X.env.locals/\p.1∉X.fs/\∀v,p.2.data≠.cell v):Inv X pins' σ H s :=
 #[I.ok,I.os,I.bare,I.base,I.loc,I.cell,I.free,I.freeC,λp hp=>(ay.mp hp).elim (λz=>I.pin p (fb _ z)) (h p),I.hok,I.len]
theorem F0 {N:List Str} (hN:N.Nodup) {i j:Nat} (a:N[i]?=some x) (b:N[j]?=some x):i=j:=by
 obtain h1|e1:=aE.mp a;obtain h2|e2:=aE.mp b;exact (List.getElem_inj hN).mp (e1.trans e2.symm)
theorem BU {M:Model} {A:Around} {E:Value->Shared->Prop} {i:Nat} {x:Str} {v:V} {u:Value} {Q:Unit->Shared->Prop} (I:Inv X pins σ H s) (hN:X.N.Nodup) (hi:X.N[i]?=some x) (hx:Loc X.env.scope x) (r:RelV v u)
  (h:∀s',Inv X pins (σ.set i (some v)) H s'->(∃a,Heap.SameBut a s.heap s'.8/\(a=X.env.locals\/X.env.cells.lookup x=some a))->Q .unit s') (hf:X.fn x=true\/X.env.scope.names.lookup x=some .local:=by first | exact .inl rfl | exact .inr rfl | assumption):wpAny M A (storeName X.env x u) Q E s:=by
 obtain m|hn|hl:=id I.loc;have hcls:(X.env.scope.kind == .class || (X.env.scope.kind == .module && X.env.locals != X.env.globals))=false:=by rw[I.ok.kind];rfl
 have hiσ:i < σ.9:=by rw[I.len];exact (aE.mp hi).1
 have cne:=I.cne
 have tracked:∀{a:Addr} {h':Heap},(∃o,s.heap.get? a=some o/\H a=none)->Heap.SameBut a s.heap h'->zg X.prog X.w H h':=λ{a h'} ha hs b ob e=>by
  obtain _|_|hfree:=ha;refine (I.hok b ob e).stay (λc w' hc q=>(hs.2 c ?_).trans q) (λ_ q=>q) λ_ _ q=>q
  rintro rfl;rcases hc with rfl | hc
  ·rw[hfree] at e;cases e
  ·rw[hfree] at hc;cases hc
 rcases hx with hk | hk
 ·refine wpAny_storeName_local hk hn (λh' hn' hs=>?_) hcls;obtain oL|_|_|hoL|_:=id hn;refine h _ #[I.ok,I.os,I.bare,#[λb o e n hb hx=>?_,λb o e n hb hx=>?_,I.base.free,λb o e hx=>?_,I.base.tups,I.base.frzs,I.base.tbls],#[_,hn',λj y v' e1 e2 e3=>?_],λy c e=>?_,I.free,I.freeC,λp hp=>?_,tracked #[oL,hoL,I.free] hs,by simpa using I.len] #[_,hs,.inl rfl]
  ·exact (hs.2 b (cI (bN (Heap.lt_size e) I.ok.above))).trans (I.base.keep b o e n hb hx)
  ·obtain sl|e1:=I.base.slot b o e n hb hx;exact #[sl,(hs.2 b (cI (bN (Heap.lt_size e) I.ok.above))).trans e1]
  ·obtain o'|e1:=I.base.there b o e hx;exact #[o',(hs.2 b (cI (bN (Heap.lt_size e) I.ok.above))).trans e1]
  ·by_cases hj:j=i
   ·subst hj;rw[hi] at e1;cases e1;rw[List.getElem?_set_self hiσ] at e2;cases e2;exact #[u,r,.inl #[hk,by simp]]
   ·rw[List.getElem?_set_ne (Ne.symm hj)] at e2;obtain u'|r'|q:=hl j y v' e1 e2 e3;refine #[u',r',?_];rcases q with ⟨k,e⟩ | ⟨k,c,e,z⟩
    ·refine .inl #[k,?_];have:y≠x:=λe=>hj (F0 hN e1 (e ▸ hi))
     simp [this,e]
    ·exact .inr #[k,c,e,z.sameBut hs (cne y c e)]
  ·obtain w'|z:=I.cell y c e;exact #[w',z.sameBut hs (cne y c e)]
  ·obtain e|n|ne|nf|d:=I.pin p hp;exact #[(hs.2 p.1 ne).trans e,n,ne,nf,d]
 ·have hfn:X.fn x=true:=by
   rcases hf with z | z
   ·exact z
   ·rw[z] at hk;cases hk
  obtain c|hc:=I.ok.has x (.inl hk);obtain w'|z:=I.cell x c hc;refine wpAny_storeName_cell I.ok.kind hk hc z (λh' hc' hs=>?_);obtain oc|hoc|hocd:=id z;refine h { s with heap:=h' } ⟨I.ok,I.os,I.bare,⟨λb o e n hb hx=>?_,λb o e n hb hx=>?_,I.base.free,λb o e hx=>?_,I.base.tups,I.base.frzs,I.base.tbls⟩,#[m,hn.sameBut hs (Ne.symm (cne x c hc)),λj y v' e1 e2 e3=>?_],λy c' e=>?_,I.free,I.freeC,λp hp=>?_,tracked #[oc,hoc,I.freeC x c hc] hs,by simpa using I.len⟩ #[c,hs,.inr hc]
  ·exact (hs.2 b (cI (bN (Heap.lt_size e) (I.ok.cab x c hfn hc)))).trans (I.base.keep b o e n hb hx)
  ·obtain sl|e1:=I.base.slot b o e n hb hx;exact #[sl,(hs.2 b (cI (bN (Heap.lt_size e) (I.ok.cab x c hfn hc)))).trans e1]
  ·obtain o'|e1:=I.base.there b o e hx;exact #[o',(hs.2 b (cI (bN (Heap.lt_size e) (I.ok.cab x c hfn hc)))).trans e1]
  ·by_cases hj:j=i
   ·subst hj;rw[hi] at e1;cases e1;rw[List.getElem?_set_self hiσ] at e2;cases e2;exact #[u,r,.inr #[.inl hk,c,hc,hc']]
   ·rw[List.getElem?_set_ne (Ne.symm hj)] at e2;obtain u'|r'|q:=hl j y v' e1 e2 e3;refine #[u',r',?_];rcases q with q | ⟨k,c',e,z'⟩
    ·exact .inl q
    ·refine .inr #[k,c',e,z'.sameBut hs ?_];rintro rfl;exact hj (F0 hN e1 (I.ok.inj _ _ _ e hc ▸ hi))
  ·by_cases hcc:c'=c
   ·subst hcc;exact #[_,hc']
   ·obtain w2|z2:=I.cell y c' e;exact #[w2,z2.sameBut hs hcc]
  ·obtain e|n|ne|nf|d:=I.pin p hp;refine #[(hs.2 p.1 ?_).trans e,n,ne,nf,d];intro q;rw[q,hoc] at e;have q':oc=p.2:=cg e;exact d w' (by rw[<- q'];exact hocd)
theorem vX {M:Model} {A:Around} {E:Value->Shared->Prop} {i:Nat} {x:Str} {v:V} {u:Value} {Q:Unit->Shared->Prop} (I:Inv X pins σ H s) (hN:X.N.Nodup) (hi:X.N[i]?=some x) (hx:Loc X.env.scope x) (r:RelV v u)
  (h:∀s',Inv X pins (σ.set i (some v)) H s'->Q .unit s') (hf:X.fn x=true\/X.env.scope.names.lookup x=some .local:=by first | exact .inl rfl | exact .inr rfl | assumption):wpAny M A (storeName X.env x u) Q E s :=
 BU I hN hi hx r (λs' I' _=>h s' I') hf
theorem Inv.call' (I:Inv X pins σ H s) (ho:s'.os=s.os) (u:Un (Mh X.stack) ch H H' s.heap s'.8) (hok:zg X.prog X.w H' s'.8) (hg:AllBare s'.gens)
  (hch:∀b∈ch,(b∈X.ex\/X.s₀.6<=b)/\b≠X.env.locals/\(∀x c,X.env.cells.lookup x=some c->c≠b)/\∀p∈X.pn++pins,p.1≠b):Inv X pins σ H' s':=by
 obtain h'|g'|d'|t'|o':=s';have e:o'=s.os:=ho;subst e;exact I.call (g':=g') (t':=t') (d':=d') u hok hg hch
end
abbrev XK:=Value->Option Addr->Hp->Prop
abbrev St:=List (Option V)
abbrev VK:=V->Hp->Prop
abbrev TE:=St->Hp->VK->Prop
abbrev TT:=St->Hp->(Bool->Hp->Prop)->Prop
abbrev TA:=St->Hp->(List V->Hp->Prop)->Prop
structure Ends where
 nx:St->Hp->Prop
 rt:VK
 bk:St->Hp->Prop:=λ_ _=>False
 ct:St->Hp->Prop:=λ_ _=>False
abbrev TS:=Ends->St->Hp->Prop
def EP (X:Cx) (pins:List (Addr×Obj)) (σ:St) (Q:VK) (u:Value) (s':Shared):Prop:=∃v H',Inv X pins σ H' s'/\RelV v u/\Q v H'
def TP (X:Cx) (pins:List (Addr×Obj)) (σ:St) (Q:Bool->Hp->Prop) (b:Bool) (s':Shared):Prop:=∃H',Inv X pins σ H' s'/\Q b H'
def AP (X:Cx) (pins:List (Addr×Obj)) (σ:St) (Q:List V->Hp->Prop) (us:List Value) (s':Shared):Prop:=∃vs H',Inv X pins σ H' s'/\dg vs us/\Q vs H'
def SP (X:Cx) (pins:List (Addr×Obj)) (D:Ends) (f:Flow) (s':Shared):Prop :=
 match f with
 | .next=>∃σ' H',Inv X pins σ' H' s'/\D.nx σ' H'
 | .brk=>∃σ' H',Inv X pins σ' H' s'/\D.bk σ' H'
 | .cont=>∃σ' H',Inv X pins σ' H' s'/\D.ct σ' H'
 | .ret u=>∃v σ' H',Inv X pins σ' H' s'/\RelV v u/\D.rt v H'
def PE (X:Cx) (e:Expr) (t:TE):Prop :=
 ∀(pins:List (Addr×Obj)) (s:Shared) (σ:St) (H:Hp) (Q:VK),Inv X pins σ H s->t σ H Q->wpAny (model X.prog X.w) X.A (eval e X.env) (EP X pins σ Q) X.xe s
def PT (X:Cx) (e:Expr) (t:TT):Prop :=
 ∀(pins:List (Addr×Obj)) (s:Shared) (σ:St) (H:Hp) (Q:Bool->Hp->Prop),Inv X pins σ H s->t σ H Q->wpAny (model X.prog X.w) X.A (isTrue e X.env (eval e X.env)) (TP X pins σ Q) X.xe s
def PW (X:Cx) (e:Expr) (t:TT):Prop :=
 ∀(whole:Sem Value) (pins:List (Addr×Obj)) (s:Shared) (σ:St) (H:Hp) (Q:Bool->Hp->Prop),Inv X pins σ H s->t σ H Q->wpAny (model X.prog X.w) X.A (isTrue e X.env whole) (TP X pins σ Q) X.xe s
theorem PW.pt (h:PW X e t):PT X e t:=h _
def PA (X:Cx) (es:List Expr) (t:TA):Prop :=
 ∀(pos:Pos) (pins:List (Addr×Obj)) (s:Shared) (σ:St) (H:Hp) (Q:List V->Hp->Prop),Inv X pins σ H s->t σ H Q->wpAny (model X.prog X.w) X.A (spliced (backTo pos (starEach es X.env))) (AP X pins σ Q) X.xe s
def PS (X:Cx) (st:Stmt) (t:TS):Prop :=
 ∀(pins:List (Addr×Obj)) (s:Shared) (σ:St) (H:Hp) (D:Ends),Inv X pins σ H s->t D σ H->wpAny (model X.prog X.w) X.A (exec st X.env) (SP X pins D) X.xe s
def Im (X:Cx) (st:List Stmt) (t:TS):Prop :=
 ∀(pins:List (Addr×Obj)) (s:Shared) (σ:St) (H:Hp) (D:Ends),Inv X pins σ H s->t D σ H->wpAny (model X.prog X.w) X.A (execs st X.env) (SP X pins D) X.xe s
theorem iG {t:Sem α} {Q Q':α->Shared->Prop} (h:wpAny M A t Q E s) (hQ:∀a s,Q a s->Q' a s):wpAny M A t Q' E s:=wpAny_mono h hQ λ_ _ x=>x
section
variable {X:Cx}
def RX (i:Nat):TE:=λσ H Q=>∃v,σ[i]?=some (some v)/\Q v H
def tC (v:V):TE:=λ_ H Q=>Q v H
theorem SY {i:Nat} {x:Str} {pos:Pos} (hN:X.N[i]?=some x) (hv:V5 X.env.scope x) (hd:(x == ("__debug__":Str))=false:=by decide) (hcd:(x == ("__classdict__":Str))=false:=by decide):PE X (.Name x pos) (RX i):=by
 intro pins s σ H Q I h;obtain v|e|h:=h;obtain m|hn|hl:=I.loc;obtain u|r|l:=hl i x v hN e hv;have fin:EP X pins σ Q u s:=#[v,H,I,r,h];rcases l with ⟨hk,hm⟩ | ⟨hk,c,hc,hcell⟩
 ·exact wpAny_Name (wpAny_loadName_local I.ok.kind hk hn hm fin) hd
 ·rcases hk with hk | hk
  ·exact wpAny_Name (wpAny_loadName_cell I.ok.kind hk hc hcell fin) hd
  ·exact wpAny_Name (wpAny_loadName_free I.ok.kind hk hc hcell fin hcd) hd
theorem aj:PE X (.Constant (.int i) j pos) (tC (.int i)):=λ_ _ _ H _ I h=>wpAny_Constant_int #[.int i,H,I.tok _,#[_,rfl],h]
theorem sF:PE X (.Constant (.bool b) j pos) (tC (.bl b)):=λ_ _ _ H _ I h=>Constant_bool #[.bl b,H,I,rfl,h]
theorem xM:PE X (.Constant .none j pos) (tC .non):=λ_ _ _ H _ I h=>Constant_none #[.non,H,I,rfl,h]
theorem lK:PE X (.Constant (.str x) j pos) (tC (.str x)):=λ_ _ _ H _ I h=>Calls.Constant_str #[.str x,H,I.tok _,#[_,rfl],h]
def Gl (X:Cx) (x:Str):Prop:=X.env.kindOf x=some .globalImplicit
theorem Ea {E:Value->Shared->Prop} {pins:List (Addr×Obj)} {s:Shared} {σ:St} {H:Hp} {x:Str} {u:Value} {pos:Pos} {Q:Value->Shared->Prop} (I:Inv X pins σ H s) (hg:Gl X x) (hm:X.mg x=some u) (h:Q u s)
  (hd:(x == ("__debug__":Str))=false:=by decide):wpAny (model X.prog X.w) X.A (eval (.Name x pos) X.env) Q E s :=
 Calls.Name_function_global I.ok.kind hg (Calls.loadGlobal_global (by rw[I.ok.glob];exact I.mod.glob.keeps I.bk) hm h) hd
theorem lZ {E:Value->Shared->Prop} {pins:List (Addr×Obj)} {s:Shared} {σ:St} {H:Hp} {x:Str} {u:Value} {pos:Pos} {Q:Value->Shared->Prop} (I:Inv X pins σ H s) (hg:Gl X x) (hm:X.mg x=none) (hv:bootBuiltins x=some u) (h:Q u s)
  (hn:x≠"__name__":=by decide) (hd:(x == ("__debug__":Str))=false:=by decide):wpAny (model X.prog X.w) X.A (eval (.Name x pos) X.env) Q E s:=by
 obtain mb|h1|h2:=I.mod.blt;exact Calls.Name_function_global I.ok.kind hg (Calls.loadGlobal_builtin (by rw[I.ok.glob];exact I.mod.glob.keeps I.bk) hm (by rw[I.ok.blt];exact h1.keeps I.bk) ((h2 x hn).trans hv) h) hd
theorem jJ {x:Str} {v:V} {u:Value} {pos:Pos} (hg:Gl X x) (hm:X.mg x=some u) (r:RelV v u) (hd:(x == ("__debug__":Str))=false:=by decide):PE X (.Name x pos) (tC v) :=
 λ_ _ _ H _ I h=>Ea I hg hm #[v,H,I,r,h] hd
theorem Kh {x:Str} {v:V} {u:Value} {pos:Pos} (hg:Gl X x) (hm:X.mg x=none) (hv:bootBuiltins x=some u) (r:RelV v u) (hn:x≠"__name__":=by decide) (hd:(x == ("__debug__":Str))=false:=by decide):PE X (.Name x pos) (tC v) :=
 λ_ _ _ H _ I h=>lZ I hg hm hv #[v,H,I,r,h] hn hd
variable {a b:Expr} {ta tb:TE} {pos:Pos}
def tB (t:TE):TT:=λσ H Q=>t σ H λx H1=>∃c,x=.bl c/\Q c H1
theorem tV {e:Expr} {t:TE} (h:PE X e t) (he:∀whole,isTrue e X.env whole=(do let v <- whole;standAt e.pos;holding [v] (truthy v)):=by intro _;rfl):PT X e (tB t):=by
 intro pins s σ H Q I hw;refine isTrue_plain (iG (h pins s σ H _ I hw) λv s1 #[x,H1,I1,r1,q1]=>?_) (he _);obtain d|rfl|q:=q1;cases r1;exact wpAny_truthy_bool #[H1,I1,q]
variable {tA tB':TT} {rest:List Expr}
def Ux (t u:TT):TT:=λσ H Q=>t σ H λc H1=>if c=true then u σ H1 Q else Q false H1
def tOr (t u:TT):TT:=λσ H Q=>t σ H λc H1=>if c=true then Q true H1 else u σ H1 Q
def Ur (t:TT):TT:=λσ H Q=>t σ H λc H1=>Q (!c) H1
theorem mi (ha:PT X a tA):PW X (.BoolOp .And [a] pos) tA:=by
 intro wh pins s σ H Q I h;refine isTrue_and (iG (ha pins s σ H Q I h) λc s1 e=>?_);cases c with
 | true=>exact isTrue_and_nil e
 | false=>exact e
theorem pT (ha:PT X a tA):PW X (.BoolOp .Or [a] pos) tA:=by
 intro wh pins s σ H Q I h;refine isTrue_or (iG (ha pins s σ H Q I h) λc s1 e=>?_);cases c with
 | false=>exact isTrue_or_nil e
 | true=>exact e
theorem ks (ha:PT X a tA) (hb:PW X (.BoolOp .And (b :: rest) pos) tB'):PW X (.BoolOp .And (a :: b :: rest) pos) (Ux tA tB'):=by
 intro wh pins s σ H Q I h;refine isTrue_and (iG (ha pins s σ H _ I h) λc s1 #[H1,I1,q1]=>?_);cases c with
 | true=>exact hb wh pins s1 σ H1 Q I1 q1
 | false=>exact #[H1,I1,q1]
theorem vn (ha:PT X a tA) (hb:PW X (.BoolOp .Or (b :: rest) pos) tB'):PW X (.BoolOp .Or (a :: b :: rest) pos) (tOr tA tB'):=by
 intro wh pins s σ H Q I h;refine isTrue_or (iG (ha pins s σ H _ I h) λc s1 #[H1,I1,q1]=>?_);cases c with
 | true=>exact #[H1,I1,q1]
 | false=>exact hb wh pins s1 σ H1 Q I1 q1
theorem tW (ha:PT X a tA):PT X (.UnaryOp .Not a pos) (Ur tA):=by
 intro pins s σ H Q I h;exact isTrue_not (ha pins s σ H (λc H1=>Q (!c) H1) I h)
def Q7 (ta tb:TE):TE:=λσ H Q=>ta σ H λx H1=>∃c,x=.bl c/\if c=true then tb σ H1 Q else Q (.bl false) H1
def Up (ta tb:TE):TE:=λσ H Q=>ta σ H λx H1=>∃c,x=.bl c/\if c=true then Q (.bl true) H1 else tb σ H1 Q
def Q1 (ta:TE):TE:=λσ H Q=>ta σ H λx H1=>∃c,x=.bl c/\Q (.bl (!c)) H1
theorem IS (h:PE X a t):PE X (.BoolOp op [a] pos) t:=λpins s σ H Q I hw=>BoolOp_one (h pins s σ H Q I hw)
theorem Nr (ha:PE X a ta) (hb:PE X (.BoolOp .And (b :: rest) pos) tb):PE X (.BoolOp .And (a :: b :: rest) pos) (Q7 ta tb):=by
 intro pins s σ H Q I h;refine BoolOp_and (iG (ha pins s σ H _ I h) λv s1 #[x,H1,I1,r1,q1]=>?_);obtain c|rfl|q1:=q1;cases r1;refine wpAny_truthy_bool ?_;cases c with
 | true=>exact hb pins s1 σ H1 Q I1 q1
 | false=>exact #[.bl false,H1,I1,rfl,q1]
theorem UX (ha:PE X a ta) (hb:PE X (.BoolOp .Or (b :: rest) pos) tb):PE X (.BoolOp .Or (a :: b :: rest) pos) (Up ta tb):=by
 intro pins s σ H Q I h;refine BoolOp_or (iG (ha pins s σ H _ I h) λv s1 #[x,H1,I1,r1,q1]=>?_);obtain c|rfl|q1:=q1;cases r1;refine wpAny_truthy_bool ?_;cases c with
 | false=>exact hb pins s1 σ H1 Q I1 q1
 | true=>exact #[.bl true,H1,I1,rfl,q1]
theorem S0 (ha:PE X a ta):PE X (.UnaryOp .Not a pos) (Q1 ta):=by
 intro pins s σ H Q I h;refine UnaryOp_ (iG (ha pins s σ H _ I h) λv s1 #[x,H1,I1,r1,q1]=>?_);obtain c|rfl|q1:=q1;cases r1;exact not_of (wpAny_truthy_bool #[.bl (!c),H1,I1,rfl,q1])
def tIf (t:TT) (ta tb:TE):TE:=λσ H Q=>t σ H λc H1=>if c=true then ta σ H1 Q else tb σ H1 Q
theorem FT (hc:PT X c tA) (ha:PE X a ta) (hb:PE X b tb):PE X (.IfExp c a b pos) (tIf tA ta tb):=by
 intro pins s σ H Q I h;refine wpAny_IfExp (iG (hc pins s σ H _ I h) λd s1 #[H1,I1,q1]=>?_);cases d with
 | true=>exact ha pins s1 σ H1 Q I1 q1
 | false=>exact hb pins s1 σ H1 Q I1 q1
end
def bE (K:FG9) (H:Hp) (a:Addr) (xs:List V):Prop :=
 Rd H a (.lst xs) \/
  ∃(o:Obj) (its:Array Value) (n:Nat),K.lookup a=some o/\o.cls=.type "list"/\o.dict=none/\o.data=.seq its n/\its.7<=sizeLine/\dg xs its.toList
def sL (K:FG9) (H:Hp) (a:Addr) (xs:List V):Prop :=
 Rd H a (.tup xs) \/
  ∃(o:Obj) (its:Array Value) (n:Nat),K.lookup a=some o/\o.cls=.type "tuple"/\o.data=.seq its n/\its.7<=sizeLine/\dg xs its.toList
def V4:Value->Option V
 | .none=>some .non
 | .bool b=>some (.bl b)
 | .int i _=>some (.int i)
 | .str x _=>some (.str x)
 | .bytes b _=>some (.byt b)
 | .float b _=>some (.flt b)
 | .ref a=>some (.ref a)
 | .type n=>some (.ty n)
 | _=>none
theorem RelV.abs (r:RelV x u):V4 u=some x:=by
 cases x with
 | non=>cases r;rfl
 | bl _=>cases r;rfl
 | int _=>obtain t|rfl:=r;rfl
 | str _=>obtain t|rfl:=r;rfl
 | byt _=>obtain t|rfl:=r;rfl
 | flt _=>obtain t|rfl:=r;rfl
 | ref _=>cases r;rfl
 | ty _=>cases r;rfl
theorem RelV.inj (r:RelV x u) (q:RelV y u):x=y:=cg (r.abs.symm.trans q.abs)
theorem dg.inj:∀{xs ys:List V} {us:List Value},dg xs us->dg ys us->xs=ys
 | _,_,_,.nil,.nil=>rfl
 | _,_,_,.cons r t,.cons r' t'=>by rw[r.inj r',dg.inj t t']
section
variable {σ:St}
theorem bE.of {K:FG9} (h:H a=some (.lst xs)):bE K H a xs:=.inl (.inl h)
theorem sL.of {K:FG9} (h:H a=some (.tup xs)):sL K H a xs:=.inl (.inl h)
theorem Inv.list (I:Inv X pins σ H s) (h:bE X.K H a xs):∃its:List Value,dg xs its/\PlainL s.heap a its.5/\xs.9<=sizeLine:=by
 rcases h with h | ⟨o,its,n,hk,hc,hd,hs,hz,r⟩
 ·obtain z|its|n|r|e:=h.ok I.hok;exact #[its,r,#[_,n,e,rfl,rfl,rfl],z]
 ·refine #[its.toList,r,#[o,n,I.kIn a o hk,hc,hd,by simpa using hs],?_];have e:=r.9;simp only[Array.length_toList] at e
  lia
theorem Inv.tuple (I:Inv X pins σ H s) (h:sL X.K H a xs):∃its:List Value,dg xs its/\IsTup s.heap a its.5/\xs.9<=sizeLine:=by
 rcases h with h | ⟨o,its,n,hk,hc,hs,hz,r⟩
 ·obtain z|its|r|p:=h.ok I.hok;exact #[its,r,p,z]
 ·refine #[its.toList,r,#[o,I.kIn a o hk,hc,n,by simpa using hs],?_];have e:=r.9;simp only[Array.length_toList] at e
  lia
theorem Inv.list_inj (I:Inv X pins σ H s) (h:bE X.K H a xs) (h':bE X.K H a ys):xs=ys:=by
 obtain its|r|⟨o,n,e,_,_,d⟩|_:=I.list h;obtain its'|r'|⟨o',n',e',_,_,d'⟩|_:=I.list h';rw[e] at e';cases e';rw[d] at d';injection d' with d1 _
 have:its=its':=by simpa using congrArg Array.toList d1
 subst this;exact r.inj r'
theorem Inv.tuple_inj (I:Inv X pins σ H s) (h:sL X.K H a xs) (h':sL X.K H a ys):xs=ys:=by
 obtain its|r|⟨o,e,_,n,d⟩|_:=I.tuple h;obtain its'|r'|⟨o',e',_,n',d'⟩|_:=I.tuple h';rw[e] at e';cases e';rw[d] at d';injection d' with d1 _
 have:its=its':=by simpa using congrArg Array.toList d1
 subst this;exact r.inj r'
end
abbrev Cx.wish (X:Cx) (E:Value->Shared->Prop):Cx:={ X with xe:=E }
abbrev Cx.nox (X:Cx):Cx:=X.wish λ_ _=>False
theorem Cx.Ok.wish {X:Cx} (ok:X.Ok) (E:Value->Shared->Prop):(X.wish E).Ok :=
 #[ok.mod,ok.kind,ok.glob,ok.blt,ok.above,ok.inj,ok.has,ok.cab,ok.hd,ok.frames,ok.stk,ok.exf,ok.bs,ok.bsz,ok.noex,ok.exfs,ok.funs,ok.frf]
theorem Cx.Ok.unwish {X:Cx} (ok:(X.wish E).Ok):X.Ok :=
 #[ok.mod,ok.kind,ok.glob,ok.blt,ok.above,ok.inj,ok.has,ok.cab,ok.hd,ok.frames,ok.stk,ok.exf,ok.bs,ok.bsz,ok.noex,ok.exfs,ok.funs,ok.frf]
section
variable {σ:St}
theorem Inv.wish (I:Inv X pins σ H s) (E:Value->Shared->Prop):Inv (X.wish E) pins σ H s:=#[I.ok.wish E,I.os,I.bare,I.base,I.loc,I.cell,I.free,I.freeC,I.pin,I.hok,I.len]
theorem Inv.unwish (I:Inv (X.wish E) pins σ H s):Inv X pins σ H s:=#[I.ok.unwish,I.os,I.bare,I.base,I.loc,I.cell,I.free,I.freeC,I.pin,I.hok,I.len]
theorem SP.unwish (h:SP (X.wish E) pins D f s'):SP X pins D f s':=by
 cases f with
 | next=>obtain σ'|H'|I|q:=h;exact #[σ',H',I.unwish,q]
 | brk=>obtain σ'|H'|I|q:=h;exact #[σ',H',I.unwish,q]
 | cont=>obtain σ'|H'|I|q:=h;exact #[σ',H',I.unwish,q]
 | ret u=>obtain v|σ'|H'|I|r|q:=h;exact #[v,σ',H',I.unwish,r,q]
theorem Im.nox {st:List Stmt} (h:Im X.nox st t):Im X st t:=λpins s σ H D I hw =>
 wpAny_mono (h pins s σ H D (I.wish _) hw) (λ_ _ q=>q.unwish) λ_ _ z=>False.elim z
end
section
variable {X:Cx} {st:Stmt} {rest:List Stmt} {t u:TS} {e:Expr} {te:TE} {pos:Pos}
def Q2:TS:=λD σ H=>D.nx σ H
def Ul (t u:TS):TS:=λD σ H=>t { D with nx:=u D } σ H
theorem bU:Im X [] Q2:=λ_ _ σ H _ I h=>wpAny_execs_nil #[σ,H,I,h]
theorem au (h1:PS X st t) (h2:Im X rest u):Im X (st :: rest) (Ul t u):=by
 intro pins s σ H D I h;refine wpAny_execs_cons (iG (h1 pins s σ H { D with nx:=u D } I h) λf s1 q=>?_);cases f with
 | next =>
  obtain σ'|H'|I'|q:=q;exact h2 pins s1 σ' H' D I' q
 | ret v=>exact q
 | brk=>exact q
 | cont=>exact q
theorem aB (h1:PS X st t):Im X [st] t:=by
 intro pins s σ H D I h;refine wpAny_execs_cons (iG (h1 pins s σ H D I h) λf s1 q=>?_);cases f with
 | next=>exact wpAny_execs_nil q
 | ret v=>exact q
 | brk=>exact q
 | cont=>exact q
theorem Inv.quiet {σ:St} (I:Inv X pins σ H s):interactive X.env=false:=by simp [interactive,I.ok.kind]
def Q5 (te:TE):TS:=λD σ H=>te σ H λ_ H1=>D.nx σ H1
theorem gP (he:PE X e te) (hs:swapsWith e none pos.line X.env=pure false:=by rfl):PS X (.Expr e pos) (Q5 te):=by
 intro pins s σ H D I h;exact wpAny_Expr_any (iG (he pins s σ H _ I h) λv s1 #[x,H1,I1,r1,q1]=>#[σ,H1,I1,q1]) I.quiet hs
def Um (te:TE):TS:=λD σ H=>te σ H D.rt
theorem a8 (he:PE X e te):PS X (.Return (some e) pos) (Um te):=by
 intro pins s σ H D I h;exact wpAny_Return_some (iG (he pins s σ H _ I h) λv s1 #[x,H1,I1,r1,q1]=>#[x,σ,H1,I1,r1,q1])
def Uu (c:TT) (t u:TS):TS:=λD σ H=>c σ H λb H1=>if b=true then t D σ H1 else u D σ H1
theorem di (hc:PT X c tc) (ha:Im X a t) (hb:Im X b u):PS X (.If c a b pos) (Uu tc t u):=by
 intro pins s σ H D I h;refine wpAny_If (iG (hc pins s σ H _ I h) λd s1 #[H1,I1,q1]=>?_);cases d with
 | true=>exact ha pins s1 σ H1 D I1 q1
 | false=>exact hb pins s1 σ H1 D I1 q1
end
abbrev TG:=V->St->Hp->(St->Hp->Prop)->Prop
abbrev OP:=List V->St->Hp->(St->Hp->Prop)->Prop
def PG (X:Cx) (target:Expr) (t:TG):Prop :=
 ∀(pins:List (Addr×Obj)) (s:Shared) (σ:St) (H:Hp) (v:V) (u:Value) (Q:St->Hp->Prop),Inv X pins σ H s->RelV v u->t v σ H Q →
  wpAny (model X.prog X.w) X.A (assign target X.env u) (λ_ s'=>∃σ' H',Inv X pins σ' H' s'/\Q σ' H') X.xe s
def Vm (X:Cx) (ts:List Expr) (t:OP):Prop :=
 ∀(pins:List (Addr×Obj)) (s:Shared) (σ:St) (H:Hp) (vs:List V) (us:List Value) (Q:St->Hp->Prop),Inv X pins σ H s->dg vs us->t vs σ H Q →
  wpAny (model X.prog X.w) X.A (assignInOrder ((assignEach ts X.env).map (·.2)) us) (λ_ s'=>∃σ' H',Inv X pins σ' H' s'/\Q σ' H') X.xe s
abbrev JR:=V->V->V->Hp->(Hp->Prop)->Prop
def TR (X:Cx) (t:JR):Prop :=
 ∀(pins:List (Addr×Obj)) (s:Shared) (σ:St) (H:Hp) (o i v:V) (ov iv u:Value) (Q:Hp->Prop),Inv X pins σ H s->RelV o ov->RelV i iv->RelV v u->t o i v H Q →
  wpAny (model X.prog X.w) X.A (setItem ov iv u) (λ_ s'=>∃H',Inv X pins σ H' s'/\Q H') X.xe s
abbrev Vj:=V->V->Hp->VK->Prop
def PIp (X:Cx) (op:Operator) (t:Vj):Prop :=
 ∀(pins:List (Addr×Obj)) (s:Shared) (σ:St) (H:Hp) (x y:V) (v u:Value) (Q:VK),Inv X pins σ H s->RelV x v->RelV y u->t x y H Q →
  wpAny (model X.prog X.w) X.A (inplaceOp op v u) (EP X pins σ Q) X.xe s
section
variable {X:Cx} {pos:Pos}
def CK (i:Nat):TG:=λv σ H Q=>Q (σ.set i (some v)) H
theorem Qc {i:Nat} {x:Str} (hN:X.N.Nodup) (hi:X.N[i]?=some x:=by exact rfl) (hx:Loc X.env.scope x:=by exact Or.inl rfl) (hf:X.fn x=true\/X.env.scope.names.lookup x=some .local:=by first | exact .inl rfl | exact .inr rfl | assumption):PG X (.Name x pos) (CK i):=by
 intro pins s σ H v u Q I r h;exact wpAny_assign_Name (vX I hN hi hx r (λs' I'=>#[_,H,I',h]) hf)
def Va:OP:=λvs σ H Q=>vs=[]/\Q σ H
def RJ (t:TG) (u:OP):OP:=λvs σ H Q=>∃v r,vs=v :: r/\t v σ H λσ' H'=>u r σ' H' Q
theorem ij:Vm X [] Va:=by
 intro pins s σ H vs us Q I r h;obtain e|h:=h;subst e;cases r;exact assignInOrder_nil #[σ,H,I,h]
theorem cM {e:Expr} {es:List Expr} {t:TG} {u:OP} (h1:PG X e t) (h2:Vm X es u)
  (hs:(assignEach (e :: es) X.env).map (·.2)=assign e X.env :: (assignEach es X.env).map (·.2):=by rfl):Vm X (e :: es) (RJ t u):=by
 intro pins s σ H vs us Q I r h;obtain v|vr|e1|h:=h;subst e1;cases r with
 | cons r rr =>
  rw[hs];refine assignInOrder_cons (iG (h1 pins s σ H _ _ _ I r h) λ_ s1 #[σ1,H1,I1,q1]=>?_);exact h2 pins s1 σ1 H1 _ _ Q I1 rr q1
def Tr (K:FG9) (n:Nat) (t:OP):TG:=λv σ H Q=>∃a xs,v=.ref a/\sL K H a xs/\xs.9=n/\t xs σ H Q
theorem rA {es:List Expr} {k:Nat} {t:OP} {n:Nat} (hc:X.calm=true) (h:Vm X es t)
  (hn:(assignEach es X.env).9=n:=by rfl) (hst:(assignEach es X.env).findIdx? (·.1)=none:=by rfl):PG X (.Tuple es k pos) (Tr X.K n t):=by
 intro pins s σ H v u Q I r hw;obtain a|xs|e1|hq|hl|hw:=hw;subst e1;cases r;obtain its|rv|ht|hz:=I.tuple hq;refine assign_Tuple_tuple (I.ok.hd hc) ht (by simp [hn,<- hl,rv.9]) hst λh' hx=>?_
 have I1:Inv X pins σ H { s with heap:=h' }:=I.kept (t':=s.toks) λb o e=>hx b o (cI (Heap.lt_size e)) e
 exact h pins _ σ H xs _ Q I1 (by simpa using rv) hw
def U9 (to ti:TE) (t:JR):TG:=λv σ H Q=>to σ H λo H1=>ti σ H1 λi H2=>t o i v H2 λH3=>Q σ H3
theorem fR {o i : Expr} {to ti : TE} {t : JR} (ho : PE X o to) (hi : PE X i ti) (hs : TR X t)
    (ha : ∀ v, assign (.Subscript o i pos) X.env v = (do
      let ov <- holding [v] (eval o X.env)
      let iv <- holding [v, ov] (eval i X.env)
      standAt pos
      holding [v, ov, iv] (setItem ov iv v)
      release [v, ov, iv] []) := by intro _; rfl) : PG X (.Subscript o i pos) (U9 to ti t) := by
  intro pins s σ H v u Q I r h;rw [ha];refine wpAny_bind (wpAny_holding (iG (ho pins s σ H _ I h) λov s1 #[x, H1, I1, r1, q1] => ?_));refine wpAny_bind (wpAny_holding (iG (hi pins s1 σ H1 _ I1 q1) λiv s2 #[y, H2, I2, r2, q2] => ?_));refine wpAny_bind (wpAny_standAt (wpAny_bind (wpAny_holding (iG (hs pins s2 σ H2 x y v ov iv u _ I2 r1 r2 r q2) λ_ s3 #[H3, I3, q3] => ?_))));exact wpAny_release #[σ, H3, I3, q3]
def MG (te:TE) (g:TG):TS:=λD σ H=>te σ H λx H1=>g x σ H1 D.nx
theorem eP {tg e:Expr} {te:TE} {g:TG} (he:PE X e te) (hg:PG X tg g) (hs:swapsWithSole [tg] e pos.line X.env=pure false:=by rfl) (hw:swappedStores [tg] e X.env=pure none:=by rfl)
  (h1:(assignEach [tg] X.env).map (·.2)=[assign tg X.env]:=by rfl):PS X (.Assign [tg] e pos) (MG te g):=by
 intro pins s σ H D I h;refine wpAny_Assign_stores (iG (he pins s σ H _ I h) λv s1 #[x,H1,I1,r1,q1]=>?_) hs hw;rw[h1];exact iG (hg pins s1 σ H1 x v _ I1 r1 q1) λ_ s2 q=>q
theorem SX {i:Nat} {x:Str} {e:Expr} {te:TE} {pos':Pos} (hN:X.N.Nodup) (hi:X.N[i]?=some x) (hx:Loc X.env.scope x) (he:PE X e te) (hs:swapsWith e (some (.Name x pos')) pos.line X.env=pure false:=by rfl) (hf:X.fn x=true\/X.env.scope.names.lookup x=some .local:=by first | exact .inl rfl | exact .inr rfl | assumption) :
  PS X (.Assign [.Name x pos'] e pos) (MG te (CK i)):=by
 intro pins s σ H D I h;refine wpAny_Assign_Name (iG (he pins s σ H _ I h) λv s1 #[y,H1,I1,r1,q1]=>?_) hs;exact vX I1 hN hi hx r1 (λs2 I2=>#[_,H1,I2,q1]) hf
def Uo (i j:Nat) (ta:TA):TS:=λD σ H=>ta σ H λvs H1=>∃v w,vs=[v,w]/\D.nx ((σ.set i (some v)).set j (some w)) H1
theorem Nk {i j:Nat} {x y:Str} {a b:Expr} {ta:TA} {px py pt:Pos} {kt k2 pt2} (hc:X.calm=true) (hN:X.N.Nodup) (hi:X.N[i]?=some x) (hj:X.N[j]?=some y) (hij:i≠j)
  (hx:X.env.scope.names.lookup x=some .local) (hy:X.env.scope.names.lookup y=some .local) (ha:PA X [a,b] ta)
  (hw:swappedStores [.Tuple [.Name x px,.Name y py] kt pt] (.Tuple [a,b] k2 pt2) X.env=pure (some [x,y]))
  (hs:swapsWithSole [.Tuple [.Name x px,.Name y py] kt pt] (.Tuple [a,b] k2 pt2) pos.line X.env=pure false:=by rfl) :
  PS X (.Assign [.Tuple [.Name x px,.Name y py] kt pt] (.Tuple [a,b] k2 pt2) pos) (Uo i j ta):=by
 intro pins s σ H D I h;rw[exec_Assign_arm];refine wpAny_bind (wpAny_standAt ?_);rw[hs];refine wpAny_bind (wpAny_pure ?_);rw[if_neg ()];refine wpAny_bind (Tuple_ (iG (ha _ pins s σ H _ I h) λus s1 #[vs,H1,I1,r1,q1]=>?_));obtain v|w|e1|q1:=q1;subst e1
 obtain ⟨u1,u2,rfl,rv,rw'⟩:∃u1 u2,us=[u1,u2]/\RelV v u1/\RelV w u2:=by
  cases r1 with
  | cons p q =>
   cases q with
   | cons p' q' =>
    cases q';exact #[_,_,rfl,p,p']
 refine wpAny_newObj_type ?_ (by show 2<=sizeLine;decide);have I2:Inv X pins σ H1 { s1 with heap:=s1.heap.push { cls:=.type "tuple",data:=.seq [u1,u2].5 } }:=I1.kept (t':=s1.toks) λb o e=>Heap.get?_push_of_some _ e
 rw[hw];refine wpAny_bind (wpAny_pure ?_);show wpAny (model X.prog X.w) X.A (do rule "assign.swapped-stores";let items <- unpackItems (.ref s1.6) 2 none;assignInOrder [λv=>bindName X.env y v,λv=>bindName X.env x v] items.reverse;pure Flow.next) _ _ _
 refine wpAny_bind (wpAny_rule (wpAny_bind (unpackItems_tuple (items:=[u1,u2].toArray) (I.ok.hd hc) (IsTup.new s1.heap _) λh' hx'=>?_)));have I3:=I2.kept (h':=h') (t':=s1.toks) λb o e=>hx' b o (cI (Heap.lt_size e)) e
 show wpAny _ _ (assignInOrder [λv=>bindName X.env y v,λv=>bindName X.env x v] [u2,u1] >>= λ_=>pure Flow.next) _ _ _
 refine wpAny_bind (assignInOrder_cons (wpAny_bindName (vX I3 hN hj (.inl hy) rw' (λs2 I4=>?_) (.inr hy))));refine assignInOrder_cons (wpAny_bindName (vX I4 hN hi (.inl hx) rv (λs3 I5=>assignInOrder_nil (wpAny_pure ?_)) (.inr hx)));rw[List.set_comm _ _ (Ne.symm hij)] at I5;exact #[_,H1,I5,q1]
def Q6 (to ti te:TE) (tget:V->V->Hp->VK->Prop) (tip:Vj) (tset:JR):TS:=λD σ H=>to σ H λo H1=>ti σ H1 λi H2=>tget o i H2 λx H3=>te σ H3 λy H4=>tip x y H4 λz H5=>tset o i z H5 λH6=>D.nx σ H6
def Vn (X:Cx) (t:V->V->Hp->VK->Prop):Prop :=
 ∀(pins:List (Addr×Obj)) (s:Shared) (σ:St) (H:Hp) (o i:V) (ov iv:Value) (Q:VK),Inv X pins σ H s->RelV o ov->RelV i iv->t o i H Q →
  wpAny (model X.prog X.w) X.A (getItem ov iv) (EP X pins σ Q) X.xe s
theorem Qa {o i e:Expr} {to ti te:TE} {tget:V->V->Hp->VK->Prop} {tip:Vj} {tset:JR} {op:Operator} {tpos:Pos} (ho:PE X o to) (hi:PE X i ti) (hg:Vn X tget) (he:PE X e te) (hp:PIp X op tip) (hs:TR X tset)
  (ha:∀ov iv new,augStore i ov iv new=(do holding [new,ov,iv] (setItem ov iv new);release [new,ov,iv] [];pure .next):=by intros;rfl):PS X (.AugAssign (.Subscript o i tpos) op e pos) (Q6 to ti te tget tip tset):=by
 intro pins s σ H D I h;refine wpAny_AugAssign_SubscriptAny (iG (ho pins s σ H _ I h) λov s1 #[x1,H1,I1,r1,q1]=>?_) ha;refine iG (hi pins s1 σ H1 _ I1 q1) λiv s2 #[x2,H2,I2,r2,q2]=>?_
 refine iG (hg pins s2 σ H2 x1 x2 ov iv _ I2 r1 r2 q2) λold s3 #[x3,H3,I3,r3,q3]=>?_
 refine iG (he pins s3 σ H3 _ I3 q3) λv s4 #[x4,H4,I4,r4,q4]=>?_
 refine iG (hp pins s4 σ H4 x3 x4 old v _ I4 r3 r4 q4) λnew s5 #[x5,H5,I5,r5,q5]=>?_
 exact iG (hs pins s5 σ H5 x1 x2 x5 ov iv new _ I5 r1 r2 r5 q5) λ_ s6 #[H6,I6,q6]=>#[σ,H6,I6,q6]
def ipI (f:Int->Int->Int):Vj:=λx y H Q=>∃i j,x=.int i/\y=.int j/\Q (.int (f i j)) H
theorem Ti:PIp X .Add (ipI λi j=>i+j):=by
 intro pins s σ H x y v u Q I r1 r2 h;obtain i|j|e1|e2|q:=h;subst e1;subst e2;obtain t|rfl:=r1;obtain t'|rfl:=r2;exact iadd_int #[.int _,H,I.tok _,#[_,rfl],q]
end
section
variable {X:Cx} {pos:Pos}
def ME (c:TT) (tb:TS):TS:=λD σ H=>∃W:Nat->St->Hp->Prop,(∃m,W m σ H)/\∀m σ H,W m σ H →
 c σ H λb H1=>if b=true then ∃N:St->Hp->Prop,(∀σ' H',N σ' H'->∃m',m' < m/\W m' σ' H')/\tb { D with nx:=N,ct:=N,bk:=D.nx } σ H1 else D.nx σ H1
theorem z9 (hp:PassesOwn (model X.prog X.w) X.A X.env X.xe) (hc:PT X c tc) (hb:Im X body tb):PS X (.While c body [] pos) (ME tc tb):=by
 intro pins s σ H D I h;obtain W|⟨m0,w0⟩|turn:=h;refine wpAny_While (codeAny_whileLoop (λn s'=>∃σ' H',Inv X pins σ' H' s'/\W n σ' H') ?_ m0 #[σ,H,I,w0]);rintro n s1 ⟨σ1,H1,I1,w1⟩;refine wpAny_passesOwn hp (iG (hc pins s1 σ1 H1 _ I1 (turn n σ1 H1 w1)) λb s2 #[H2,I2,q2]=>?_);cases b with
 | true =>
  obtain N|hN|q2:=q2;rw[if_pos rfl];refine wpAny_passesOwn hp (iG (hb pins s2 σ1 H2 _ I2 q2) λf s3 q3=>?_);cases f with
  | next =>
   obtain σ3|H3|I3|n3:=q3;obtain m'|hm|w3:=hN σ3 H3 n3;exact #[m',hm,σ3,H3,I3,w3]
  | cont =>
   obtain σ3|H3|I3|n3:=q3;obtain m'|hm|w3:=hN σ3 H3 n3;exact #[m',hm,σ3,H3,I3,w3]
  | brk=>exact q3
  | ret v=>exact q3
 | false =>
  rw[if_neg bA];exact wpAny_execs_nil #[σ1,H2,I2,q2]
end
structure It where
 go:Nat->Hp->Prop
 yld:Nat->Hp->V->Hp->Prop
 stop:Nat->Hp->Prop
def md (X:Cx) (pins:List (Addr×Obj)) (H:Hp) (b:Addr):Prop :=
 H b=none/\b≠X.env.locals/\b∉X.fs/\(b∈X.ex\/X.s₀.6<=b)/\(∀x c,X.env.cells.lookup x=some c->c≠b)/\∀p∈X.pn++pins,p.1≠b
theorem Inv.fpOk {σ:St} {b:Addr} (I:Inv X pins σ H s) (hb:s.6<=b) (hn:H' b=none):md X pins H' b:=by
 refine #[hn,KO (bN I.lt hb),I.nofs hb,.inr (ag I.sz hb),λx c e z=>?_,λp hp z=>?_]
 ·obtain v|q:=I.cell x c e;exact absurd (bN q.lt (by rw[z];exact hb)) (fz _)
 ·exact absurd (bN (Heap.lt_size (I.pin p hp).1) (by rw[z];exact hb)) (fz _)
structure Turn (P:Program) (w:World) (K:FG9) (tg:Expr) (J:It) (fp:List Addr) (it:Addr) (tn:Nat->Heap->Prop):Prop where
 mem:it∈fp
 obj:∀i h,tn i h->∀b∈fp,∃o,h.get? b=some o/\∀v,o.data≠.cell v
 keep:∀i h h',tn i h->(∀b∈fp,∀o,h.get? b=some o->h'.get? b=some o)->tn i h'
 item:∀(X:Cx),X.prog=P->X.w=w->X.K=K->X.calm=true->∀(i:Nat) (pins:List (Addr×Obj)) (s:Shared) (σ:St) (H:Hp) (E:Value->Shared->Prop),Inv X pins σ H s->(∀b∈fp,md X pins H b)->tn i s.8->J.go i H →
  wpAny (model P w) X.A (pyNext (.ref it)) (λr s1=>∃u,r=some u /\
   wpAny (model P w) X.A (letOwnedTupleGo tg (.ref it) u) (λ_ s2=>∃x H',Inv X pins σ H' s2/\RelV x u/\J.yld i H x H'/\tn (i+1) s2.8/\∀b∈fp,H' b=none) E s1) E s
 done:∀(X:Cx),X.prog=P->X.w=w->X.K=K->X.calm=true->∀(i:Nat) (pins:List (Addr×Obj)) (s:Shared) (σ:St) (H:Hp) (E:Value->Shared->Prop),Inv X pins σ H s->(∀b∈fp,md X pins H b)->tn i s.8->J.stop i H →
  wpAny (model P w) X.A (pyNext (.ref it)) (λr s1=>r=none/\Inv X pins σ H s1) E s
 self:∀(A:Around) (i:Nat) (s:Shared) (Q:Value->Shared->Prop) (E:Value->Shared->Prop),tn i s.8->Q (.ref it) s->wpAny (model P w) A (pyIter (.ref it)) Q E s
abbrev TI:=St->Hp->(It->Hp->Prop)->Prop
def PIE (X:Cx) (pins:List (Addr×Obj)) (σ:St) (tg:Expr) (R:It->Hp->Prop) (itv:Value) (s2:Shared):Prop :=
 ∃(it:Addr) (fp:List Addr) (tn:Nat->Heap->Prop) (J:It) (H':Hp),itv=.ref it/\Inv X pins σ H' s2/\Turn X.prog X.w X.K tg J fp it tn/\tn 0 s2.8/\(∀b∈fp,md X pins H' b)/\R J H'
def PI (X:Cx) (tg iter:Expr) (wi:TI):Prop :=
 ∀(pins:List (Addr×Obj)) (s:Shared) (σ:St) (H:Hp) (R:It->Hp->Prop),Inv X pins σ H s->wi σ H R →
  wpAny (model X.prog X.w) X.A (eval iter X.env) (λv s1=>wpAny (model X.prog X.w) X.A (pyIter v) (PIE X pins σ tg R) X.xe s1) X.xe s
theorem RI (ho:s.heap.get? it=some o) (hc:o.cls=.type n) (hd:o.data=.fields vs)
  (hn:["enumerate","zip","dict_itemiterator","dict_reverseitemiterator","odict_iterator","itertools.zip_longest","itertools.pairwise"].contains n=false) (hQ:Q .unit s):wpAny M A (letOwnedTupleGo tg (.ref it) u) Q E s:=by
 unfold letOwnedTupleGo
 cases tg <;> first
  | exact wpAny_pure hQ
  | (cases u <;> first | exact wpAny_pure hQ | (refine wpAny_bind (wpAny_load ho ?_);rw[hc,hd];show wpAny M A (if (["enumerate","zip","dict_itemiterator","dict_reverseitemiterator","odict_iterator","itertools.zip_longest","itertools.pairwise"].contains n && vs[0]? == some (rawInt _))=true then _ else _) Q E s;rw[if_neg (by intro h;rw[hn,Bool.false_and] at h;cases h)];exact wpAny_pure hQ))
def QW (K:FG9) (a:Addr):It :=
 #[λi H=>∃xs x,bE K H a xs/\xs[i]?=some x,λi H x H'=>H'=H/\∀xs,bE K H a xs->xs[i]?=some x,λi H=>∃xs,bE K H a xs/\xs.9<=i]
def Io (lo:Int) (n:Nat):It:=#[λi _=>i < n,λi H x H'=>H'=H/\x=.int (lo+i),λi _=>n<=i]
theorem KW {P:Program} {w:World} {K:FG9} {tg:Expr} (a it:Addr):Turn P w K tg (QW K a) [it] it (λi h=>h.IsListIter it a i) where
 mem:=by simp
 obj:=λi h st b hb=>by
  have e:b=it:=by simpa using hb
  subst e;obtain o|e|c|d:=st;exact #[o,e,λv z=>by rw[d] at z;cases z]
 keep:=λi h h' st k=>st.at λo e=>k it (by simp) o e
 item:=by
  intro X hP hw hK hc i pins s σ H E I hf st hg;subst hP hw hK;obtain xs|x|hq|hx:=hg;obtain its|rv|p|hz:=I.list hq;obtain u|hu|ru:=rv.get hx;obtain f0|f1|f2|f3|f4|f5:=hf it (by simp);refine wpAny_pyNext_list_item st p.isList (x:=u) (by simpa using hu) λh' st' sb=>?_
  have I1:Inv X pins σ H { s with heap:=h' }:=I.turned (t':=s.toks) (λb o hb e=>(sb.2 b hb).trans e) f0 f1 f3 f4 f5;obtain o|e|c|d:=id st';exact #[u,rfl,RI (s:={ s with heap:=h' }) e c d () ⟨x,H,I1,ru,⟨rfl,λys hy=>by rw[I.list_inj hy hq];exact hx⟩,st',λb hb=>(hf b hb).1⟩]
 done:=by
  intro X hP hw hK hc i pins s σ H E I hf st hg;subst hP hw hK;obtain xs|hq|hx:=hg;obtain its|rv|p|hz:=I.list hq;obtain f0|f1|f2|f3|f4|f5:=hf it (by simp);have hl:=rv.9;exact wpAny_pyNext_list_end (I.ok.hd hc) st p.isList (by simp;lia) λh' eb=>#[rfl,I.turned (t':=s.toks) (λb o hb e=>eb b o hb e) f0 f1 f3 f4 f5]
 self:=λ_ _ _ _ _ st h=>wpAny_pyIter_listiter st h
theorem Iu {P:Program} {w:World} {K:FG9} {tg:Expr} (it:Addr) (lo:Int) (n:Nat):Turn P w K tg (Io lo n) [it] it (λi h=>IsRangeIter h it (lo+(i:Nat)*1) ((n:Int) - (i:Nat)) 1) where
 mem:=by simp
 obj:=λi h st b hb=>by
  have e:b=it:=by simpa using hb
  subst e
  exact #[_,st,λv z=>by
   have z':Data.fields _=Data.cell v:=z;cases z']
 keep:=λi h h' st k=>k it (by simp) _ st
 item:=by
  intro X hP hw hK hc i pins s σ H E I hf st hg;subst hP hw hK;obtain f0|f1|f2|f3|f4|f5:=hf it (by simp);have W:=Walks.range (prog:=X.prog) (w:=X.w) (I.ok.hd hc) it lo 1 n;refine W.item i s _ _ hg st λv h' tk hv st' kk=>?_
  obtain t|rfl:=hv;have I1:Inv X pins σ H { s with heap:=h',toks:=tk }:=I.turned (λb o hb e=>kk b o (by simpa using hb) e) f0 f1 f3 f4 f5;refine #[_,rfl,RI (s:={ s with heap:=h',toks:=tk }) (n:="range_iterator") st' rfl rfl () ⟨.int (lo+i),H,I1,⟨t,?_⟩,⟨rfl,rfl⟩,st',λb hb=>(hf b hb).1⟩];rw[Int.mul_one]
 done:=by
  intro X hP hw hK hc i pins s σ H E I hf st hg;subst hP hw hK;obtain f0|f1|f2|f3|f4|f5:=hf it (by simp);exact wpAny_pyNext_range_end (I.ok.hd hc) st (by have:n<=i:=hg;lia) λh' eb=>#[rfl,I.turned (t':=s.toks) (λb o hb e=>eb b o hb e) f0 f1 f3 f4 f5]
 self:=λ_ _ _ _ _ st h=>wpAny_pyIter_rangeiter st h
section
variable {X:Cx} {tg:Expr}
def NU (K:FG9) (tl:TE):TI:=λσ H R=>tl σ H λx H1=>∃a,x=.ref a/\(∃xs,bE K H1 a xs)/\R (QW K a) H1
theorem b9 (hl:PE X l tl):PI X tg l (NU X.K tl):=by
 intro pins s σ H R I h;refine iG (hl pins s σ H _ I h) λv s1 #[x,H1,I1,r1,q1]=>?_
 obtain a|e|⟨xs,hq⟩|q:=q1;subst e;cases r1;obtain its|rv|p|hz:=I1.list hq;refine wpAny_pyIter_list p.isList ?_;refine #[s1.6,[s1.6],_,_,H1,rfl,I1.kept (t':=s1.toks) λb o e=>Heap.get?_push_of_some _ e,KW a _,#[_,Heap.get?_push_size _ rfl,rfl,rfl],λb hb=>?_,q];have e:b=s1.6:=by simpa using hb
 subst e;exact I1.fpOk (ak _) (I1.hok.fresh (ak _))
theorem FP {σ:St} {lo hi:Int} (I:Inv X pins σ H s) (h1:-(2^62)<=lo) (h2:lo < 2^62) (h3:-(2^62)<=hi) (h4:hi < 2^62)
  (q:R (Io lo (hi - lo).toNat) H):wpAny (model X.prog X.w) X.A (pyIter (.ref s.6)) (PIE X pins σ tg R) E { s with heap:=s.heap.push { cls:=.type "range",data:=.fields [.int lo t,.int hi u,.int 1 v].toArray },toks:=tk }:=by
 refine wpAny_pyIter_range (IsRange.new ..) (small_one h1 h2 h3 h4) ?_;have I1:Inv X pins σ H { s with heap:=s.heap.push { cls:=.type "range",data:=.fields [.int lo t,.int hi u,.int 1 v].toArray },toks:=tk }:=I.kept λb o e=>Heap.get?_push_of_some _ e
 refine #[(s.heap.push { cls:=.type "range",data:=.fields [.int lo t,.int hi u,.int 1 v].toArray }).objs.size,[(s.heap.push { cls:=.type "range",data:=.fields [.int lo t,.int hi u,.int 1 v].toArray }).objs.size],_,_,H,rfl,
  I1.kept (t':=tk) λb o e=>Heap.get?_push_of_some _ e,Iu _ lo (hi - lo).toNat,?_,λb hb=>?_,q]
 ·have e1:lo+((0:Nat):Int)*1=lo:=by simp
  have e2:(((hi - lo).toNat:Nat):Int) - ((0:Nat):Int)=Builtin.Range.rangeSize lo hi 1:=by rw[rangeSize_one];split <;> lia
  show IsRangeIter _ _ (lo+((0:Nat):Int)*1) ((((hi - lo).toNat:Nat):Int) - ((0:Nat):Int)) 1
  rw[e1,e2];exact Heap.get?_push_size _ rfl
 ·have e:b=(s.heap.push { cls:=.type "range",data:=.fields [.int lo t,.int hi u,.int 1 v].toArray }).objs.size:=by simpa using hb
  subst e;exact I1.fpOk (ak _) (I1.hok.fresh (ak _))
def RD (ta:TA):TI:=λσ H R=>ta σ H λvs H1=>∃j:Int,vs=[.int j]/\-(2^62)<=j/\j < 2^62/\R (Io 0 j.toNat) H1
def RC (ta:TA):TI:=λσ H R=>ta σ H λvs H1=>∃i j:Int,vs=[.int i,.int j]/\(-(2^62)<=i/\i < 2^62/\-(2^62)<=j/\j < 2^62)/\R (Io i (j - i).toNat) H1
theorem cE {a:Expr} {ta:TA} {p pos:Pos} (hg:Gl X "range") (hm:X.mg "range"=none) (ha:PA X [a] ta) (hs:starEach [a] X.env=[(false,eval a X.env)]:=by rfl):PI X tg (.Call (.Name "range" p) [a] [] pos) (RD ta):=by
 intro pins s σ H R I h;refine Call_ (lZ I hg hm boot_range (PyProof.Rows.callWith_type1 (iG (ha pos pins s σ H _ I h) λus s1 #[vs,H1,I1,r1,q1]=>?_) hs rfl));obtain j|e|q1|q2|q:=q1;subst e;cases r1 with
 | cons r rr =>
  cases rr;obtain t|rfl:=r;exact call_range_1 (FP I1 () () q1 q2 (by simpa using q))
theorem Lj {a b:Expr} {ta:TA} {p pos:Pos} (hg:Gl X "range") (hm:X.mg "range"=none) (ha:PA X [a,b] ta) (hs:starEach [a,b] X.env=[(false,eval a X.env),(false,eval b X.env)]:=by rfl) (hs2:starEach [b] X.env=[(false,eval b X.env)]:=by rfl) :
  PI X tg (.Call (.Name "range" p) [a,b] [] pos) (RC ta):=by
 intro pins s σ H R I h;refine Call_ (lZ I hg hm boot_range (PyProof.Rows.callWith_type1 (iG (ha pos pins s σ H _ I h) λus s1 #[vs,H1,I1,r1,q1]=>?_) (by rw[hs,hs2]) (by rw[hs2];rfl)));obtain i|j|e|⟨q1,q2,q3,q4⟩|q:=q1;subst e;cases r1 with
 | cons r rr =>
  cases rr with
  | cons r' rr =>
   cases rr;obtain t|rfl:=r;obtain t'|rfl:=r';exact call_range_2 (FP I1 q1 q2 q3 q4 q)
def Uv (wi:TI) (g:TG) (tb:TS):TS:=λD σ H=>wi σ H λJ H1=>∃W:Nat->Nat->St->Hp->Prop,(∃m,W 0 m σ H1)/\∀i m σ H,W i m σ H →
 (J.stop i H/\D.nx σ H)\/(J.go i H/\∃N:St->Hp->Prop,(∀σ' H',N σ' H'->∃m',m' < m/\W (i+1) m' σ' H')/\∀x H',J.yld i H x H'->g x σ H' λσ2 H2=>tb { D with nx:=N,ct:=N,bk:=D.nx } σ2 H2)
def Ab (fp:List Addr) (h:Heap):List (Addr×Obj):=fp.filterMap λb=>(h.get? b).map λo=>(b,o)
theorem rS (hb:b∈fp) (e:h.get? b=some o):(b,o)∈Ab fp h:=List.mem_filterMap.mpr #[b,hb,by rw[e];rfl]
theorem Lo (hp:p∈Ab fp h):p.1∈fp/\h.get? p.1=some p.2:=by
 obtain b|hb|e:=List.mem_filterMap.mp hp;cases q:h.get? b with
 | none=>rw[q] at e;cases e
 | some o =>
  rw[q] at e;have e':(b,o)=p:=cg e;subst e';exact #[hb,q]
theorem Inv.pinned {σ:St} (I:Inv X pins σ H s) (hf:∀b∈fp,md X pins H b) (ho:∀b∈fp,∃o,s.heap.get? b=some o/\∀v,o.data≠.cell v):Inv X (pins++Ab fp s.8) σ H s :=
 I.pins_of λp hp=>(ay.mp hp).elim (λz=>I.pin p (bL _ z)) λz=>by
  obtain hb|e:=Lo z;obtain f0|f1|f2|_:=hf p.1 hb;obtain o|e'|d:=ho p.1 hb;rw[e] at e';cases e';exact #[e,f0,f1,f2,d]
theorem Inv.unpinned {σ:St} (I:Inv X (pins++pl) σ H s):Inv X pins σ H s:=I.pins_of λp hp=>I.pin p (bL _ (fb _ hp))
theorem eO {iter:Expr} {body:List Stmt} {wi:TI} {g:TG} {tb:TS} {pos:Pos} (hp:PassesOwn (model X.prog X.w) X.A X.env X.xe) (hc:X.calm=true) (hi:PI X tg iter wi) (hg:PG X tg g) (hb:Im X body tb)
  (hs:∀x,foldedSetIterable iter X.env x=pure x:=by intro _;rfl):PS X (.For tg iter body [] pos) (Uv wi g tb):=by
 intro pins s σ H D I h;refine wpAny_For (iG (hi pins s σ H _ I h) λv s1 h1=>iG h1 λitv s2 h2=>?_) hs;obtain it|fp|tn|J|H2|e|I2|T|st2|f2|W|⟨m0,w0⟩|turn:=h2;subst e;have stat:∀{H':Hp},(∀b∈fp,H' b=none)->∀b∈fp,md X pins H' b:=λhn b hb=>#[hn b hb,(f2 b hb).2]
 refine codeAny_forLoop_any (λn s'=>∃i σ' H',Inv X pins σ' H' s'/\tn i s'.8/\(∀b∈fp,H' b=none)/\W i n σ' H') ?_ m0 #[0,σ,H2,I2,st2,λb hb=>(f2 b hb).1,w0];rintro n s3 ⟨i,σ3,H3,I3,st3,fr3,w3⟩;rcases turn i n σ3 H3 w3 with ⟨stop,qn⟩ | ⟨go,N,hN,step⟩
 ·refine wpAny_passesOwn hp (iG (T.done X rfl rfl rfl hc i pins s3 σ3 H3 X.xe I3 (stat fr3) st3 stop) λr s4 #[hr,I4]=>?_);subst hr;exact wpAny_execs_nil #[σ3,H3,I4,qn]
 ·refine wpAny_passesOwn hp (iG (T.item X rfl rfl rfl hc i pins s3 σ3 H3 X.xe I3 (stat fr3) st3 go) λr s4 #[u,hr,h4]=>?_);subst hr;refine wpAny_passesOwn hp (iG h4 λ_ s5 #[x,H5,I5,r5,y5,st5,fr5]=>?_);have I5':=I5.pinned (stat fr5) (T.obj _ _ st5);refine wpAny_passesOwn hp (iG (hg _ s5 σ3 H5 x u _ I5' r5 (step x H5 y5)) λ_ s6 #[σ6,H6,I6,q6]=>?_);refine wpAny_passesOwn hp (iG (hb _ s6 σ6 H6 _ I6 q6) λf s7 q7=>?_)
  have again:∀{σ7:St} {H7:Hp},Inv X (pins++Ab fp s5.8) σ7 H7 s7->N σ7 H7->∃m,m < n/\∃i σ' H',Inv X pins σ' H' s7/\tn i s7.8/\(∀b∈fp,H' b=none)/\W i m σ' H':=λ{σ7 H7} I7 n7=>by
   obtain m'|hm|w7:=hN σ7 H7 n7;refine #[m',hm,i+1,σ7,H7,I7.unpinned,T.keep _ _ _ st5 λb hb o e=>(I7.pin (b,o) (bL _ (bL _ (rS hb e)))).1,λb hb=>?_,w7];obtain o|e|d:=T.obj _ _ st5 b hb;exact (I7.pin (b,o) (bL _ (bL _ (rS hb e)))).2.1
  cases f with
  | next=>obtain σ7|H7|I7|n7:=q7;exact again I7 n7
  | cont=>obtain σ7|H7|I7|n7:=q7;exact again I7 n7
  | brk=>obtain σ7|H7|I7|q7:=q7;exact #[σ7,H7,I7.unpinned,q7]
  | ret v=>obtain x7|σ7|H7|I7|r7|q7:=q7;exact #[x7,σ7,H7,I7.unpinned,r7,q7]
end
theorem iP {K:FG9} {g:TG} {tb:TS} {D:Ends} (Pv:Nat->St->Hp->Prop) (h0:Pv 0 σ H) (hl:∀i σ H,i<=xs.9->Pv i σ H->bE K H a xs)
  (hs:∀i x σ H,xs[i]?=some x->Pv i σ H->g x σ H λσ2 H2=>tb { D with nx:=Pv (i+1),ct:=Pv (i+1),bk:=D.nx } σ2 H2) (hd:∀σ H,Pv xs.9 σ H->D.nx σ H) :
  ∃W:Nat->Nat->St->Hp->Prop,(∃m,W 0 m σ H)/\∀i m σ H,W i m σ H →
   ((QW K a).stop i H/\D.nx σ H)\/((QW K a).go i H/\∃N:St->Hp->Prop,(∀σ' H',N σ' H'->∃m',m' < m/\W (i+1) m' σ' H')/\∀x H',(QW K a).yld i H x H'->g x σ H' λσ2 H2=>tb { D with nx:=N,ct:=N,bk:=D.nx } σ2 H2):=by
 refine #[λi m σ H=>m=xs.9 - i/\i<=xs.9/\Pv i σ H,#[xs.9,by simp,br _,h0],?_];rintro i m σ H ⟨rfl,hi,p⟩;have q:=hl i σ H hi p;by_cases hlt:i < xs.9
 ·refine .inr #[#[xs,xs[i],q,by simp [hlt]],Pv (i+1),λσ' H' p'=>#[xs.9 - (i+1),(),rfl,hlt,p'],λx H' y=>?_];obtain e|y:=y;subst e;exact hs i x σ _ (y xs q) p
 ·have e:i=xs.9:=()
  subst e;exact .inl #[#[xs,q,ak _],hd σ H p]
theorem CL {lo:Int} {g:TG} {tb:TS} {D:Ends} (Pv:Nat->St->Hp->Prop) (h0:Pv 0 σ H)
  (hs:∀i σ H,i < n->Pv i σ H->g (.int (lo+i)) σ H λσ2 H2=>tb { D with nx:=Pv (i+1),ct:=Pv (i+1),bk:=D.nx } σ2 H2) (hd:∀σ H,Pv n σ H->D.nx σ H) :
  ∃W:Nat->Nat->St->Hp->Prop,(∃m,W 0 m σ H)/\∀i m σ H,W i m σ H →
   ((Io lo n).stop i H/\D.nx σ H)\/((Io lo n).go i H/\∃N:St->Hp->Prop,(∀σ' H',N σ' H'->∃m',m' < m/\W (i+1) m' σ' H')/\∀x H',(Io lo n).yld i H x H'->g x σ H' λσ2 H2=>tb { D with nx:=N,ct:=N,bk:=D.nx } σ2 H2):=by
 refine #[λi m σ H=>m=n - i/\i<=n/\Pv i σ H,#[n,by simp,br _,h0],?_];rintro i m σ H ⟨rfl,hi,p⟩;by_cases hlt:i < n
 ·refine .inr #[hlt,Pv (i+1),λσ' H' p'=>#[n - (i+1),(),rfl,hlt,p'],λx H' y=>?_];obtain e|y:=y;subst e y;exact hs i σ _ hlt p
 ·have e:i=n:=()
  subst e;exact .inl #[ak _,hd σ H p]
abbrev R2:=V->V->Hp->VK->Prop
def xc (X:Cx) (f:Value->Value->Sem Value) (r:R2):Prop :=
 ∀(pins:List (Addr×Obj)) (s:Shared) (σ:St) (H:Hp) (x y:V) (v u:Value) (Q:VK),Inv X pins σ H s->RelV x v->RelV y u->r x y H Q →
  wpAny (model X.prog X.w) X.A (f v u) (EP X pins σ Q) X.xe s
def V6 (X:Cx) (f:Value->Sem Value) (r:V->Hp->VK->Prop):Prop :=
 ∀(pins:List (Addr×Obj)) (s:Shared) (σ:St) (H:Hp) (x:V) (v:Value) (Q:VK),Inv X pins σ H s->RelV x v->r x H Q →
  wpAny (model X.prog X.w) X.A (f v) (EP X pins σ Q) X.xe s
def qG (X:Cx) (f:Value) (r:List V->Hp->VK->Prop):Prop :=
 ∀(pins:List (Addr×Obj)) (s:Shared) (σ:St) (H:Hp) (xs:List V) (us:List Value) (Q:VK),Inv X pins σ H s->dg xs us->r xs H Q →
  wpAny (model X.prog X.w) X.A (call f us) (EP X pins σ Q) X.xe s
def Uq (r:R2) (ta tb:TE):TE:=λσ H Q=>ta σ H λx H1=>tb σ H1 λy H2=>r x y H2 Q
def VA (r:V->Hp->VK->Prop) (ta:TE):TE:=λσ H Q=>ta σ H λx H1=>r x H1 Q
def rI (C:Int->Int->Prop) (g:Int->Int->V):R2:=λx y H Q=>∃i j,x=.int i/\y=.int j/\C i j/\Q (g i j) H
def PZ (g:Int->Int->V):R2:=λx y H Q=>∃i j,x=.int i/\y=.int j/\Q (g i j) H
def rU (g:Int->V):V->Hp->VK->Prop:=λx H Q=>∃i,x=.int i/\Q (g i) H
section
variable {X:Cx} {a b c:Expr} {ta tb tc:TE} {pos:Pos}
theorem TH (ha:PE X a ta) (hb:PE X b tb) {σ:St} {R:V->V->Hp->Prop} (I:Inv X pins σ H s)
  (h:ta σ H λx H1=>tb σ H1 λy H2=>R x y H2) {f:Value->Value->Sem Value}
  (hf:∀v u s2 x y H2,Inv X pins σ H2 s2->RelV x v->RelV y u->R x y H2->wpAny (model X.prog X.w) X.A (f v u) Q X.xe s2) :
  wpAny (model X.prog X.w) X.A (eval a X.env) (λv s₁=>wpAny (model X.prog X.w) X.A (eval b X.env) (λu s₂=>wpAny (model X.prog X.w) X.A (f v u) Q X.xe s₂) X.xe s₁) X.xe s:=by
 refine iG (ha pins s σ H _ I h) λv s1 #[x,H1,I1,r1,q1]=>?_
 refine iG (hb pins s1 σ H1 _ I1 q1) λu s2 #[y,H2,I2,r2,q2]=>?_
 exact hf v u s2 x y H2 I2 r1 r2 q2
theorem bK (ho:xc X (binaryOp op) r) (ha:PE X a ta) (hb:PE X b tb):PE X (.BinOp a op b pos) (Uq r ta tb):=by
 intro pins s σ H Q I h;exact wpAny_BinOp (TH ha hb I h λv u s2 x y H2 I2 rx ry q=>ho pins s2 σ H2 x y v u Q I2 rx ry q)
theorem qq (ho:V6 X (unaryOp op) r) (ha:PE X a ta):PE X (.UnaryOp op a pos) (VA r ta):=by
 intro pins s σ H Q I h;exact UnaryOp_ (iG (ha pins s σ H _ I h) λv s1 #[x,H1,I1,r1,q1]=>ho pins s1 σ H1 x v Q I1 r1 q1)
theorem VB {g:Int->Int->Int}
  (rule:∀(i j:Int) (t u:Tok) (s:Shared) (Q:Value->Shared->Prop) (E:Value->Shared->Prop),C i j->Q (.int (g i j) s.toks) { s with toks:=s.toks+1 }->wpAny (model X.prog X.w) X.A (f (.int i t) (.int j u)) Q E s) :
  xc X f (rI C λi j=>.int (g i j)):=by
 intro pins s σ H x y v u Q I rx ry h;obtain i|j|rfl|rfl|hc|q:=h;obtain t|rfl:=rx;obtain t'|rfl:=ry;exact rule i j t t' s _ _ hc #[.int (g i j),H,I.tok _,#[_,rfl],q]
theorem UZ {g:Int->Int->Int}
  (rule:∀(i j:Int) (t u:Tok) (s:Shared) (Q:Value->Shared->Prop) (E:Value->Shared->Prop),Q (.int (g i j) s.toks) { s with toks:=s.toks+1 }->wpAny (model X.prog X.w) X.A (f (.int i t) (.int j u)) Q E s) :
  xc X f (PZ λi j=>.int (g i j)):=by
 intro pins s σ H x y v u Q I rx ry h;obtain i|j|rfl|rfl|q:=h;obtain t|rfl:=rx;obtain t'|rfl:=ry;exact rule i j t t' s _ _ #[.int (g i j),H,I.tok _,#[_,rfl],q]
theorem Ql {g:Int->Int->Bool}
  (rule:∀(i j:Int) (t u:Tok) (s:Shared) (Q:Value->Shared->Prop) (E:Value->Shared->Prop),Q (.bool (g i j)) s->wpAny (model X.prog X.w) X.A (f (.int i t) (.int j u)) Q E s) :
  xc X f (PZ λi j=>.bl (g i j)):=by
 intro pins s σ H x y v u Q I rx ry h;obtain i|j|rfl|rfl|q:=h;obtain t|rfl:=rx;obtain t'|rfl:=ry;exact rule i j t t' s _ _ #[.bl (g i j),H,I,rfl,q]
def T1 (i j:Int):Prop:=(-(2^64) < i/\i < 2^64)\/(-(2^64) < j/\j < 2^64)
theorem T1.ok (h:T1 i j):IntMulOk i j:=by
 rcases h with ⟨h1,h2⟩ | ⟨h1,h2⟩
 ·exact .of_left (intBits_le_64 h1 h2)
 ·exact .of_right (intBits_le_64 h1 h2)
theorem fo:xc X (binaryOp .Add) (PZ λi j=>.int (i+j)):=UZ λ_ _ _ _ _ _ _ q=>add_int q
theorem kx:xc X (binaryOp .Sub) (PZ λi j=>.int (i - j)):=UZ λ_ _ _ _ _ _ _ q=>sub_int q
theorem pW:xc X (binaryOp .Mod) (rI (λ_ j=>0 < j) λi j=>.int (i % j)):=VB λi j _ _ _ _ _ hc q=>by
 have h1:(0:Int) < j:=hc;exact mod_int' () (by rw[Int.fmod_eq_emod_of_nonneg i ()];exact q)
theorem Qj:xc X (binaryOp .Mod) (rI (λ_ j=>j≠0) λi j=>.int (i.fmod j)):=VB λ_ _ _ _ _ _ _ hc q=>mod_int' hc q
theorem unI {g:Int->Int}
  (rule:∀(i:Int) (t:Tok) (s:Shared) (Q:Value->Shared->Prop) (E:Value->Shared->Prop),Q (.int (g i) s.toks) { s with toks:=s.toks+1 }->wpAny (model X.prog X.w) X.A (f (.int i t)) Q E s) :
  V6 X f (rU λi=>.int (g i)):=by
 intro pins s σ H x v Q I rx h;obtain i|rfl|q:=h;obtain t|rfl:=rx;exact rule i t s _ _ #[.int (g i),H,I.tok _,#[_,rfl],q]
theorem lD:V6 X (unaryOp .USub) (rU λi=>.int (-i)):=unI λ_ _ _ _ _ q=>neg_int q
end
def UC:V->V->Bool
 | .non,.non=>true | .non,.int _=>true | .int _,.non=>true | .non,.bl _=>true | .bl _,.non=>true | .non,.str _=>true | .str _,.non=>true
 | .int _,.int _=>true | .bl _,.bl _=>true | .str _,.str _=>true | .byt _,.byt _=>true
 | .int _,.str _=>true | .str _,.int _=>true | .bl _,.str _=>true | .str _,.bl _=>true
 | _,_=>false
def VT:R2:=λx y H Q=>UC x y=true/\Q (.bl (decide (x=y))) H
def VR:R2:=λx y H Q=>UC x y=true/\Q (.bl (!decide (x=y))) H
theorem KA:decide (V.int i=V.int j)=(i == j):=by
 rw[gW];simp
theorem Ot:decide (V.bl i=V.bl j)=(i == j):=by
 rw[gW];simp
theorem Kz:decide (V.str i=V.str j)=(i == j):=by
 rw[gW];simp
theorem KC:decide (V.byt i=V.byt j)=(i.toList == j.toList):=by
 rw[gW];cases i;cases j;simp
section
variable {X:Cx} {a b c:Expr} {ta tb tc:TE} {pos:Pos}
theorem d9 {σ:St} (I:Inv X pins σ H s) (q:Q (.bl k) H) (e:k=k'):EP X pins σ Q (.bool k') s:=by
 subst e;exact #[.bl k,H,I,rfl,q]
theorem dX:xc X (compareOp .Eq) VT:=by
 intro pins s σ H x y v u Q I rx ry h;obtain hs|q:=h;cases x with
 | non =>
  cases rx;cases y with
  | non=>cases ry;exact PySem.EqNone.eq_none_none (d9 I q (by simp))
  | bl j=>cases ry;exact PySem.EqNone.eq_none_bool (d9 I q (by simp))
  | int j=>obtain t'|rfl:=ry;exact PySem.EqNone.eq_none_int (d9 I q (by simp))
  | str j=>obtain t'|rfl:=ry;exact PySem.EqNone.eq_none_str (d9 I q (by simp))
  | _=>exact absurd (show false=true from hs) bA
 | bl i =>
  cases rx;cases y with
  | non=>cases ry;exact PySem.EqNone.eq_bool_none (d9 I q (by simp))
  | bl j=>cases ry;exact eq_bool (d9 I q Ot)
  | str j=>obtain t'|rfl:=ry;exact PySem.EqMixed.eq_bool_str (d9 I q (by simp))
  | _=>exact absurd (show false=true from hs) bA
 | int i =>
  obtain t|rfl:=rx;cases y with
  | non=>cases ry;exact PySem.EqNone.eq_int_none (d9 I q (by simp))
  | int j=>obtain t'|rfl:=ry;exact eq_int (d9 I q KA)
  | str j=>obtain t'|rfl:=ry;exact PySem.EqMixed.eq_int_str (d9 I q (by simp))
  | _=>exact absurd (show false=true from hs) bA
 | str i =>
  obtain t|rfl:=rx;cases y with
  | non=>cases ry;exact PySem.EqNone.eq_str_none (d9 I q (by simp))
  | bl j=>cases ry;exact PySem.EqMixed.eq_str_bool (d9 I q (by simp))
  | int j=>obtain t'|rfl:=ry;exact PySem.EqMixed.eq_str_int (d9 I q (by simp))
  | str j=>obtain t'|rfl:=ry;exact eq_str (d9 I q Kz)
  | _=>exact absurd (show false=true from hs) bA
 | byt i =>
  obtain t|rfl:=rx;cases y with
  | byt j=>obtain t'|rfl:=ry;exact PySem.W.eq_bytes (d9 I q KC)
  | _=>exact absurd (show false=true from hs) bA
 | _=>cases y <;> exact absurd (show false=true from hs) bA
theorem yp:xc X (compareOp .NotEq) VR:=by
 intro pins s σ H x y v u Q I rx ry h;obtain hs|q:=h;cases x with
 | non =>
  cases rx;cases y with
  | non=>cases ry;exact PySem.EqNone.ne_none_none (d9 I q (by simp))
  | bl j=>cases ry;exact PySem.EqNone.ne_none_bool (d9 I q (by simp))
  | int j=>obtain t'|rfl:=ry;exact PySem.EqNone.ne_none_int (d9 I q (by simp))
  | str j=>obtain t'|rfl:=ry;exact PySem.EqNone.ne_none_str (d9 I q (by simp))
  | _=>exact absurd (show false=true from hs) bA
 | bl i =>
  cases rx;cases y with
  | non=>cases ry;exact PySem.EqNone.ne_bool_none (d9 I q (by simp))
  | bl j=>cases ry;exact ne_bool (d9 I q (congrArg not Ot))
  | str j=>obtain t'|rfl:=ry;exact PySem.EqMixed.ne_bool_str (d9 I q (by simp))
  | _=>exact absurd (show false=true from hs) bA
 | int i =>
  obtain t|rfl:=rx;cases y with
  | non=>cases ry;exact PySem.EqNone.ne_int_none (d9 I q (by simp))
  | int j=>obtain t'|rfl:=ry;exact ne_int (d9 I q (congrArg not KA))
  | str j=>obtain t'|rfl:=ry;exact PySem.EqMixed.ne_int_str (d9 I q (by simp))
  | _=>exact absurd (show false=true from hs) bA
 | str i =>
  obtain t|rfl:=rx;cases y with
  | non=>cases ry;exact PySem.EqNone.ne_str_none (d9 I q (by simp))
  | bl j=>cases ry;exact PySem.EqMixed.ne_str_bool (d9 I q (by simp))
  | int j=>obtain t'|rfl:=ry;exact PySem.EqMixed.ne_str_int (d9 I q (by simp))
  | str j=>obtain t'|rfl:=ry;exact ne_str (d9 I q (congrArg not Kz))
  | _=>exact absurd (show false=true from hs) bA
 | byt i =>
  obtain t|rfl:=rx;cases y with
  | byt j=>obtain t'|rfl:=ry;exact PySem.W.ne_bytes (d9 I q (congrArg not KC))
  | _=>exact absurd (show false=true from hs) bA
 | _=>cases y <;> exact absurd (show false=true from hs) bA
theorem uc:xc X (compareOp .Lt) (PZ λi j=>.bl (decide (i < j))):=Ql λ_ _ _ _ _ _ _ q=>lt_int q
theorem UY:xc X (compareOp .LtE) (PZ λi j=>.bl (decide (i<=j))):=Ql λ_ _ _ _ _ _ _ q=>le_int q
theorem vo:xc X (compareOp .Gt) (PZ λi j=>.bl (decide (j < i))):=Ql λ_ _ _ _ _ _ _ q=>gt_int q
theorem Cv:xc X (compareOp .GtE) (PZ λi j=>.bl (decide (j<=i))):=Ql λ_ _ _ _ _ _ _ q=>ge_int q
theorem DQ:xc X (compareOp .IsNot) (λx y H Q=>y=.non/\Q (.bl (!decide (x=.non))) H):=by
 intro pins s σ H x y v u Q I rx ry h;obtain rfl|q:=h;cases ry;refine isnot_none_gen (d9 I q ?_)
 cases x <;> first
  | (cases rx;rfl)
  | (obtain ⟨t,rfl⟩:=rx;rfl)
theorem bu (b:Expr) {op:CmpOp} (h:op≠.In:=by decide) (h2:op≠.NotIn:=by decide):behindInMarks op b=false:=by
 have e1:(op == CmpOp.In)=false:=by cases op <;> first | rfl | exact absurd rfl h
 have e2:(op == CmpOp.NotIn)=false:=by cases op <;> first | rfl | exact absurd rfl h2
 cases b <;> simp [behindInMarks,e1,e2]
theorem jK (ho:xc X (compareOp op) r) (ha:PE X a ta) (hb:PE X b tb) (hm:behindInMarks op b=false):PE X (.Compare a [op] [b] pos) (Uq r ta tb):=by
 intro pins s σ H Q I h;exact wpAny_Compare1 (TH ha hb I h λv u s2 x y H2 I2 rx ry q=>ho pins s2 σ H2 x y v u Q I2 rx ry q) hm
def QZ (t:TE):TT:=λσ H Q=>t σ H λx H'=>∃k,x=.bl k/\Q k H'
theorem bf (ho:xc X (compareOp op) r) (ha:PE X a ta) (hb:PE X b tb) (hm:behindInMarks op b=false):PT X (.Compare a [op] [b] pos) (QZ (Uq r ta tb)):=by
 intro pins s σ H Q I h
 refine wpAny_isTrue_Compare1 (iG (ha pins s σ H _ I h) λv s1 #[x,H1,I1,r1,q1]=>iG (hb pins s1 σ H1 _ I1 q1) λu s2 #[y,H2,I2,r2,q2] =>
  iG (ho pins s2 σ H2 x y v u _ I2 r1 r2 q2) λc s3 #[z,H3,I3,r3,k,e,q3]=>?_) hm
 subst e;cases r3;exact wpAny_truthy_bool #[H3,I3,q3]
theorem Ar:(sizeLine:Nat) < 2^63:=by rw[sizeLine_eq];decide
theorem vals1 (r:dg [x] us):∃u,us=[u]/\RelV x u:=by
 cases r with
 | cons r1 r2=>cases r2;exact #[_,rfl,r1]
theorem vals2 (r:dg [x,y] us):∃u w',us=[u,w']/\RelV x u/\RelV y w':=by
 cases r with
 | cons r1 r2 =>
  cases r2 with
  | cons r3 r4=>cases r4;exact #[_,_,rfl,r1,r3]
theorem wW:qG X (.builtin "abs") (λxs H Q=>∃i,xs=[.int i]/\Q (.int (if i < 0 then -i else i)) H):=by
 intro pins s σ H xs us Q I r h;obtain i|rfl|q:=h;obtain u|rfl|t|rfl:=vals1 r;exact call_abs_int λu tk=>#[.int (if i < 0 then -i else i),H,I.tok _,#[_,rfl],q]
theorem va (hc:X.calm=true):qG X (.builtin "min") (λxs H Q=>∃i j,xs=[.int i,.int j]/\Q (.int (if j < i then j else i)) H):=by
 intro pins s σ H xs us Q I r h;obtain i|j|rfl|q:=h;obtain u|w'|rfl|⟨t,rfl⟩|⟨t',rfl⟩:=vals2 r;refine min_two_ints (I.ok.hd hc) λh' tk k=>#[_,H,I.kept k,?_,q]
 by_cases hj:j < i
 ·rw[if_pos hj,if_pos hj];exact #[_,rfl]
 ·rw[if_neg hj,if_neg hj];exact #[_,rfl]
end
structure JU (h:Heap) (x dx C:Addr) (mA:Str->Option Value):Prop where
 obj:h.get? x=some (PySem.W.instObj C dx)
 ns:h.Ns1 dx mA
 ne:dx≠x
theorem Lv {h:Heap} (n:h.Ns1 dx mA):∃od,h.get? dx=some od/\∀name,PySem.W.lookIn name od=some (mA name):=by
 obtain o|es|ep|ho|hd|hk|_|hm:=n;refine #[o,ho,λname=>?_];have e:=hm name;unfold nsFind findBy at e;rw[<- Array.find?_toList] at e;unfold PySem.W.lookIn;rw[hd]
 dsimp only
 split
 ·rename_i y q
  rw[q] at e;exact congrArg some e
 ·rename_i q
  rw[q] at e
  have a:es.toList.any (·.refKey)=false:=by
   rw[List.any_eq_false];intro y hy;obtain z|t|hkey:=hk y (Array.mem_toList_iff.mp hy);simp [DictEntry.refKey,hkey]
  have a':¬es.toList.any (·.refKey)=true:=by rw[a];exact bA
  rw[if_neg a'];exact congrArg some e
theorem JU.look (I:JU h x dx C mA):∃od,PySem.W.InstAt h x (PySem.W.instObj C dx) C (some od)/\∀name,PySem.W.lookIn name od=some (mA name) :=
 let ⟨od,ho,hl⟩:=Lv I.ns
 #[od,#[I.obj,rfl,rfl,ho],hl]
section
variable {K:FG9}
theorem get_map (X:K.In s.8) (I:JU s.heap x dx C mA) (hg:PySem.W.plainGet K C name=true) (hh:PySem.W.hasDictIn K C=true)
  (ha:PySem.W.findIn K (.ref C) name=some none) (hv:mA name=some v) (hv':PySem.W.handedIn v=true) (h:Q v { s with toks:=s.toks+1 }) :
  wpAny (model prog w) A (getAttr (.ref x) name expr) Q E s:=by
 obtain od|J|hl:=I.look;exact PySem.W.get_value X J (EZ hg).1 (PySem.W.findObj_own hh ha rfl (by rw[hl,hv])) hv' h
theorem NW (X:K.In s.8) (I:JU s.heap x dx C mA) (hg:PySem.W.plainGet K C name=true)
  (hf:PySem.W.findIn K (.ref C) name=some (some (.ref f))) (ht:PySem.W.isFn K (.ref f)=true) (hv:mA name=none) (h:Q (.ref f,[.ref x]) s) :
  wpAny (model prog w) A (getMethod (.ref x) name pl) Q E s:=by
 obtain od|J|hl:=I.look;exact PySem.W.method_fn X J (EZ hg).1 (EZ hg).2 hf (beq_iff_eq.mp ht) (by show (PySem.W.lookIn name od).map (·.isSome)=some false;rw[hl,hv];rfl) h
theorem Pf (X:K.In s.8) (I:JU s.heap x dx C mA)
  (hs:PySem.W.findIn K (.ref C) "__setattr__"=some (some (.builtin "object.__setattr__"))) (hp:PySem.W.plainOver K C=true) (ht:PySem.W.takerIn K C name=some none) (hh:PySem.W.hasDictIn K C=true)
  (hw:PySem.Within mA ns) (hsz:ns.9<=sizeLine)
  (h:∀h',JU h' x dx C (λy=>if y=name then some v else mA y)->Heap.SameBut dx s.heap h'->Q .unit { s with heap:=h',toks:=s.toks+2 }) :
  wpAny (model prog w) A (setAttr (.ref x) name v) Q E s:=by
 obtain od|J|hl:=I.look;refine PySem.W.set_plain X J hs (PySem.W.osa_open (s:={ s with toks:=s.toks+1 }) (r:=none) X J hp ht λb=>?_);obtain cd|hc|hd':=PySem.W.any_some hh;have hx:s.heap.get? x=some #[.ref C,some dx,.plain,[].toArray]:=I.obj;refine wpAny_bind (wpAny_pure (wpAny_bind (wpAny_bind (wpAny_loadPart hx (wpAny_bind (PySem.W.Looks.here (s:={ s with toks:=s.toks+1 }) (PySem.W.looks_clsIn X hc) ?_))))));rw[hd'];refine wpAny_pure (a:=some dx) (wpAny_bind (wpAny_pure (wpAny_bind ?_)));refine wpAny_nsSet1 (s:={ s with toks:=s.toks+1 }) I.ns λh' hn2 hs2=>?_
 obtain oD|esD|epD|hoD|hdD|hcD:=hn2.count (PySem.Within.cons name v hw);refine wpAny_bind (wpAny_lookBehind hoD (by rw[hdD];exact pastItsLine_dict (ag hcD (by rw[bx];lia))) ?_);exact wpAny_pure (h _ #[(hs2.2 _ (Ne.symm I.ne)).trans I.obj,hn2,I.ne] hs2)
theorem NL (X:K.In s.8) (hm:PySem.W.makesIn K C=true)
  (hi:PySem.W.findIn K (.ref C) "__init__"=some (some (.ref f))) (hf:PySem.W.typeIn K (.ref f)=some (.type "function"))
  (h:codeAny (model prog w) (A.under (.builtin "type.__call__" #[.ref C :: vs,kw])) (.call (.ref f) #[.ref (s.6+1) :: vs,kw]) (PySem.W.InitBack (s.6+1) R)
   { s with heap:=(s.heap.push PySem.W.emptyDict).push (PySem.W.instObj C s.6) }) :
  codeAny (model prog w) A (.call (.ref C) #[vs,kw]) R s:=by
 obtain hh|g|d|t|os:=s;exact PySem.W.make_core (PySem.W.makes_of X hm) (PySem.W.looks_findIn X hi) (λself=>PySem.W.bind_fn X self hf) (.inl rfl) h
end
def cX (f:Str) (v:V):List (Str×V)->List (Str×V)
 | []=>[(f,v)]
 | (g,x) :: r=>if g=f then (g,v) :: r else (g,x) :: cX f v r
theorem bT (f g:Str) (v:V):∀fs:List (Str×V),(cX f v fs).lookup g=if g=f then some v else fs.lookup g
 | []=>by
  show List.lookup g [(f,v)]=_
  by_cases h:g=f
  ·have hb:(g == f)=true:=beq_iff_eq.mpr h;simp only[List.lookup,hb,if_pos h]
  ·have hb:(g == f)=false:=beq_eq_false_iff_ne.mpr h;simp only[List.lookup,hb,if_neg h]
 | (k,x) :: r=>by
  have ih:=bT f g v r;rw[show cX f v ((k,x) :: r)=(if k=f then (k,v) :: r else (k,x) :: cX f v r) from rfl];by_cases hk:k=f
  ·rw[if_pos hk];by_cases h:g=k
   ·have hb:(g == k)=true:=beq_iff_eq.mpr h;simp only[List.lookup,hb,if_pos (h.trans hk)]
   ·have hb:(g == k)=false:=beq_eq_false_iff_ne.mpr h;simp only[List.lookup,hb,if_neg (λe:g=f=>h (e.trans hk.symm))]
  ·rw[if_neg hk];by_cases h:g=k
   ·have hb:(g == k)=true:=beq_iff_eq.mpr h;simp only[List.lookup,hb,if_neg (λe:g=f=>hk (h.symm.trans e))]
   ·have hb:(g == k)=false:=beq_eq_false_iff_ne.mpr h;simp only[List.lookup,hb];exact ih
theorem xP (f:Str) (v:V):∀fs:List (Str×V),f∈(cX f v fs).map (·.1)/\∀g,g∈fs.map (·.1)->g∈(cX f v fs).map (·.1)
 | []=>#[by simp [cX],λg h=>by simp at h]
 | (k,x) :: r=>by
  obtain i1|i2:=xP f v r;rw[show cX f v ((k,x) :: r)=(if k=f then (k,v) :: r else (k,x) :: cX f v r) from rfl];by_cases hk:k=f
  ·rw[if_pos hk];subst hk;exact #[by simp,λg h=>by simpa using h]
  ·rw[if_neg hk];refine #[?_,λg h=>?_]
   ·rw[iD];exact cw _ i1
   ·rw[iD] at h ⊢;rcases aI.mp h with e | e
    ·exact aI.mpr (.inl e)
    ·exact cw _ (i2 g e)
theorem yv (f:Str) (v:V):∀fs:List (Str×V),(cX f v fs).9<=fs.9+1
 | []=>by simp [cX]
 | (k,x) :: r=>by
  have ih:=yv f v r;rw[show cX f v ((k,x) :: r)=(if k=f then (k,v) :: r else (k,x) :: cX f v r) from rfl];by_cases hk:k=f
  ·rw[if_pos hk,bx,bx];lia
  ·rw[if_neg hk,bx,bx];lia
theorem BO.some_of (r:BO (some v) o):∃u,o=some u/\RelV v u:=by
 cases o with
 | none=>exact (show False from r).elim
 | some u=>exact #[u,rfl,r]
theorem BO.none_of (r:BO none o):o=none:=by
 cases o with
 | none=>rfl
 | some u=>exact (show False from r).elim
theorem LB (r:RelV v u):PySem.W.handedIn u=true:=by
 cases v with
 | non=>cases (show u=Value.none from r);rfl
 | bl b=>cases (show u=Value.bool b from r);rfl
 | int i=>obtain t|e:=(show ∃t,u=Value.int i t from r);cases e;rfl
 | str x=>obtain t|e:=(show ∃t,u=Value.str x t from r);cases e;rfl
 | byt b=>obtain t|e:=(show ∃t,u=Value.bytes b t from r);cases e;rfl
 | flt b=>obtain t|e:=(show ∃t,u=Value.float b t from r);cases e;rfl
 | ref a=>cases (show u=Value.ref a from r);rfl
 | ty n=>cases (show u=Value.type n from r);rfl
theorem y7 (hok:zg P w H h) (e:H a=some (.ins C dx fs)):∃mA,JU h a dx C mA/\(∀f,BO (fs.lookup f) (mA f))/\PySem.Within mA (fs.map (·.1))/\fs.9<=1000/\H dx=some (.own a):=by
 obtain d|z|ne|ob|mA|n|r|q:=(show j5 P w H h a (.ins C dx fs) from hok a _ e);exact #[mA,#[ob,n,ne],r,q,z,d]
structure Mn (K:FG9) (C:Addr):Prop where
 pg:PySem.W.plainGet K C Str.empty=true
 hd:PySem.W.hasDictIn K C=true
 po:PySem.W.plainOver K C=true
 sa:PySem.W.findIn K (.ref C) "__setattr__"=some (some (.builtin "object.__setattr__"))
theorem Mn.get {K:FG9} (c:Mn K C) (f:Str):PySem.W.plainGet K C f=true:=c.pg
def kS (K:FG9) (C:Addr) (f:Str):Prop:=PySem.W.findIn K (.ref C) f=some none
theorem kS.taker {K:FG9} (n:kS K C f):PySem.W.takerIn K C f=some none:=by
 unfold PySem.W.takerIn;rw[show PySem.W.findIn K (.ref C) f=some none from n];rfl
structure TV (K:FG9) (C:Addr) (m:Str) (f:Addr):Prop where
 at_:PySem.W.findIn K (.ref C) m=some (some (.ref f))
 fn:PySem.W.isFn K (.ref f)=true
 kp:PySem.W.keepIn K (.ref f)=true
section
variable {σ:St}
theorem Jo (I:Inv X pins σ H s) (e:H a=some (.ins C dx fs)) (c:Mn X.K C) (n:kS X.K C f) (l:fs.lookup f=some v)
  (h:∀u s',Inv X pins σ H s'->RelV v u->Q u s'):wpAny (model X.prog X.w) A (getAttr (.ref a) f b) Q E s:=by
 obtain mA|O|r|_|_|_:=y7 I.hok e;obtain u|hu|ru:=BO.some_of (v:=v) (o:=mA f) (by rw[<- l];exact r f);exact get_map I.kIn O (c.get f) c.hd n hu (LB ru) (h u _ (I.tok _) ru)
theorem Jn (I:Inv X pins σ H s) (e:H a=some (.ins C dx fs)) (c:Mn X.K C) (k:TV X.K C m g) (l:fs.lookup m=none)
  (h:Q (.ref g,[.ref a]) s):wpAny (model X.prog X.w) A (getMethod (.ref a) m pl) Q E s:=by
 obtain mA|O|r|_|_|_:=y7 I.hok e;have hn:mA m=none:=BO.none_of (by rw[<- l];exact r m);exact NW I.kIn O (c.get m) k.at_ k.fn hn h
theorem Iz (I:Inv X pins σ H s) (e:H a=some (.ins C dx fs)) (c:Mn X.K C) (n:kS X.K C f) (hl:fs.9 < 1000) (ry:RelV y u)
  (h:∀s',Inv X pins σ (upd H a (.ins C dx (cX f y fs))) s'->Q .unit s'):wpAny (model X.prog X.w) A (setAttr (.ref a) f u) Q E s:=by
 obtain mA|O|r|wi|_|ho:=y7 I.hok e;have hz:(fs.map (·.1)).9<=sizeLine:=by rw[af,sizeLine_eq];lia
 refine Pf I.kIn O c.sa c.po n.taker c.hd wi hz λh' O' sb=>h _ ?_
 have hd:∃o,h'.get? dx=some o:=let ⟨o,_,_,e',_⟩:=O'.ns;#[o,e']
 refine I.write (x:=a) (e:=dx) (by rw[e];exact True.intro) (.inr ho) (λb q hb z=>(sb.2 b hb).trans z) hd ?_;refine #[by rw[bo O.ne];exact ho,?_,O.ne,O'.obj,_,O'.ns,λg=>?_,λg hg=>?_]
 ·have:=yv f y fs;lia
 ·show BO ((cX f y fs).lookup g) (if g=f then some u else mA g)
  rw[bT];by_cases q:g=f
  ·rw[if_pos q,if_pos q];exact ry
  ·rw[if_neg q,if_neg q];exact r g
 ·by_cases q:g=f
  ·rw[q];exact (xP f y fs).1
  ·refine (xP f y fs).2 g (wi g λz=>hg ?_);show (if g=f then some u else mA g)=none
   rw[if_neg q];exact z
theorem Inv.made (I:Inv X pins σ H s):Inv X pins σ (upd (upd H s.heap.objs.size (.own (s.6+1))) (s.6+1) (.ins C s.6 []))
  { s with heap:=(s.heap.push PySem.W.emptyDict).push (PySem.W.instObj C s.6) }:=by
 have e1:(s.heap.push PySem.W.emptyDict).get? s.6=some PySem.W.emptyDict:=Heap.get?_push_size s.heap rfl
 have e2:((s.heap.push PySem.W.emptyDict).push (PySem.W.instObj C s.6)).get? (s.6+1)=some (PySem.W.instObj C s.6):=by
  have:=Heap.get?_push_size (s.heap.push PySem.W.emptyDict) (o:=PySem.W.instObj C s.6) rfl;rwa [Heap.size_push] at this
 have e3:(s.heap.push PySem.W.emptyDict).Ns s.heap.objs.size (λ_=>none):=#[PySem.W.emptyDict,[].toArray,_,e1,rfl,(λe he=>absurd he (by simp)),λ_=>rfl];have I1:=I.laid (a:=s.6) (o:=.own (s.6+1)) (h':=s.heap.push PySem.W.emptyDict) (t':=s.toks) (λb u q=>Heap.get?_push_of_some _ q) (ak _) #[_,e1];refine I1.laid (a:=s.6+1) (o:=.ins C s.6 []) (t':=s.toks) (λb u q=>Heap.get?_push_of_some _ q) (Nat.le_of_eq (Heap.size_push _ _)) ?_;have ne:s.6≠s.6+1:=cI (gE _);refine #[by rw[bo ne,aG],br _,ne,e2,λ_=>none,(Heap.Ns1.of_empty e3).at λo q=>Heap.get?_push_of_some _ q,λ_=>True.intro,λy hy=>absurd rfl hy]
theorem QK (hb:attributeBase e f env (eval e env)=eval e env)
  (h:wpAny (model prog w) A (eval e env) (λo s₁=>wpAny (model prog w) A (getAttr o f true) Q E s₁) E s):wpAny (model prog w) A (eval (.Attribute e f pos) env) Q E s :=
 Attribute_any_ h (by rw[arm_eval_Attribute,hb])
end
def RZ (K:FG9) (ta:TE) (f:Str):TE:=λσ H Q=>ta σ H λx H1=>∃a C dx fs v,x=.ref a/\H1 a=some (.ins C dx fs)/\Mn K C/\kS K C f/\fs.lookup f=some v/\Q v H1
def UD (K:FG9) (ta tv:TE) (f:Str):TS:=λD σ H=>tv σ H λy H1=>ta σ H1 λx H2=>∃a C dx fs,x=.ref a/\H2 a=some (.ins C dx fs)/\Mn K C/\kS K C f/\fs.9 < 1000 /\
 D.nx σ (upd H2 a (.ins C dx (cX f y fs)))
theorem gN (he:PE X e ta) (hb:attributeBase e f X.env (eval e X.env)=eval e X.env):PE X (.Attribute e f pos) (RZ X.K ta f):=by
 intro pins s σ H Q I h;refine QK hb (iG (he pins s σ H _ I h) λu s1 #[x,H1,I1,rx,a,C,dx,fs,v,ex,ea,c,n,l,q]=>?_);subst ex;obtain rfl:u=Value.ref a:=rx;exact Jo I1 ea c n l λu' s2 I2 ru=>#[v,H1,I2,ru,q]
theorem xG (ha:PE X o ta) (hv:PE X value tv) (hs:swapsWith value (some (.Attribute o f pos')) pos.line X.env=pure false):PS X (.Assign [.Attribute o f pos'] value pos) (UD X.K ta tv f):=by
 intro pins s σ H D I h;refine plainObj_wpAny_Assign_Attribute (iG (hv pins s σ H _ I h) λu s1 #[y,H1,I1,ry,q]=>iG (ha pins s1 σ H1 _ I1 q) λov s2 #[x,H2,I2,rx,a,C,dx,fs,ex,ea,c,n,l,q2]=>?_) hs;subst ex;obtain rfl:ov=Value.ref a:=rx;exact Iz I2 ea c n l ry λs3 I3=>#[σ,_,I3,q2]
section
variable {X:Cx} {pins:List (Addr×Obj)} {σ:St} {H:Hp} {s:Shared} {A:Around} {E:Value->Shared->Prop} {Q:Value->Shared->Prop} {c:Value} {b:Bool}
inductive yc (K:FG9) (H:Hp):V->Value->Prop where
 | non:yc K H .non (.type "NoneType")
 | bl (x:Bool):yc K H (.bl x) (.type "bool")
 | int (i:Int):yc K H (.int i) (.type "int")
 | str (x:Str):yc K H (.str x) (.type "str")
 | flt (x:UInt64):yc K H (.flt x) (.type "float")
 | lst {a:Addr} {xs:List V} (e:H a=some (.lst xs)):yc K H (.ref a) (.type "list")
 | frz {a:Addr} {o:Obj} {xs:List V} (e:H a=some (.frz o (.lst xs))):yc K H (.ref a) (.type "list")
 | tup {a:Addr} {xs:List V} (e:H a=some (.tup xs)):yc K H (.ref a) (.type "tuple")
 | dK {a:Addr} {kvs:List (Key×V)} (e:H a=some (.dK kvs)):yc K H (.ref a) (.type "dict")
 | dT {a:Addr} {kvs:List (List Key×V)} (e:H a=some (.dT kvs)):yc K H (.ref a) (.type "dict")
 | ins {a C dx:Addr} {fs:List (Str×V)} (e:H a=some (.ins C dx fs)) (cl:Mn K C) (ha:PySem.W.findIn K (.ref C) "__class__"=some (some (.builtin "object.__class__")))
   (hn:PySem.W.specialIn K (.builtin "object.__class__") "__get__"=some (some (.builtin "getset_descriptor.__get__"))) (htk:PySem.W.takesIn K (.builtin "object.__class__")=some true)
   (hm:PySem.W.mroIn K C (.type "object")=some true):yc K H (.ref a) (.ref C)
theorem CI (I:Inv X pins σ H s) (rx:RelV x u) (ty:yc X.K H x t) (e:PySem.W.kitOne X.K t c=some b) (h:∀tk,Q (.bool b) { s with toks:=tk }) :
  wpAny (model X.prog X.w) A (call (.builtin "isinstance") [u,c]) Q E s:=by
 cases ty with
 | non=>cases (show u=Value.none from rx);exact eh PySem.W.kitx_none I.kIn True.intro e (λz=>nomatch z) h
 | bl y=>cases (show u=Value.bool y from rx);exact eh PySem.W.kitx_bool I.kIn True.intro e (λz=>nomatch z) h
 | int i=>obtain t|q:=(show ∃t,u=Value.int i t from rx);cases q;exact eh PySem.W.kitx_int I.kIn True.intro e (λz=>nomatch z) h
 | str y=>obtain t|q:=(show ∃t,u=Value.str y t from rx);cases q;exact eh PySem.W.kitx_str I.kIn True.intro e (λz=>nomatch z) h
 | flt y=>obtain t|q:=(show ∃t,u=Value.float y t from rx);cases q;exact eh PySem.W.kitx_float I.kIn True.intro e (λz=>nomatch z) h
 | @lst a xs ea =>
  cases (show u=Value.ref a from rx);obtain _|_|n|_|h1:=(show j5 X.prog X.w H s.heap a (.lst xs) from I.hok a _ ea);exact eh PySem.W.kitx_list I.kIn #[_,h1,rfl] e (λz=>nomatch z) h
 | @frz a ob xs ea =>
  cases (show u=Value.ref a from rx);obtain _|_|_|n|_|h1:=(show j5 X.prog X.w H s.heap a (.frz ob (.lst xs)) from I.hok a _ ea);exact eh PySem.W.kitx_list I.kIn #[_,h1,rfl] e (λz=>nomatch z) h
 | @tup a xs ea =>
  cases (show u=Value.ref a from rx);obtain _|_|_|p:=(show j5 X.prog X.w H s.heap a (.tup xs) from I.hok a _ ea);obtain o|h1|h2|_:=p;exact eh PySem.W.kitx_tuple I.kIn #[o,h1,h2] e (λz=>nomatch z) h
 | @dK a kvs ea =>
  cases (show u=Value.ref a from rx);obtain _|_|vs|_|p:=(show j5 X.prog X.w H s.heap a (.dK kvs) from I.hok a _ ea);obtain o|es|ep|h1|h2|_:=p;exact eh PySem.W.kitx_dict I.kIn #[o,h1,h2.1] e (λz=>nomatch z) h
 | @dT a kvs ea =>
  cases (show u=Value.ref a from rx);obtain _|_|xs|_|o|es|ep|h1|h2|_:=(show j5 X.prog X.w H s.heap a (.dT kvs) from I.hok a _ ea);exact eh PySem.W.kitx_dict I.kIn #[o,h1,h2.1] e (λz=>nomatch z) h
 | @ins a C dx fs ea cl ha hn htk hm =>
  cases (show u=Value.ref a from rx);obtain mA|O|_:=y7 I.hok ea;obtain od|J|_:=O.look;exact eh (PySem.W.kitx_own (cl.get _) cl.hd ha hn htk hm) I.kIn J e (λz=>nomatch z) h
end
structure mV (k:Nat) (A:Around):Prop where
 hd:A.handled=none
 dp:A.depth+3*k+5 < recursionLimit
 un:A.units+16*k+200 < cLine
theorem mV.mono (r:mV k A) (h:j<=k):mV j A:=#[r.hd,by have:=r.dp;lia,by have:=r.un;lia]
theorem mV.deeper (r:mV (k+1) A) (env:Env):mV k (A.deeper env) :=
 #[r.hd,by have:=r.dp;show A.depth+1+3*k+5 < _;lia,by have:=r.un;show A.units+3+16*k+200 < _;lia]
theorem Jh {A:Around}:(A.under (.builtin "type.__call__" #[.ref C :: us,kw])).depth=A.depth+1:=by
 first | rfl | simp [Around.under,Code.weight,Code.isCreation,Code.isGuard,Code.isCaller,Code.frames,Code.isFrame,guardIds]
theorem Jg {A:Around}:(A.under (.builtin "type.__call__" #[.ref C :: us,kw])).units=A.units+1:=by
 first | rfl | simp [Around.under,Code.cUnits,Code.frames,Code.isFrame]
theorem mV.make (r:mV (k+1) A) (C:Addr) (us:List Value) (kw:List (Str×Value)):mV k (A.under (.builtin "type.__call__" #[.ref C :: us,kw])) :=
 #[r.hd,by have:=r.dp;rw[Jh];lia,by have:=r.un;rw[Jg];lia]
theorem mV.depth (r:mV k A):A.depth < recursionLimit:=by have:=r.dp;lia
theorem mV.units (r:mV k A):A.units+64 < cLine:=by have:=r.un;lia
def AS:TA:=λ_ H Q=>Q [] H
def jC (ta:TE) (tr:TA):TA:=λσ H Q=>ta σ H λx H1=>tr σ H1 λxs H2=>Q (x :: xs) H2
section
variable {X:Cx} {e:Expr} {es:List Expr} {te:TE} {t:TA} {pos:Pos}
theorem ir:PA X [] AS:=λ_ _ _ _ H Q I h=>Calls.spliced_nil #[[],H,I,.nil,h]
theorem fV (ha:PE X e te) (hr:PA X es t) (hs:starEach (e :: es) X.env=(false,eval e X.env) :: starEach es X.env:=by rfl):PA X (e :: es) (jC te t):=by
 intro pos pins s σ H Q I h;rw[hs];show wpAny _ _ (spliced ((false,eval e X.env) :: backTo pos (starEach es X.env))) _ _ s
 refine Calls.spliced_cons (iG (ha pins s σ H _ I h) λu s1 #[x,H1,I1,r1,q1]=>?_);exact iG (hr pos pins s1 σ H1 _ I1 q1) λus s2 #[xs,H2,I2,r2,q2]=>#[x :: xs,H2,I2,.cons r1 r2,q2]
def Uj (t:TA):TE:=λσ H Q=>t σ H λxs H1=>xs.9<=sizeLine/\∀p,H1 p=none->Q (.ref p) (upd H1 p (.tup xs))
def Ut (t:TA):TE:=λσ H Q=>t σ H λxs H1=>xs.9<=sizeLine/\∀p,H1 p=none->Q (.ref p) (upd H1 p (.lst xs))
theorem cD (h:PA X es t):PE X (.Tuple es x1 pos) (Uj t):=by
 intro pins s σ H Q I hq;refine wpAny_Tuple_spliced (iG (h pos pins s σ H _ I hq) λus s1 #[xs,H1,I1,r,z,q]=>#[by rw[<- r.9];exact z,?_]);have hf:H1 s1.6=none:=I1.hok.fresh (ak _);refine #[.ref s1.6,upd H1 s1.heap.objs.size (.tup xs),I1.laid (t':=s1.toks) (λb u e=>Heap.get?_push_of_some _ e) (ak _) ?_,rfl,q _ hf];exact #[z,us,r,#[_,Heap.get?_push_size _ rfl,rfl,_,rfl]]
theorem dw (h:PA X es t):PE X (.List es pos) (Ut t):=by
 intro pins s σ H Q I hq;refine wpAny_List_spliced (iG (h pos pins s σ H _ I hq) λus s1 #[xs,H1,I1,r,z,q]=>#[by rw[<- r.9];exact z,?_]);have hf:H1 s1.6=none:=I1.hok.fresh (ak _);refine #[.ref s1.6,upd H1 s1.heap.objs.size (.lst xs),I1.laid (t':=s1.toks) (λb u e=>Heap.get?_push_of_some _ e) (ak _) ?_,rfl,q _ hf];exact #[z,us,0,r,Heap.get?_push_size _ rfl]
end
abbrev Sp:=List V->Hp->VK->XK->Prop
abbrev OL:=List Env->Hp->Shared->XK->Value->Shared->Prop
structure JW (P:Program) (w:World) (K:FG9) (mg:Str->Option Value) (base:Heap) (A:Around) (outer:List Env) (s:Shared) (H:Hp):Prop where
 frames:A.frames=some outer
 mod:Mod K mg base
 bs:∀b o,base.get? b=some o->s.heap.get? b=some o/\H b=none
 bsz:base.objs.7<=s.heap.objs.size
 funs:s.heap.FunFrames base outer
 frf:∀b∈Mh outer,H b=none
 hok:zg P w H s.heap
 bare:AllBare s.gens
def CE (outer:List Env) (P:Program) (w:World) (H:Hp) (s:Shared) (Q:VK) (u:Value) (s':Shared):Prop :=
 ∃v H',s'.os=s.os/\AllBare s'.gens/\Un (Mh outer) [] H H' s.heap s'.8/\zg P w H' s'.8/\RelV v u/\Q v H'
def CR (CX:OL) (outer:List Env) (P:Program) (w:World) (H:Hp) (s:Shared) (Q:VK) (E:XK) (r:Result) (s':Shared):Prop :=
 match r with
 | .ok (.ret u)=>CE outer P w H s Q u s'
 | .ok _=>False
 | .error e=>CX outer H s E e s'
structure uH (P:Program) (w:World) (K:FG9) (mg:Str->Option Value) (base:Heap) (CX:OL) (k:Nat) (f:Addr) (fd:FuncData) (ps:List Str) (sp:Sp):Prop where
 len:∀vs H Q E,sp vs H Q E->vs.9=ps.9
 run:∀(A:Around) (outer:List Env) (s:Shared) (H:Hp) (args:Args) (us:List Value) (vs:List V) (Q:VK) (E:XK),mV k A->JW P w K mg base A outer s H->BindsTo s fd args (ps.zip us)->dg vs us->sp vs H Q E →
  codeAny (model P w) A (.call (.ref f) args) (CR CX outer P w H s Q E) s
theorem JW.make {K:FG9} (e:JW P w K mg base A outer s H) (C:Addr) (us:List Value) (kw:List (Str×Value)) :
  JW P w K mg base (A.under (.builtin "type.__call__" #[.ref C :: us,kw])) outer s H:=#[by first | exact e.frames | (simpa [Around.under,Code.envs,Code.isFrame,pushEnvs] using e.frames),e.mod,e.bs,e.bsz,e.funs,e.frf,e.hok,e.bare]
section
variable {σ:St}
theorem Inv.env0 (I:Inv X pins σ H s):JW X.prog X.w X.K X.mg X.base X.A X.stack s H :=
 #[I.ok.frames,I.ok.mod,I.bs,ag I.ok.bsz I.sz,I.stack,I.stkFree,I.hok,I.bare]
theorem Inv.after (I:Inv X pins σ H s) (h:CE X.stack X.prog X.w H s Q u s'):EP X pins σ Q u s':=by
 obtain v|H'|os|bare|un|hok|r|q:=h;obtain hh|g|d|t|os':=s';obtain rfl:os'=s.os:=os;exact #[v,H',I.call (h':=hh) (g':=g) (d':=d) (t':=t) (ch:=[]) un hok bare (λb z=>absurd z (by simp)),r,q]
end
def MF (sp:Sp) (dvs:List V) (E:XK) (t:TA):TE:=λσ H Q=>t σ H λvs H1=>sp (vs++dvs) H1 Q E
def Q3 (C:Addr) (m:Str) (sp:Sp) (dvs:List V) (E:XK) (ta:TE) (t:TA):TE:=λσ H Q=>ta σ H λx H1=>∃a dx fs,x=.ref a/\H1 a=some (.ins C dx fs)/\fs.lookup m=none /\
 t σ H1 λvs H2=>sp (x :: (vs++dvs)) H2 Q E
def Q4 (C:Addr) (sp:Sp) (dvs:List V) (E:XK) (t:TA):TE:=λσ H Q=>t σ H λvs H1=>∀x dx,H1 x=none->H1 dx=none->dx≠x →
 sp (.ref x :: (vs++dvs)) (upd (upd H1 dx (.own x)) x (.ins C dx [])) (λv H2=>v=.non/\Q (.ref x) H2) E
def Binds (K:FG9) (fd:FuncData) (ps:List Str) (ds:List Value):Prop :=
 ∀(s:Shared) (us:List Value),K.In s.8->(us++ds).9=ps.9->BindsTo s fd #[us,[]] (ps.zip (us++ds))
theorem Binds.all {K:FG9} (h:∀us:List Value,us.9=ps.9->bindArgs fd #[us,[]]=pure (ps.zip us)):Binds K fd ps []:=λs us _ hl=>by
 rw[oo] at hl ⊢;exact .of_eq (h us hl)
def ye (CX:OL) (X:Cx) (E:XK):Prop:=∀(pins:List (Addr×Obj)) (σ:St) (H:Hp) (s:Shared) (e:Value) (s':Shared),Inv X pins σ H s->CX X.stack H s E e s'->X.xe e s'
section
variable {X:Cx} {CX:OL} {k:Nat} {f C:Addr} {fd:FuncData} {ps:List Str} {sp:Sp} {dvs:List V} {ds:List Value} {E:XK} {x m:Str} {p pos apos:Pos} {e o:Expr} {es:List Expr} {ta:TE} {t:TA}
theorem MY {σ:St} (F:uH X.prog X.w X.K X.mg X.base CX k f fd ps sp) (hr:mV k X.A) (hb:Binds X.K fd ps ds) (hd:dg dvs ds) (hx:ye CX X E)
  (I:Inv X pins σ H s) (r:dg vs us) (h:sp (vs++dvs) H Q E):wpAny (model X.prog X.w) X.A (call (.ref f) us) (EP X pins σ Q) X.xe s:=by
 have r2:dg (vs++dvs) (us++ds):=r.append hd;have hl:(us++ds).9=ps.9:=by rw[<- r2.9];exact F.len _ _ _ _ h
 refine wpAny_call (codeAny_mono (F.run X.A X.stack s H #[us,[]] (us++ds) (vs++dvs) Q E hr I.env0 (hb s us I.kIn hl) r2 h) λr s' hq=>?_);cases r with
 | error e=>exact hx pins σ H s e s' I hq
 | ok fl =>
  cases fl with
  | ret u=>exact I.after hq
  | next=>exact False.elim hq
  | brk=>exact False.elim hq
  | cont=>exact False.elim hq
theorem Qh (F:uH X.prog X.w X.K X.mg X.base CX k f fd ps sp) (hr:mV k X.A) (hg:Gl X x) (hm:X.mg x=some (.ref f)) (hk:PySem.W.keepIn X.K (.ref f)=true) (hb:Binds X.K fd ps ds) (hd:dg dvs ds) (hx:ye CX X E)
  (ha:PA X (e :: es) t) (hdb:(x == ("__debug__":Str))=false:=by decide) (he:starEach (e :: es) X.env=(false,eval e X.env) :: starEach es X.env:=by rfl) (hpl:(backTo pos (starEach es X.env)).any (·.1)=false:=by rfl) :
  PE X (.Call (.Name x p) (e :: es) [] pos) (MF sp dvs E t):=by
 intro pins s σ H Q I h;refine wpAny_Call_Name_kw (Ea I hg hm ?_ hdb);refine Ip (h₀:=X.base) I.ok.mod.kin hk (iG (ha pos pins s σ H _ I h) λus s1 #[vs,H1,I1,r,q]=>#[I1.kIn,?_]) he hpl;exact MY F hr hb hd hx I1 r q
theorem Qd {pl : Sem Bool} (he : PE X o ta) (c : Mn X.K C) (hm : TV X.K C m f) (F : uH X.prog X.w X.K X.mg X.base CX k f fd ps sp) (hr : mV k X.A) (hb : Binds X.K fd ps ds) (hd : dg dvs ds) (hx : ye CX X E) (ha : PA X (e :: es) t)
    (hst : starEach (e :: es) X.env = (false, eval e X.env) :: starEach es X.env := by rfl) (hpl : (backTo pos (starEach es X.env)).any (·.1) = false := by rfl)
    (ht : eval (.Call (.Attribute o m apos) (e :: es) [] pos) X.env = (do
      let ov <- eval o X.env
      standAt apos.atName
      let (f, first) <- holding [ov] (getMethod ov m pl)
      callWith pos f first (backTo pos (starEach (e :: es) X.env)) (backToKw pos (keywordEach [] X.env))) := by rfl) :
    PE X (.Call (.Attribute o m apos) (e :: es) [] pos) (Q3 C m sp dvs E ta t) := by
  intro pins s σ H Q I h;refine PySem.W.methodCall_KW (pl := pl) (iG (he pins s σ H _ I h) λu s1 #[x, H1, I1, rx, a, dx, fs, ex, ea, l, q] => ?_) ht;subst ex;obtain rfl : u = Value.ref a := rx;refine Jn I1 ea c hm l ?_;refine Ip (first := [.ref a]) (h₀ := X.base) I.ok.mod.kin hm.kp (iG (ha pos pins s1 σ H1 _ I1 q) λus s2 #[vs, H2, I2, r, q2] => #[I2.kIn, ?_]) hst hpl;exact MY (us := .ref a :: us) (vs := .ref a :: vs) F hr hb hd hx I2 (.cons rfl r) q2
structure Mk (K:FG9) (C f:Addr):Prop where
 makes:PySem.W.makesIn K C=true
 init:PySem.W.findIn K (.ref C) "__init__"=some (some (.ref f))
 fn:PySem.W.isFn K (.ref f)=true
 kp:PySem.W.keepIn K (.ref C)=true
theorem MX {σ:St} (M:Mk X.K C f) (F:uH X.prog X.w X.K X.mg X.base CX k f fd ps sp) (hr:mV (k+1) X.A) (hb:Binds X.K fd ps ds) (hd:dg dvs ds)
  (hx:ye CX X E) (I:Inv X pins σ H s) (r:dg vs us)
  (h:∀x dx,H x=none->H dx=none->dx≠x->sp (.ref x :: (vs++dvs)) (upd (upd H dx (.own x)) x (.ins C dx [])) (λv H2=>v=.non/\Q (.ref x) H2) E) :
  wpAny (model X.prog X.w) X.A (call (.ref C) us) (EP X pins σ Q) X.xe s:=by
 have hq:=h (s.6+1) s.heap.objs.size (I.hok.fresh (kY _)) (I.hok.fresh (ak _)) (cI (gE _));have I2:=Inv.made (C:=C) I;have r2:dg (V.ref (s.6+1) :: (vs++dvs)) (Value.ref (s.6+1) :: (us++ds)):=.cons rfl (r.append hd)
 have hl:(Value.ref (s.6+1) :: us++ds).9=ps.9:=by
  have e:=r2.9;rw[F.len _ _ _ _ hq] at e;exact e.symm
 refine wpAny_call (NL (f:=f) I.kIn M.makes M.init (beq_iff_eq.mp M.fn) (codeAny_mono (F.run _ X.stack _ _ #[Value.ref (s.6+1) :: us,[]] (Value.ref (s.6+1) :: (us++ds)) _ _ E (hr.make C us [])
  (I2.env0.make C us []) (hb _ (Value.ref (s.6+1) :: us) I2.kIn hl) r2 hq) λr s' hq'=>?_))
 cases r with
 | error e=>exact hx pins σ _ _ e s' I2 hq'
 | ok fl =>
  cases fl with
  | ret u =>
   obtain v|H'|I3|rv|ev|q3:=I2.after hq';subst ev;exact #[rv,#[V.ref (s.6+1),H',I3,rfl,q3]]
  | next=>exact False.elim hq'
  | brk=>exact False.elim hq'
  | cont=>exact False.elim hq'
theorem Qf (M:Mk X.K C f) (F:uH X.prog X.w X.K X.mg X.base CX k f fd ps sp) (hr:mV (k+1) X.A) (hg:Gl X x) (hm:X.mg x=some (.ref C)) (hb:Binds X.K fd ps ds) (hd:dg dvs ds) (hx:ye CX X E)
  (ha:PA X (e :: es) t) (hdb:(x == ("__debug__":Str))=false:=by decide) (he:starEach (e :: es) X.env=(false,eval e X.env) :: starEach es X.env:=by rfl) (hpl:(backTo pos (starEach es X.env)).any (·.1)=false:=by rfl) :
  PE X (.Call (.Name x p) (e :: es) [] pos) (Q4 C sp dvs E t):=by
 intro pins s σ H Q I h;refine wpAny_Call_Name_kw (Ea I hg hm ?_ hdb);refine Ip (h₀:=X.base) I.ok.mod.kin M.kp (iG (ha pos pins s σ H _ I h) λus s1 #[vs,H1,I1,r,q]=>#[I1.kIn,?_]) he hpl;exact MX M F hr hb hd hx I1 r q
end
structure wZ (N P:List Str) (sc:Scope):Prop where
 kind:sc.kind=.function
 co:sc.isCoroutine=false
 gen:sc.isGenerator=false
 nd:N.Nodup
 pre:N.take P.9=P
 par:∀x∈P,sc.names.lookup x=some .local\/sc.names.lookup x=some .cell
 nofree:∀y∈sc.names,y.2≠.free
theorem C1 {kindOf:Str->Option NameKind} {x:Str}:∀{binds:List (Str×Value)} {m:Str->Option Value},(∀v,(x,v)∉binds)->bindL kindOf binds m x=m x
 | [],_,_=>rfl
 | (n,v) :: r,m,h=>by
  unfold bindL;rw[C1 λw hw=>h w (cw _ hw)]
  split
  ·have:x≠n:=by rintro rfl;exact h v d7
   simp [this]
  ·rfl
theorem C3 {kindOf:Str->Option NameKind} {x:Str}:∀{binds:List (Str×Value)} {m:Str->Option Value},(∀v,(x,v)∉binds)->bindC kindOf binds m x=m x
 | [],_,_=>rfl
 | (n,v) :: r,m,h=>by
  unfold bindC;rw[C3 λw hw=>h w (cw _ hw)]
  split
  ·rfl
  ·have:x≠n:=by rintro rfl;exact h v d7
   simp [this]
theorem C2 {kindOf:Str->Option NameKind} {x:Str} {v:Value}:∀{P:List Str} {vs:List Value} {i:Nat} {m:Str->Option Value},P.Nodup->P[i]?=some x->vs[i]?=some v->kindOf x=some .local →
  bindL kindOf (P.zip vs) m x=some v
 | [],_,_,_,_,h,_,_=>by simp at h
 | _ :: _,[],_,_,_,_,h,_=>by simp at h
 | p :: P,w :: vs,0,m,nd,h1,h2,hk=>by
  simp at h1 h2;subst h1;subst h2;show bindL kindOf ((p,w) :: P.zip vs) m p=_
  unfold bindL;rw[C1 λv hv=>(fQ.mp nd).1 (OS hv).1,if_pos hk];simp
 | p :: P,w :: vs,i+1,m,nd,h1,h2,hk=>by
  show bindL kindOf ((p,w) :: P.zip vs) m x=_
  unfold bindL;exact C2 (i:=i) (fQ.mp nd).2 (by simpa using h1) (by simpa using h2) hk
theorem C4 {kindOf:Str->Option NameKind} {x:Str} {v:Value}:∀{P:List Str} {vs:List Value} {i:Nat} {m:Str->Option Value},P.Nodup->P[i]?=some x->vs[i]?=some v->kindOf x≠some .local →
  bindC kindOf (P.zip vs) m x=some v
 | [],_,_,_,_,h,_,_=>by simp at h
 | _ :: _,[],_,_,_,_,h,_=>by simp at h
 | p :: P,w :: vs,0,m,nd,h1,h2,hk=>by
  simp at h1 h2;subst h1;subst h2;show bindC kindOf ((p,w) :: P.zip vs) m p=_
  unfold bindC;rw[C3 λv hv=>(fQ.mp nd).1 (OS hv).1,if_neg hk];simp
 | p :: P,w :: vs,i+1,m,nd,h1,h2,hk=>by
  show bindC kindOf ((p,w) :: P.zip vs) m x=_
  unfold bindC;exact C4 (i:=i) (fQ.mp nd).2 (by simpa using h1) (by simpa using h2) hk
def start (N:List Str) (vs:List V):St:=vs.map some++List.replicate (N.9 - vs.9) none
def T8:List Str->List V->St
 | [],_=>[]
 | _ :: N,[]=>none :: T8 N []
 | _ :: N,v :: vs=>some v :: T8 N vs
theorem Iv:∀{N:List Str} {vs:List V},vs.9<=N.9->start N vs=T8 N vs
 | [],[],_=>rfl
 | [],_ :: _,h=>absurd h (Nat.not_succ_le_zero _)
 | _ :: N,[],_=>congrArg (none :: ·) (Iv (N:=N) (vs:=[]) (br _))
 | _ :: N,v :: vs,h=>by
  show some v :: (vs.map some++List.replicate (N.9+1 - (vs.9+1)) none)=some v :: T8 N vs
  rw[Nat.add_sub_add_right,<- Iv (Nat.le_of_succ_le_succ h)];rfl
def G5 (CX:OL) (P:Program) (w:World) (K:FG9) (mg:Str->Option Value) (base:Heap) (N:List Str) (qual:Str) (scope:Scope) (f:Addr) (cd:Value) (A:Around) (outer:List Env) (s:Shared) (H:Hp) (E:XK):Cx where
 prog:=P
 w:=w
 K:=K
 mg:=mg
 base:=base
 A:=A.deeper (envOfC qual scope s.heap.objs.size f cd)
 N:=N
 s₀:=s
 H₀:=H
 env:=envOfC qual scope s.heap.objs.size f cd
 outer:=outer
 stack:=envOfC qual scope s.heap.objs.size f cd :: outer
 ex:=[]
 calm:=true
 fn:=λ_=>true
 pn:=[]
 xe:=λe s'=>wpAny (model P w) (A.deeper (envOfC qual scope s.heap.objs.size f cd)) (leaving (envOfC qual scope s.heap.objs.size f cd) e) (λ_ s''=>CX outer H s E e s'') (λe' s''=>CX outer H s E e' s'') s'
theorem Ht {sc:Scope} (h:sc.names.lookup x=some .cell):∃c,(cellsFrom n sc.names []).lookup x=some c:=by
 have q:=zh sc.names n [] (.inl h);exact Uc.mp q
theorem Ly {K:FG9} 
  (S:wZ N ps scope) (hd:A.handled=none) (e0:JW P w K mg base A outer s H) (hl:vs.9=ps.9) (r:dg vs us)
  (x:InCallC s s.heap.objs.size (bindL (envOfC qual scope s.heap.objs.size f cd).kindOf (ps.zip us) λ_=>none) (cellsFrom (s.6+1) scope.names []) (bindC (envOfC qual scope s.heap.objs.size f cd).kindOf (ps.zip us) λ_=>none) s1) :
  Inv (G5 CX P w K mg base N qual scope f cd A outer s H E) [] (start N vs) H s1:=by
 have hpl:ps.9<=N.9:=by have:=congrArg List.length S.pre;rw[bY] at this;lia
 obtain h1|tk|rfl|hk:=x.done;have noA:∀b:Addr,b∉(G5 CX P w K mg base N qual scope f cd A outer s H E).ex:=λb z=>absurd (show b∈([]:List Addr) from z) (by simp)
 refine #[#[e0.mod,S.kind,rfl,rfl,ak _,λy z c h1 h2=>?_,λy hy=>?_,λy c _ h=>?_,λ_=>hd,Around.frames_deeper e0.frames,.inr #[rfl,rfl],λb z=>absurd z (noA b),e0.bs,e0.bsz,λb _ _=>noA b,λb z=>absurd z (noA b),e0.funs,e0.frf],
  rfl,e0.bare,Un.kept hk,#[_,x.toInCall.ns,λi y v h1 h2 h3=>?_],λy c h=>#[_,x.cell y c h],e0.hok.fresh (ak _),λy c h=>?_,λp hp=>absurd (show p∈([]:List (Addr×Obj)) from hp) (by simp),e0.hok.kept hk,?_]
 ·exact name_of_addr x.apart (mY h1) (mY h2)
 ·have hy:scope.names.lookup y=some .cell\/scope.names.lookup y=some .free:=hy;rcases hy with hy | hy
  ·exact Ht hy
  ·exact absurd rfl (S.nofree _ (mY hy))
 ·exact cC (x.above y c (mY h))
 ·have hi:i < vs.9:=by
   unfold start at h2;by_cases hi:i < vs.9
   ·exact hi
   ·rw[bc (by simpa using hi)] at h2;rw[dG] at h2
    split at h2 <;> cases h2
  have ha:vs[i]?=some v:=by
   unfold start at h2;rw[bG (by simpa using hi),aD] at h2;cases e:vs[i]? with
   | none=>rw[e] at h2;cases h2
   | some a=>rw[e] at h2;cases h2;rfl
  obtain u|hu|rv:=r.get ha
  have hp:ps[i]?=some y:=by
   rw[<- S.pre,xf ()];exact h1
  have ndP:ps.Nodup:=by rw[<- S.pre];exact S.nd.sublist (List.take_sublist _ _)
  refine #[u,rv,?_];rcases S.par y (av hp) with k | k
  ·exact .inl #[k,C2 ndP hp hu k]
  ·obtain c|e:=Ht (n:=s.6+1) k;refine .inr #[.inl k,c,e,?_];have q:=x.cell y c e;rw[C4 ndP hp hu (by show scope.names.lookup y≠_;rw[k];decide)] at q;exact q
 ·exact e0.hok.fresh (cC (x.above y c (mY h)))
 ·unfold start;show _=N.9
  rw[ar,af,aJ]
  lia
theorem Ve {K:FG9} {dV kV doc pm cdv ct oc:Value} 
 (lk:K.lookup f=some #[oc,od,.func (PySem.W.fnOf name qual params body scope dV kV doc pm an cdv ct),osl]) (hcd:PySem.W.codeIn K cdv qual=true) (S:wZ N ps scope)
  (len:∀vs H Q E,sp vs H Q E->vs.9=ps.9)
  (hbody:∀(A:Around) (outer:List Env) (s:Shared) (H:Hp) (vs:List V) (Q:VK) (E:XK),mV k (A.deeper (envOfC qual scope s.heap.objs.size f cdv))->sp vs H Q E →
   ∃t,Im (G5 CX P w K mg base N qual scope f cdv A outer s H E) body t/\t { nx:=λ_ H'=>Q .non H',rt:=Q } (start N vs) H) :
  uH P w K mg base CX (k+1) f (PySem.W.fnOf name qual params body scope dV kV doc pm an cdv ct) ps sp:=by
 refine #[len,λA outer s H args us vs Q E hr e0 hb r hsp=>?_];have hl:=len _ _ _ _ hsp;have KX:K.In s.8:=e0.mod.kin.keeps λb o e=>(e0.bs b o e).1
 have lim:s.heap.NoLimit:=e0.mod.nolimit.keeps λb o e=>(e0.bs b o e).1
 have hkind:∀y∈ps.zip us,scope.names.lookup y.1=some .local\/(scope.names.lookup y.1=some .cell/\((cellsFrom (s.6+1) scope.names []).lookup y.1).isSome=true):=λ#[n,v] hy=>by
  rcases S.par n (OS hy).1 with q | q
  ·exact .inl q
  ·exact .inr #[q,zh _ _ _ (.inl q)]
 refine codeAny_call_function hr.depth (KX _ _ lk) rfl S.co S.gen rfl (PySem.W.codeRec_of KX hcd) (hb _ _ _ _ ?_);refine wpAny_newFunctionEnv_cells S.kind hkind λenv he s1 x=>?_
 subst he;refine #[lim.keeps x.toInCall.keep,codeAny_func ?_];obtain t|ht|hq:=hbody A outer s H vs Q E (hr.deeper _) hsp;have I:Inv (G5 CX P w K mg base N qual scope f cdv A outer s H E) [] (start N vs) H s1:=Ly S hr.hd e0 hl r x;refine wpAny_mono (ht [] s1 (start N vs) H _ I hq) (λfl s' hs=>?_) λe s' hs=>hs
 have fin:∀{σ':St} {H':Hp} {v:V} {u:Value},Inv (G5 CX P w K mg base N qual scope f cdv A outer s H E) [] σ' H' s'->RelV v u->Q v H'->CE outer P w H s Q u s' :=
  λ{σ' H' v u} J rv q=>#[v,H',J.os,J.bare,J.base,J.hok,rv,q]
 cases fl with
 | ret u =>
  obtain v|σ'|H'|J|rv|q:=hs;exact fin J rv q
 | next =>
  obtain σ'|H'|J|q:=hs;exact fin (v:=V.non) (u:=Value.none) J rfl q
 | brk =>
  obtain _|_|_|q:=hs;exact False.elim q
 | cont =>
  obtain _|_|_|q:=hs;exact False.elim q
section
variable {X:Cx} {x:Str} {p pos:Pos} {e:Expr} {es:List Expr} {t:TA} {id T:String} {r:List V->Hp->VK->Prop}
def VN (r:List V->Hp->VK->Prop) (t:TA):TE:=λσ H Q=>t σ H λvs H1=>r vs H1 Q
theorem bB (hc:qG X (.builtin id) r) (hg:Gl X x) (hm:X.mg x=none) (hv:bootBuiltins x=some (.builtin id)) (ha:PA X (e :: es) t) (hn:x≠"__name__":=by decide) (hdb:(x == ("__debug__":Str))=false:=by decide)
  (he:starEach (e :: es) X.env=(false,eval e X.env) :: starEach es X.env:=by rfl) (hpl:(backTo pos (starEach es X.env)).any (·.1)=false:=by rfl):PE X (.Call (.Name x p) (e :: es) [] pos) (VN r t):=by
 intro pins s σ H Q I h;refine wpAny_Call_Name_kw (lZ I hg hm hv ?_ hn hdb);exact PyProof.Rows.callWith_builtin1 (iG (ha pos pins s σ H _ I h) λus s1 #[vs,H1,I1,r1,q1]=>hc pins s1 σ H1 vs us Q I1 r1 q1) he hpl
theorem dI (hc:qG X (.type T) r) (hg:Gl X x) (hm:X.mg x=none) (hv:bootBuiltins x=some (.type T)) (ha:PA X (e :: es) t) (hn:x≠"__name__":=by decide) (hdb:(x == ("__debug__":Str))=false:=by decide)
  (he:starEach (e :: es) X.env=(false,eval e X.env) :: starEach es X.env:=by rfl) (hpl:(backTo pos (starEach es X.env)).any (·.1)=false:=by rfl):PE X (.Call (.Name x p) (e :: es) [] pos) (VN r t):=by
 intro pins s σ H Q I h;refine wpAny_Call_Name_kw (lZ I hg hm hv ?_ hn hdb);exact PyProof.Rows.callWith_type1 (iG (ha pos pins s σ H _ I h) λus s1 #[vs,H1,I1,r1,q1]=>hc pins s1 σ H1 vs us Q I1 r1 q1) he hpl
end
end L2
namespace HT
open PySem PyProof.Rows
section
open PySem.SeqAt
open PySem.AutoSeq1 (wpAny_loadPart')
open PySem.MeetsSeq PySem.MeetsSeq2 PySem.MeetsSeq3
end
section
variable {prog:Program} {w:World} {A:Around} {E:Value->Shared->Prop} {s:Shared}
def FK (n d:Nat):Option Int->Nat
 | none=>d
 | some v=>if v < 0 then (v+(n:Int)).toNat else min v.toNat n
theorem zW (n d:Nat):FK n d none=d:=rfl
theorem v7 (n d k:Nat):FK n d (some (k:Int))=min k n:=by
 show (if (k:Int) < 0 then ((k:Int)+(n:Int)).toNat else min (k:Int).toNat n)=min k n
 rw[if_neg (),Int.toNat_natCast]
end
end HT
namespace L2
open PySem PySem.Spec PyProof.Rows
abbrev TO:=St->Hp->(Option Int->Hp->Prop)->Prop
def PO (X:Cx) (e:Option Expr) (t:TO):Prop :=
 ∀(pins:List (Addr×Obj)) (s:Shared) (σ:St) (H:Hp) (Q:Option Int->Hp->Prop),Inv X pins σ H s->t σ H Q →
  wpAny (model X.prog X.w) X.A (evalPart e X.env) (λu s'=>∃o H',Inv X pins σ H' s'/\IsPart u o/\Q o H') X.xe s
def JX:TO:=λ_ H Q=>Q none H
def Q0 (t:TE):TO:=λσ H Q=>t σ H λx H1=>∃i,x=.int i/\Q (some i) H1
theorem intsAre_of:∀{us:List Value},dg (ns.map V.int) us->IntsAre us ns:=by
 induction ns with
 | nil=>intro us r;rw[KQ] at r;cases r;exact .nil
 | cons n ns ih =>
  intro us r;rw[iD] at r;cases r with
  | cons r1 r2 =>
   obtain t|e:=r1;subst e;exact .cons n t (ih r2)
section
variable {X:Cx} {e:Expr} {te:TE} {lo hi:Option Expr} {tl th:TO} {pos p2:Pos}
theorem we:PO X none JX:=by
 intro pins s σ H Q I h;rw[evalPart_none];exact wpAny_pure #[none,H,I,.none,h]
theorem mo (h:PE X e te):PO X (some e) (Q0 te):=by
 intro pins s σ H Q I hw;rw[evalPart_some];refine iG (h pins s σ H _ I hw) λu s1 #[x,H1,I1,r1,q1]=>?_
 obtain i|rfl|q:=q1;obtain t|rfl:=r1;exact #[some i,H1,I1,.int i t,q]
def VF (X:Cx) (r:V->Option Int->Option Int->Hp->VK->Prop):Prop :=
 ∀(pins:List (Addr×Obj)) (s:Shared) (σ:St) (H:Hp) (x:V) (v vl vu:Value) (lo hi:Option Int) (sl:Addr) (Q:VK),Inv X pins σ H s->RelV x v->s.heap.IsSliceOf sl vl vu .none->IsPart vl lo->IsPart vu hi->r x lo hi H Q →
  ∃T id,typeLookup (.type T) "__getitem__"=pure (some (.builtin id))/\s.TypeIs v T/\wpAny (model X.prog X.w) X.A (getItem v (.ref sl)) (EP X pins σ Q) X.xe s
def tSl (r:V->Option Int->Option Int->Hp->VK->Prop) (te:TE) (tl th:TO):TE:=λσ H Q=>te σ H λx H1=>tl σ H1 λl H2=>th σ H2 λu H3=>r x l u H3 Q
theorem qA (hr:VF X r) (he:PE X e te) (hl:PO X lo tl) (hu:PO X hi th):PE X (.Subscript e (.Slice lo hi none p2) pos) (tSl r te tl th):=by
 intro pins s σ H Q I h;refine Subscript_ (iG (he pins s σ H _ I h) λv s1 #[x,H1,I1,r1,q1]=>?_);refine wpAny_Slice (iG (hl pins s1 σ H1 _ I1 q1) λvl s2 #[l,H2,I2,pl,q2]=>iG (hu pins s2 σ H2 _ I2 q2) λvu s3 #[u,H3,I3,pu,q3]=>?_);rw[evalPart_none];refine wpAny_pure ?_;have I4:Inv X pins σ H3 { s3 with heap:=s3.heap.push { cls:=.type "slice",data:=.fields [vl,vu,.none].toArray } }:=I3.kept (t':=s3.toks) λb ob q=>Heap.get?_push_of_some _ q
 obtain T|id|hT|ht|hg:=hr pins { s3 with heap:=s3.heap.push { cls:=.type "slice",data:=.fields [vl,vu,.none].toArray } } σ H3 x v vl vu l u s3.heap.objs.size Q I4 r1 (Heap.IsSliceOf.new ..) pl pu q3;show wpAny (model X.prog X.w) X.A (subscriptTail e (.Slice lo hi none p2) v (.ref s3.6)) (EP X pins σ Q) X.xe { s3 with heap:=s3.heap.push { cls:=.type "slice",data:=.fields [vl,vu,.none].toArray } }
 exact tail_any (ops:=[.ref s3.6,v]) ht hT hg (by with_unfolding_all rfl)
def sJ (xs:List V) (lo hi:Option Int):List V:=(xs.drop (HT.FK xs.9 0 lo)).take (HT.FK xs.9 xs.9 hi - HT.FK xs.9 0 lo)
theorem yx (xs:List V) (lo hi:Option Int):(sJ xs lo hi).9<=xs.9:=by
 unfold sJ;rw[bY,mM]
 lia
end
def Mg (n:Nat) (i:Int):Option Nat:=if 0<=i then (if i < n then some i.toNat else none) else if -(n:Int)<=i then some (i+n).toNat else none
def Il {α:Type} (xs:List α) (i:Int):Option α:=(Mg xs.9 i).bind λj=>xs[j]?
theorem Kt (h:Mg n i=some j):seqIndex? i n=some j/\j < n/\-(n:Int)<=i/\i < n:=by
 unfold Mg at h;by_cases h0:0<=i
 ·rw[if_pos h0] at h;by_cases h1:i < n
  ·rw[if_pos h1] at h;have e:i.toNat=j:=cg h;exact #[by rw[seqIndex_of h0 h1,e],(),(),h1]
  ·rw[if_neg h1] at h;cases h
 ·rw[if_neg h0] at h;by_cases h1:-(n:Int)<=i
  ·rw[if_pos h1] at h;have e:(i+n).toNat=j:=cg h;exact #[by rw[seqIndex_neg () h1,e],(),h1,()]
  ·rw[if_neg h1] at h;cases h
theorem EC {xs:List α} {v:α} (h:Il xs i=some v):∃j,seqIndex? i xs.9=some j/\xs[j]?=some v/\j < xs.9/\-(xs.9:Int)<=i/\i < xs.9:=by
 unfold Il at h;cases e:Mg xs.9 i with
 | none=>rw[e] at h;cases h
 | some j =>
  rw[e] at h;obtain h1|h2|h3|h4:=Kt e;exact #[j,h1,h,h2,h3,h4]
theorem dq {xs:List α} {j:Nat} {v:α} (h:xs[j]?=some v):Il xs (j:Int)=some v:=by
 have hj:j < xs.9:=(aE.mp h).1
 have e:Mg xs.9 (j:Int)=some j:=by
  unfold Mg;rw[if_pos (),if_pos ()];simp
 unfold Il;rw[e];exact h
theorem uE (xs:List α) (v:α):Il (xs++[v]) (-1)=some v:=by
 have hl:(xs++[v]).9=xs.9+1:=by simp
 have e:Mg (xs++[v]).9 (-1)=some xs.9:=by
  unfold Mg;rw[hl,if_neg (),if_pos ()];congr 1
  lia
 unfold Il;rw[e];show (xs++[v])[xs.9]?=some v
 simp
def QU (b:Expr):Prop:=∀o i,subscripted b false o i=operate [o,i] (getItem o i)
def Vr (X:Cx) (r:R2):Prop :=
 ∀(value slice:Expr) (pins:List (Addr×Obj)) (s:Shared) (σ:St) (H:Hp) (x y:V) (v u:Value) (Q:VK),Inv X pins σ H s->RelV x v->RelV y u->r x y H Q →
  subscripted slice false v u=operate [v,u] (getItem v u)->wpAny (model X.prog X.w) X.A (subscriptTail value slice v u) (EP X pins σ Q) X.xe s
def MtR (X:Cx) (id:String) (r:V->List V->Hp->VK->Prop):Prop :=
 ∀(pins:List (Addr×Obj)) (s:Shared) (σ:St) (H:Hp) (x:V) (xs:List V) (v:Value) (us:List Value) (Q:VK),Inv X pins σ H s->RelV x v->dg xs us->r x xs H Q →
  wpAny (model X.prog X.w) X.A (call (.builtin id) (v :: us)) (EP X pins σ Q) X.xe s
section
variable {X:Cx} {a b:Expr} {ta tb:TE} {pos:Pos}
theorem aX {r:R2} (hr:Vr X r) (ha:PE X a ta) (hb:PE X b tb) (hs:QU b:=by intro _ _;rfl):PE X (.Subscript a b pos) (Uq r ta tb):=by
 intro pins s σ H Q I h;exact Subscript_ (TH ha hb I h λv u s2 x y H2 I2 rx ry q=>hr a b pins s2 σ H2 x y v u Q I2 rx ry q (hs _ _))
def SW (K:FG9):R2:=λx y H Q=>∃p xs i v,x=.ref p/\y=.int i/\bE K H p xs/\Il xs i=some v/\Q v H
def SV (K:FG9):R2:=λx y H Q=>∃p xs i v,x=.ref p/\y=.int i/\sL K H p xs/\Il xs i=some v/\Q v H
theorem bC:Vr X (SW X.K):=by
 intro value slice pins s σ H x y v u Q I rx ry h hs;obtain p|xs|i|z|rfl|rfl|hq|he|q:=h;cases rx;obtain t|rfl:=ry;obtain its|r|pl|hz:=I.list hq;obtain j|h1|h2|h3|h4|h5:=EC he;obtain w|ew|rw':=r.get h2;have hl:=r.9;have hn:=Ar;have fin:EP X pins σ Q w s:=#[z,H,I,rw',q];by_cases h0:0<=i
 ·have hj:i.toNat=j:=by
   rw[seqIndex_of h0 h5] at h1;exact cg h1
  exact item_listR pl.isList h0 () (by rw[hj];simpa using ew) fin hs
 ·have hj:(i+(its.5.7:Int)).toNat=j:=by
   rw[seqIndex_neg () h4] at h1;rw[aN,<- hl];exact cg h1
  exact subscriptTail_builtinR (x:=w) pl.isList.typeIs slot_list_getitem.lookup
   (wpAny_getItem_list_neg (Q:=λr s'=>r=w/\EP X pins σ Q r s') pl.isList () (by rw[aN] <;> lia) () (by rw[hj];simpa using ew) #[rfl,fin]) hs
theorem bS:Vr X (SV X.K):=by
 intro value slice pins s σ H x y v u Q I rx ry h hs;obtain p|xs|i|z|rfl|rfl|hq|he|q:=h;cases rx;obtain t|rfl:=ry;obtain its|r|pl|hz:=I.tuple hq;obtain j|h1|h2|h3|h4|h5:=EC he;obtain w|ew|rw':=r.get h2;have hl:=r.9;have hn:=Ar;have fin:EP X pins σ Q w s:=#[z,H,I,rw',q]
 exact subscriptTail_builtinR (x:=w) pl.typeIs slot_tuple_getitem.lookup
  (getItem_tuple (j:=j) (Q:=λr s'=>r=w/\EP X pins σ Q r s') pl () () (by rw[aN,<- hl];exact h1) (by simpa using ew) #[rfl,fin]) hs
theorem Jf (its:List Value) (n j:Nat) (u:Value):Obj.mapSeq (·.setIfInBounds j u) { cls:=.type "list",data:=.seq its.toArray n }={ cls:=.type "list",data:=.seq (its.set j u).toArray n }:=by
 simp [Obj.mapSeq]
theorem Inv.lst {pins:List (Addr×Obj)} {σ:St} {H:Hp} {s:Shared} {p:Addr} {xs:List V} (I:Inv X pins σ H s) (h:H p=some (.lst xs)) :
  ∃(its:List Value) (n:Nat),dg xs its/\s.heap.get? p=some { cls:=.type "list",data:=.seq its.toArray n }/\xs.9<=sizeLine:=by
 obtain z|its|n|r|e:=I.hok p _ h;exact #[its,n,r,e,z]
theorem Inv.lstUpd {σ:St} {its its':List Value} (I:Inv X pins σ H s) (h:H p=some (.lst xs))
  (ho:s.heap.get? p=some { cls:=.type "list",data:=.seq its.toArray n }) (hf:f { cls:=.type "list",data:=.seq its.toArray n }={ cls:=.type "list",data:=.seq its'.toArray n' }) (r:dg ys its') (hz:ys.9<=sizeLine) (t:Nat) :
  Inv X pins σ (upd H p (.lst ys)) { s with heap:=s.heap.update p f,toks:=t }:=by
 have e:(s.heap.update p f).get? p=some { cls:=.type "list",data:=.seq its'.toArray n' }:=by
  rw[Heap.get?_update_self f ho (by rw[hf] <;> rfl),hf]
 refine I.write (x:=p) (e:=p) (by rw[h];trivial) (.inl rfl) (λb u hb q=>(Heap.get?_update_other _ _ (Ne.symm hb)).trans q) #[_,e] ?_;exact #[hz,its',n',r,e]
def Rk:V->V->V->Hp->(Hp->Prop)->Prop:=λo i v H Q=>∃p xs k j,o=.ref p/\i=.int k/\H p=some (.lst xs)/\Mg xs.9 k=some j/\Q (upd H p (.lst (xs.set j v)))
theorem set_list:TR X Rk:=by
 intro pins s σ H o i v ov iv u Q I ro ri rv h;obtain p|xs|k|j|rfl|rfl|hp|hj|q:=h;cases ro;obtain t|rfl:=ri;obtain its|n|r|ho|hz:=I.lst hp;obtain h1|h2|h3|h4:=Kt hj;have hl:=r.9;have hn:=Ar
 have I':Inv X pins σ (upd H p (.lst (xs.set j v))) { s with heap:=s.heap.update p (Obj.mapSeq (·.setIfInBounds j u)) } :=
  I.lstUpd hp ho (Jf its n j u) (r.set rv j) (by rw[df];exact hz) s.toks
 by_cases h0:0<=k
 ·have hk:k.toNat=j:=by
   rw[seqIndex_of h0 h4] at h1;exact cg h1
  exact PySem.W.ki_setAt ho h0 () (by rw[aN,<- hl];exact h4) (by rw[hk];exact #[_,I',q])
 ·have hk:(k+(its.5.7:Int)).toNat=j:=by
   rw[seqIndex_neg () h3] at h1;rw[aN,<- hl];exact cg h1
  exact PySem.W.ki_setBack ho () (by rw[aN,<- hl];exact h3) () (by rw[hk];exact #[_,I',q])
theorem Ds (lo hi:Option Int) (n:Nat):(sliceBounds lo hi none n).1=((HT.FK n 0 lo:Nat):Int)/\(sliceBounds lo hi none n).2.1=((HT.FK n n hi:Nat):Int)/\(sliceBounds lo hi none n).2.2=1:=by
 refine #[?_,?_,rfl]
 ·cases lo with
  | none=>simp [sliceBounds,HT.FK]
  | some i =>
   simp only[sliceBounds,HT.FK,Option.getD_none,show (1:Int) > 0 by decide,if_true];by_cases h:i < 0
   ·simp only[h,if_true] <;> lia
   ·simp only[h,if_false] <;> lia
 ·cases hi with
  | none=>simp [sliceBounds,HT.FK]
  | some i =>
   simp only[sliceBounds,HT.FK,Option.getD_none,show (1:Int) > 0 by decide,if_true];by_cases h:i < 0
   ·simp only[h,if_true] <;> lia
   ·simp only[h,if_false] <;> lia
theorem AU (its:List Value) (lo hi:Option Int):slicePick its.toArray lo hi none=((its.drop (HT.FK its.9 0 lo)).take (HT.FK its.9 its.9 hi - HT.FK its.9 0 lo)).5:=by
 obtain h1|h2|h3:=Ds lo hi its.5.7;unfold slicePick;rw[h1,h2,h3];simp only[sliceRange_one,pick_run,aN] <;> rfl
def SS (K:FG9):V->Option Int->Option Int->Hp->VK->Prop:=λx lo hi H Q=>∃a xs,x=.ref a/\bE K H a xs/\∀p,H p=none->Q (.ref p) (upd H p (.lst (sJ xs lo hi)))
theorem Dt:VF X (SS X.K):=by
 intro pins s σ H x v vl vu lo hi sl Q I rx hs pl pu h;obtain a|xs|rfl|hx|q:=h;cases rx;obtain its|r|ht|hz:=I.list hx;have hlen:=r.9;refine #["list",_,slot_list_getitem.lookup,ht.isList.typeIs,?_];refine wpAny_getItem_list_slice ht.isList hs pl pu .none (by simp) ?_ (by rw[aN] <;> lia);rw[AU,<- hlen];refine #[.ref s.6,_,I.laid (t':=s.toks) (o:=.lst (sJ xs lo hi)) (λb ob q=>Heap.get?_push_of_some _ q) (ak _) ?_,rfl,q _ (I.hok.fresh (ak _))];exact #[ag (yx xs lo hi) hz,_,0,(r.drop (HT.FK xs.9 0 lo)).take (HT.FK xs.9 xs.9 hi - HT.FK xs.9 0 lo),Heap.get?_push_size _ rfl]
def wM:V->Bool
 | .non=>true
 | .bl _=>true
 | .int _=>true
 | .str _=>true
 | _=>false
def RL:V->V->Bool
 | .non,.non=>true
 | .bl a,.bl b=>a == b
 | .bl a,.int b=>(if a then 1 else 0) == b
 | .int a,.bl b=>a == (if b then 1 else 0)
 | .int a,.int b=>a == b
 | .str a,.str b=>a == b
 | _,_=>false
theorem Tv (ry:RelV y u) (rx:RelV x v) (fy:wM y=true) (fx:wM x=true):SeqAt.EqAt A s u v (RL y x):=by
 cases y with
 | non =>
  cases ry;cases x with
  | non=>cases rx;exact SeqAt.EqAt.same _
  | bl b=>cases rx;exact SeqAt.EqAt.none_bool b
  | int b=>obtain t|rfl:=rx;exact SeqAt.EqAt.none_int b t
  | str b=>obtain t|rfl:=rx;exact SeqAt.EqAt.none_str b t
  | _=>exact absurd (show false=true from fx) bA
 | bl a =>
  cases ry;cases x with
  | non=>cases rx;exact SeqAt.EqAt.bool_none a
  | bl b=>cases rx;exact SeqAt.EqAt.bool_bool a b
  | int b=>obtain t|rfl:=rx;exact SeqAt.EqAt.bool_int a b t
  | str b=>obtain t|rfl:=rx;exact SeqAt.EqAt.bool_str a b t
  | _=>exact absurd (show false=true from fx) bA
 | int a =>
  obtain t'|rfl:=ry;cases x with
  | non=>cases rx;exact SeqAt.EqAt.int_none a t'
  | bl b=>cases rx;exact SeqAt.EqAt.int_bool a t' b
  | int b=>obtain t|rfl:=rx;exact SeqAt.EqAt.int_int a t' b t
  | str b=>obtain t|rfl:=rx;exact SeqAt.EqAt.int_str a t' b t
  | _=>exact absurd (show false=true from fx) bA
 | str a =>
  obtain t'|rfl:=ry;cases x with
  | non=>cases rx;exact SeqAt.EqAt.str_none a t'
  | bl b=>cases rx;exact SeqAt.EqAt.str_bool a t' b
  | int b=>obtain t|rfl:=rx;exact SeqAt.EqAt.str_int a t' b t
  | str b=>obtain t|rfl:=rx;exact SeqAt.EqAt.str_str a t' b t
  | _=>exact absurd (show false=true from fx) bA
 | _=>exact absurd (show false=true from fy) bA
def Ju (x:V) (u:Value):Bool:=match u with
 | .none=>RL .non x
 | .bool b=>RL (.bl b) x
 | .int i _=>RL (.int i) x
 | .str z _=>RL (.str z) x
 | _=>false
theorem Oi (r:RelV y u) (f:wM y=true):Ju x u=RL y x:=by
 cases y with
 | non=>cases r;rfl
 | bl b=>cases r;rfl
 | int i=>obtain t|rfl:=r;rfl
 | str z=>obtain t|rfl:=r;rfl
 | _=>exact absurd (show false=true from f) bA
theorem wX {x:V}:∀{xs:List V} {us:List Value},dg xs us->xs.all wM=true->us.any (Ju x)=xs.any λy=>RL y x
 | _,_,.nil,_=>rfl
 | y :: xs,u :: us,.cons r t,f=>by
  rw[Ue,fh] at f;rw[List.any_cons,List.any_cons,Oi r f.1,wX t f.2]
theorem uu {A:Around} {s:Shared} {x:V} {v:Value} (rx:RelV x v) (fx:wM x=true):∀{xs:List V} {us:List Value},dg xs us->xs.all wM=true->∀u∈us,SeqAt.EqAt A s u v (Ju x u)
 | _,_,.nil,_=>λu hu=>by cases hu
 | y :: xs,u :: us,.cons r t,f=>λu' hu=>by
  rw[Ue,fh] at f;rcases aI.mp hu with rfl | hu
  ·rw[Oi r f.1];exact Tv r rx f.1 fx
  ·exact uu rx fx t f.2 u' hu
def VC (x:V) (xs:List V):Bool:=xs.any λy=>RL y x
def VS (K:FG9) (neg:Bool):R2:=λx y H Q=>∃p xs,y=.ref p/\(bE K H p xs\/sL K H p xs)/\wM x=true/\xs.all wM=true/\Q (.bl (if neg then !VC x xs else VC x xs)) H
theorem Ll:xc X (compareOp .In) (VS X.K false):=by
 intro pins s σ H x y v u Q I rx ry h;obtain p|xs|rfl|hq|fx|fs|q:=h;cases ry;rcases hq with hq | hq
 ·obtain its|r|pl|hz:=I.list hq;refine SeqAt.in_listAt (Ju x) pl.isList (λw hw=>uu rx fx r fs w (by simpa using hw)) #[.bl _,H,I,rfl,?_];rw[show its.toArray.any (Ju x)=its.any (Ju x) by simp,wX r fs];exact q
 ·obtain its|r|pl|hz:=I.tuple hq;refine SeqAt.in_tupleAt (Ju x) pl (λw hw=>uu rx fx r fs w (by simpa using hw)) #[.bl _,H,I,rfl,?_];rw[show its.toArray.any (Ju x)=its.any (Ju x) by simp,wX r fs];exact q
theorem DR:xc X (compareOp .NotIn) (VS X.K true):=by
 intro pins s σ H x y v u Q I rx ry h;obtain p|xs|rfl|hq|fx|fs|q:=h;cases ry;rcases hq with hq | hq
 ·obtain its|r|pl|hz:=I.list hq;refine SeqAt.notIn_listAt (Ju x) pl.isList (λw hw=>uu rx fx r fs w (by simpa using hw)) #[.bl _,H,I,rfl,?_];rw[show its.toArray.any (Ju x)=its.any (Ju x) by simp,wX r fs];exact q
 ·obtain its|r|pl|hz:=I.tuple hq;refine SeqAt.notIn_tupleAt (Ju x) pl (λw hw=>uu rx fx r fs w (by simpa using hw)) #[.bl _,H,I,rfl,?_];rw[show its.toArray.any (Ju x)=its.any (Ju x) by simp,wX r fs];exact q
theorem be:qG X (.builtin "len") (λxs H Q=>∃p ys,xs=[.ref p]/\(bE X.K H p ys\/sL X.K H p ys)/\Q (.int ys.9) H):=by
 intro pins s σ H xs us Q I r h;obtain p|ys|rfl|hq|q:=h;obtain u|rfl|rx:=vals1 r;cases rx;have hn:=Ar;rcases hq with hq | hq
 ·obtain its|r'|pl|hz:=I.list hq;have hlen:=r'.9;exact Calls.call_len_list pl.isList (by simp only[aN] <;> lia) #[.int ys.9,H,I.tok _,#[s.toks+1,by rw[aN,hlen]],q]
 ·obtain its|r'|pl|hz:=I.tuple hq;have hlen:=r'.9;exact len_tuple pl (by simp only[aN] <;> lia) #[.int ys.9,H,I.tok _,#[s.toks+1,by rw[aN,hlen]],q]
theorem rZ:qG X (.type "list") (λxs H Q=>∃p ys,xs=[.ref p]/\(bE X.K H p ys\/sL X.K H p ys)/\∀l,H l=none->Q (.ref l) (upd H l (.lst ys))):=by
 intro pins s σ H xs us Q I r h;obtain p|ys|rfl|hq|q:=h;obtain u|rfl|rx:=vals1 r;cases rx
 have fin:∀(its:List Value),dg ys its->ys.9<=sizeLine->∀(h':Heap) (c':Nat),(∀b o',s.heap.get? b=some o'->h'.get? b=some o') →
   h'.get? s.6=some { cls:=.type "list",dict:=none,data:=.seq its.toArray c',slots:=[].toArray }->EP X pins σ Q (.ref s.6) { s with heap:=h' }:=λits r' hz h' c' kp e =>
  #[.ref s.6,_,I.laid (t':=s.toks) kp (ak _) (show j5 X.prog X.w _ h' _ (.lst ys) from #[hz,its,c',r',e]),rfl,q _ (I.hok.fresh (ak _))]
 rcases hq with hq | hq
 ·obtain its|r'|pl|hz:=I.list hq;have hlen:=r'.9;obtain o|ho|hc|n|hd:=pl.isList;exact call_list_seq p (.inl rfl) ho hc hd (λh' c' kp e=>fin its r' hz h' c' kp e) (by simp only[aN] <;> lia)
 ·obtain its|r'|pl|hz:=I.tuple hq;have hlen:=r'.9;obtain o|ho|hc|n|hd:=pl;exact call_list_seq p (.inr rfl) ho hc hd (λh' c' kp e=>fin its r' hz h' c' kp e) (by simp only[aN] <;> lia)
def Uh (K:FG9) (T:String) (x:V) (H:Hp):Prop:=match x with
 | .str _=>T="str"
 | .int _=>T="int"
 | .ref p=>(T="list"/\∃xs,bE K H p xs)\/(T="tuple"/\∃o,K.lookup p=some o/\o.cls=.type "tuple"/\o.dict=none) \/
   (T="dict"/\((∃kvs,H p=some (.dK kvs))\/∃kvs,H p=some (.dT kvs)))\/(T="set"/\∃S n,H p=some (.set S n))
 | _=>False
theorem Mx {σ:St} (I:Inv X pins σ H s) (r:RelV x v) (ty:Uh X.K T x H) :
  s.TypeIs v T/\∀a,v=.ref a->∃ob,s.heap.get? a=some ob/\ob.dict=none:=by
 cases x with
 | str z =>
  obtain t|rfl:=r;cases (show T="str" from ty);exact #[typeIs_str s z t,λ_ e=>nomatch e]
 | int i =>
  obtain t|rfl:=r;cases (show T="int" from ty);exact #[typeIs_int s i t,λ_ e=>nomatch e]
 | ref p =>
  cases r;rcases ty with ⟨rfl,xs,hq⟩ | ⟨rfl,o,hk,hc,hd⟩ | ⟨rfl,hk⟩ | ⟨rfl,S,n,hk⟩
  ·obtain its|_|pl|_:=I.list hq;refine #[pl.isList.typeIs,λa e=>?_];cases e;obtain o|n|e|c|hd|_:=pl;exact #[o,e,hd]
  ·refine #[#[o,I.kIn p o hk,hc],λa e=>?_];cases e;exact #[o,I.kIn _ o hk,hd]
  ·have z:∃o,s.heap.get? p=some o/\o.ExactDict:=by
    rcases hk with ⟨kvs,hk⟩ | ⟨kvs,hk⟩
    ·obtain _|_|_|_|o|_|_|e|ex|_:=I.hok p _ hk;exact #[o,e,ex]
    ·obtain _|_|_|_|o|_|_|e|ex|_:=I.hok p _ hk;exact #[o,e,ex]
   obtain o|e|ex:=z;refine #[#[o,e,ex.1],λa e2=>?_];cases e2;exact #[o,e,ex.2.1]
  ·obtain o|_|_|_|e|ex|_:=I.hok p _ hk;refine #[#[o,e,ex.1],λa e2=>?_];cases e2;exact #[o,e,ex.2.1]
 | _=>exact False.elim ty
def Uw (K:FG9) (T:String) (r:V->List V->Hp->VK->Prop) (to:TE):TE:=λσ H Q=>to σ H λx H1=>Uh K T x H1/\r x [] H1 Q
def tBM (K:FG9) (T:String) (r:V->List V->Hp->VK->Prop) (to:TE) (t:TA):TE:=λσ H Q=>to σ H λx H1=>Uh K T x H1/\t σ H1 λxs H2=>r x xs H2 Q
variable {o e:Expr} {es:List Expr} {to:TE} {t:TA} {name:Str} {apos cpos:Pos} {T id:String} {r:V->List V->Hp->VK->Prop}
theorem S3 (pa:PlainAttrs T) (slot:Slot T name id) (hty:typeOf (.builtin id)=pure (.type "method_descriptor")) (hm:MtR X id r) (ho:PE X o to)
  (hbase:attributeBase o name X.env (eval o X.env)=eval o X.env:=by rfl) (hline:(apos.endLine == cpos.line)=true:=by rfl):PE X (.Call (.Attribute o name apos) [] [] cpos) (Uw X.K T r to):=by
 intro pins s σ H Q I h;refine wpAny_Call_method0_late hbase hline (iG (ho pins s σ H _ I h) λv s1 #[x,H1,I1,r1,ty,q1]=>?_);obtain h1|h2:=Mx I1 r1 ty;exact #[T,id,pa,slot,hty,h1,h2,Calls.callWith_builtin rfl (PySem.evalArgs_none (hm pins s1 σ H1 x [] v [] Q I1 r1 .nil q1))]
theorem qB (pa:PlainAttrs T) (slot:Slot T name id) (hty:typeOf (.builtin id)=pure (.type "method_descriptor")) (hm:MtR X id r) (ho:PE X o to) (ha:PA X (e :: es) t)
  (hbase:attributeBase o name X.env (eval o X.env)=eval o X.env:=by rfl)
  (hfew:((backTo cpos (starEach (e :: es) X.env)).all (λx=>!x.1) && (backToKw cpos (keywordEach [] X.env)).all (λx=>x.1.isSome)
   && decide ((e :: es).9+([]:List Keyword).9+(if ([]:List Keyword).isEmpty then 0 else 1) < 30))=true:=by rfl)
  (hline:(apos.endLine == cpos.line)=true:=by rfl) (hs:starEach (e :: es) X.env=(false,eval e X.env) :: starEach es X.env:=by rfl) (hplain:(backTo cpos (starEach es X.env)).any (·.1)=false:=by rfl) :
  PE X (.Call (.Attribute o name apos) (e :: es) [] cpos) (tBM X.K T r to t):=by
 intro pins s σ H Q I h;refine wpAny_Call_method_late hbase hfew hline rfl (iG (ho pins s σ H _ I h) λv s1 #[x,H1,I1,r1,ty,q1]=>?_);obtain h1|h2:=Mx I1 r1 ty;refine #[T,id,pa,slot,hty,h1,h2,?_];have hA:=ha cpos pins s1 σ H1 _ I1 q1;rw[hs] at hA ⊢;refine Calls.callWith_builtin (by show (false || (backTo cpos (starEach es X.env)).any (·.1))=false;rw[hplain] <;> rfl) (Calls.evalArgs_plain ?_);exact iG hA λus s2 ⟨vs,H2,I2,r2,q2⟩=>hm pins s2 σ H2 x vs v us Q I2 r1 r2 q2
end
def VH (X:Cx) (id:String) (r:V->List V->Hp->VK->Prop):Prop :=
 ∀(pins:List (Addr×Obj)) (s:Shared) (σ:St) (H:Hp) (x:V) (xs:List V) (v:Value) (us:List Value) (Q:VK),Inv X pins σ H s->RelV x v->dg xs us->r x xs H Q →
  wpAny (model X.prog X.w) X.A (call (.builtin id) (v :: us)) (EP X pins σ Q) X.xe s
theorem dg.one:∀{x:V} {us:List Value},dg [x] us->∃u,us=[u]/\RelV x u
 | _,_,.cons r .nil=>#[_,rfl,r]
theorem dg.zero:∀{us:List Value},dg [] us->us=[]
 | _,.nil=>rfl
theorem dg.dropLast (h:dg xs us):dg xs.dropLast us.dropLast:=by
 induction h with
 | nil=>exact .nil
 | cons r t ih =>
  cases t with
  | nil=>exact .nil
  | cons q t'=>exact .cons r ih
theorem dg.eraseIdx:∀{xs:List V} {us:List Value} (i:Nat),dg xs us->dg (xs.eraseIdx i) (us.eraseIdx i)
 | _,_,_,.nil=>.nil
 | _,_,0,.cons _ t=>t
 | _,_,i+1,.cons r t=>.cons r (dg.eraseIdx i t)
theorem dg.reverse (h:dg xs us):dg xs.reverse us.reverse:=by
 induction h with
 | nil=>exact .nil
 | cons r t ih=>rw[gU,gU];exact dg.append ih (.cons r .nil)
theorem dg.rep {xs:List V} {us:List Value} (h:dg xs us):∀k:Nat,dg (List.replicate k xs).flatten (List.replicate k us).flatten
 | 0=>.nil
 | k+1=>by
  rw[mZ,mZ,i8,i8];exact dg.append h (dg.rep h k)
theorem Jt {α:Type} (l:List α):l.eraseIdx (l.9 - 1)=l.dropLast:=by
 induction l with
 | nil=>rfl
 | cons a r ih =>
  cases r with
  | nil=>rfl
  | cons b r =>
   have e:(a :: b :: r).9 - 1=((b :: r).9 - 1)+1:=by
    have h1:(a :: b :: r).9=r.9+2:=rfl;have h2:(b :: r).9=r.9+1:=rfl
    lia
   rw[e,List.eraseIdx_cons_succ,ih]
   all_goals rfl
theorem uU {α:Type}:∀(l:List α) (i:Nat),(l.eraseIdx i).9<=l.9
 | [],_=>ak _
 | _ :: _,0=>kY _
 | _ :: r,i+1=>eE (uU r i)
theorem foldl_rep (its:List Value):∀(k:Nat) (acc:List Value),
  List.foldl (λx1 x2=>x1++x2) acc.toArray (List.replicate k its.5)=(acc++(List.replicate k its).flatten).5
 | 0,acc=>by simp
 | k+1,acc=>by
  have e:acc.5++its.5=(acc++its).5:=by simp
  have e2:(acc++its)++(List.replicate k its).flatten=acc++(List.replicate (k+1) its).flatten:=by
   rw[mZ,i8,dc]
  rw[<- e2,<- foldl_rep its k (acc++its),<- e,mZ,List.foldl_cons]
section
variable {σ:St}
theorem Inv.lset {its its':List Value} (I:Inv X pins σ H s) (hH:H l=some (.lst xs))
  (e:s.heap.get? l=some { cls:=.type "list",data:=.seq its.toArray n }) (hf:f its.5=its'.5) (hv:dg ys its') (hz:ys.9<=sizeLine) :
  Inv X pins σ (upd H l (.lst ys)) { s with heap:=s.heap.update l (Obj.mapSeq f),toks:=t' }:=by
 have q:=mK e f;rw[hf] at q;refine I.write (x:=l) (e:=l) (by rw[hH];exact trivial) (.inl rfl) (λb' u hb hu=>(Heap.get?_update_other s.heap (Obj.mapSeq f) (Ne.symm hb)).trans hu) #[_,q] ?_;exact #[hz,its',_,hv,q]
theorem Inv.lnew (I:Inv X pins σ H s) (hv:dg ys its) (hz:ys.9<=sizeLine) :
  Inv X pins σ (upd H s.heap.objs.size (.lst ys)) { s with heap:=s.heap.push { cls:=.type "list",data:=.seq its.5 },toks:=t' } :=
 I.laid (λ_ _ q=>Heap.get?_push_of_some _ q) (ak _) #[hz,its,0,hv,Heap.get?_push_size _ rfl]
theorem Inv.fresh (I:Inv X pins σ H s):H s.6=none:=I.hok.fresh (ak _)
theorem Inv.lstM (I:Inv X pins σ H s) (hH:H l=some (.lst xs)):xs.9<=sizeLine/\∃(its:List Value) (n:Nat),dg xs its/\xs.9=its.9/\s.heap.get? l=some { cls:=.type "list",data:=.seq its.toArray n }:=by
 obtain z|its|n|r|e:=I.hok l _ hH;exact #[z,its,n,r,r.9,e]
theorem FZ (h:n<=sizeLine):Builtin.List.listTooLong n=false:=by
 unfold Builtin.List.listTooLong;exact decide_eq_false ()
end
section
variable {X:Cx}
def Kf:V->List V->Hp->VK->Prop:=λx vs H Q=>∃l xs y,x=.ref l/\vs=[y]/\H l=some (.lst xs)/\xs.9 < sizeLine/\Q .non (upd H l (.lst (xs++[y])))
theorem iS:VH X "list.append" Kf:=by
 intro pins s σ H x vs v us Q I rx rv h;obtain l|xs|y|rfl|rfl|hH|hz|q:=h;cases rx;obtain u|rfl|ru:=rv.one;obtain z|its|n|r|hl|e:=I.lstM hH;refine call_meets F.slot_list_append #[_,e,rfl] F.entry_list_append (F.args_list_append_2 _ _) (PySem.list_append l its.toArray n u (by rw[aN];lia)) #[e,?_];refine #[.non,_,I.lset (its':=its++[u]) hH e (by simp) (r.append (.cons ru .nil)) ?_,rfl,q];rw[ar,a9]
 lia
def P0:V->List V->Hp->VK->Prop:=λx vs H Q=>∃l b xs zs,x=.ref l/\vs=[.ref b]/\H l=some (.lst xs)/\H b=some (.lst zs)/\xs.9+zs.9<=sizeLine/\Q .non (upd H l (.lst (xs++zs)))
theorem Lr:VH X "list.extend" P0:=by
 intro pins s σ H x vs v us Q I rx rv h;obtain l|b|xs|zs|rfl|rfl|hH|hB|hz|q:=h;cases rx;obtain u|rfl|ru:=rv.one;cases ru;obtain z|its|n|r|hl|e:=I.lstM hH;obtain z2|its2|n2|r2|hl2|e2:=I.lstM hB;have hsz:its.5.7+its2.5.7<=sizeLine:=by rw[aN,aN];lia
 have hlong:¬(!its.toArray.isEmpty && Builtin.List.listTooLong (its.5.7+its2.5.7))=true:=by
  rw[FZ hsz,Bool.and_false];exact bA
 refine call_meets F.slot_list_extend #[_,e,rfl] F.entry_list_extend (F.args_list_extend_2 _ _)
  (AutoSeq1.list_extend_list_list_0 l its.toArray n b its2.toArray n2 hlong (by rw[aN];lia) ()) #[e,e2,?_]
 refine #[.non,_,I.lset (its':=its++its2) hH e (by simp) (r.append r2) ?_,rfl,q];rw[ar]
 lia
def VQ:V->List V->Hp->VK->Prop:=λx vs H Q=>∃l xs y,x=.ref l/\vs=[]/\H l=some (.lst xs)/\xs[xs.9 - 1]?=some y/\Q y (upd H l (.lst xs.dropLast))
theorem Ta:VH X "list.pop" VQ:=by
 intro pins s σ H x vs v us Q I rx rv h;obtain l|xs|y|rfl|rfl|hH|hy|q:=h;cases rx;have hus:=rv.zero;subst hus;obtain z|its|n|r|hl|e:=I.lstM hH;obtain u|hu|ru:=r.get hy
 have hy':its.5[its.5.7 - 1]?=some u:=by
  show its.5[its.9 - 1]?=some u
  rw[<- Array.getElem?_toList,<- hl];exact hu
 refine call_meets F.slot_list_pop #[_,e,rfl] F.entry_list_pop (F.args_list_pop_1 _) (MeetsSeq.list_pop_last l its.toArray n u hy' (by rw[aN];lia)) #[e,?_];refine #[y,_,I.lset (its':=its.dropLast) hH e ?_ r.dropLast ?_,ru,q]
 ·show its.toArray.eraseIdxIfInBounds (its.5.7 - 1)=its.dropLast.toArray
  rw[aN,Md,Jt]
 ·rw[List.length_dropLast]
  lia
def SU:V->List V->Hp->VK->Prop:=λx vs H Q=>∃l xs i k y,x=.ref l/\vs=[.int i]/\H l=some (.lst xs)/\-(2^63)<=i/\i < 2^63/\seqIndex? i xs.9=some k/\xs[k]?=some y/\Q y (upd H l (.lst (xs.eraseIdx k)))
theorem F4:VH X "list.pop" SU:=by
 intro pins s σ H x vs v us Q I rx rv h;obtain l|xs|i|k|y|rfl|rfl|hH|h1|h2|hk|hy|q:=h;cases rx;obtain u|rfl|ru:=rv.one;obtain t|rfl:=ru;obtain z|its|n|r|hl|e:=I.lstM hH;obtain w|hw|rw':=r.get hy
 refine call_meets F.slot_list_pop #[_,e,rfl] F.entry_list_pop (F.args_list_pop_2 _ _)
  (MeetsSeq.list_pop_at l its.toArray n i t k w (fitsIndex_both h1 h2) (by rw[aN,<- hl];exact hk) (by rw[<- Array.getElem?_toList];exact hw) (by rw[aN];lia)) #[e,?_]
 refine #[y,_,I.lset (its':=its.eraseIdx k) hH e ?_ (r.eraseIdx k) ?_,rw',q]
 ·show its.toArray.eraseIdxIfInBounds k=(its.eraseIdx k).toArray
  rw[Md]
 ·have:=uU xs k
  lia
def UT:R2:=λx y H Q=>∃l b xs zs,x=.ref l/\y=.ref b/\H l=some (.lst xs)/\H b=some (.lst zs)/\xs.9+zs.9<=sizeLine/\∀p,H p=none->Q (.ref p) (upd H p (.lst (xs++zs)))
theorem iU:xc X (binaryOp .Add) UT:=by
 intro pins s σ H x y v u Q I rx ry h;obtain l|b|xs|zs|rfl|rfl|hH|hB|hz|q:=h;cases rx;cases ry;obtain z|its|n|r|hl|e:=I.lstM hH;obtain z2|its2|n2|r2|hl2|e2:=I.lstM hB;refine PySem.P.add_list e e2 ?_ (by rw[aN,aN];lia);have ea:its.5++its2.5=(its++its2).5:=by simp
 rw[ea];exact #[.ref _,_,I.lnew (t':=s.toks) (r.append r2) (by rw[ar];lia),rfl,q _ I.fresh]
def UQ:R2:=λx y H Q=>∃l k xs,x=.ref l/\y=.int k/\H l=some (.lst xs)/\-(2^63)<=k/\k < 2^63/\xs.9*k.toNat<=sizeLine /\
 ∀p,H p=none->Q (.ref p) (upd H p (.lst (List.replicate k.toNat xs).flatten))
theorem len_rep {α:Type} (xs:List α) (k:Nat):(List.replicate k xs).flatten.length=k*xs.9:=by
 induction k with
 | zero=>simp
 | succ k ih=>rw[mZ,i8,ar,ih,eD,jN]
theorem Nu:xc X (binaryOp .Mult) UQ:=by
 intro pins s σ H x y v u Q I rx ry h;obtain l|k|xs|rfl|rfl|hH|h1|h2|hz|q:=h;cases rx;obtain t|rfl:=ry;obtain z|its|n|r|hl|e:=I.lstM hH;have hlen:its.5.7*k.toNat<=sizeLine:=by rw[aN,<- hl];exact hz
 have hcap:¬its.5.7*k.toNat > (2^63 - 1) / 8:=by
  have:(sizeLine:Nat)<=(2^63 - 1) / 8:=()
  lia
 have hfit:¬(!Builtin.List.listFitsIndex k)=true:=by
  rw[fitsIndex_both h1 h2];exact bA
 have hlong:¬Builtin.List.listTooLong (its.5.7*k.toNat)=true:=by
  rw[FZ hlen];exact bA
 have hnew:List.foldl (λx1 x2=>x1++x2) [].toArray (List.replicate (if its.toArray.isEmpty=true then 0 else k.toNat) its.5)=(List.replicate k.toNat its).flatten.toArray:=by
  have f0:∀m:Nat,List.foldl (λx1 x2=>x1++x2) [].toArray (List.replicate m its.5)=(List.replicate m its).flatten.toArray:=λm=>by
   have:=foldl_rep its m [];rw[dF] at this;exact this
  rw[f0];cases its with
  | nil=>simp
  | cons a r'=>rw[if_neg (by simp)]
 refine wpAny_binaryOp_repeat_ref (T:="list") (U:="int") () #[_,e,rfl] (λs'=>typeIs_int s' k t) noFill_list_mul F.fills_int_mul F.slot_int_rmul repeat_list F.slot_int_index.lookup
  (call_meets F.slot_int_rmul (typeIs_int s k t) F.entry_int_rmul (F.args_int_rmul_2 _ _) (int___rmul___int_list k t l its.toArray n)
   #[e,rfl,#[_,e,rfl],call_meets F.slot_list_mul #[_,e,rfl] F.entry_list_mul (F.args_list_mul_2 _ _) (AutoListH.list___mul___list_int_3 l its.toArray n k t hfit hcap hlong) #[e,?_]])
 rw[hnew];exact #[.ref _,_,I.lnew (t':=s.toks) (r.rep k.toNat) (by rw[len_rep,cv];exact hz),rfl,q _ I.fresh]
end
end L2
namespace Att
open PySem PySem.W PySem.Calls PyProof.Rows
theorem yF:∀(ns:List Int) (vs:List Value),WellAll P h vs (ns.map WData.int)->IntsAre vs ns:=by
 intro ns
 induction ns with
 | nil =>
  intro vs w;rw[KQ] at w;cases w;exact .nil
 | cons n ns ih =>
  intro vs w;rw[iD] at w;cases w with
  | cons a b =>
   cases a;exact .cons _ _ (ih _ b)
theorem K8 {l:OpenLaw} (hn:l.most=some n) 
  (hpre:l.row.toRowW.claim.pre args=true) (hwl:WellAll P h vals args) :
  ∃a vs ns,vals=[Value.ref a]/\args=[WData.list (ns.map WData.int)]/\h.get? a=some { cls:=.type "list",data:=.seq vs.5 }/\IntsAre vs ns/\ns.9<=n:=by
 have hsh:WShape.hasAll [] args [.list .int]=true:=(pre_splitW hpre).1;have hc:l.pre.holds [] { args:=args }=true:=(pre_splitW hpre).2;obtain d|r|rfl|h1|h2:=hasAllW_cons hsh;obtain rfl:=hasAllW_nil h2;obtain xs|rfl|h3:=hasW_list h1;obtain ns|rfl:=items_int h3
 have hlen:ns.9<=n:=by
  unfold OpenLaw.pre at hc
  have h4:(WTm.not (.lt (.lit (.int (n:Int))) (.len (.arg 0)))).holds [] { args:=[.list (ns.map .int)] }=true:=by
   have h4:=(holds_andW hc).1;rw[hn] at h4;exact h4
  have h5:=condW_of h4 (w_not (w_lt w_lit (w_len_list (w_arg rfl))));rw[af] at h5;refine Nat.le_of_not_lt λq=>?_
  have q':(n:Int) < ((ns.9:Nat):Int):=()
  first
   | (rw[decide_eq_true q'] at h5;exact absurd h5 ())
   | (simp at h5;lia)
 cases hwl with
 | cons w1 w2 =>
  cases w2;cases w1 with
  | list ho hall=>exact #[_,_,ns,rfl,rfl,ho,yF ns _ hall,hlen]
theorem Li (l:OpenLaw) (args:List WData):l.row.toRowW.claim.post args (.bool true) args=true :=
 postW_of (r:=l.row.toRowW) (X:=(true == true))
  (show WShape.has [] (.bool true) .bool=true by first | rfl | decide | simp [WShape.has,WShape.arms,WShape.armsAll])
  (show (WTm.eq .res (.lit (.bool true))).value [] { args:=args,res:=some (.bool true),after:=args }=some (.bool (true == true)) from w_eq_bool (w_res rfl) w_lit) rfl
theorem Hw {l:OpenLaw} 
  (hn:l.most=some n) (hdf:d.params.defaults=[])
  (call:∀(w:World) (s₀ s₁:Shared) (mg mb:Str->Option Value) (fa:Addr) (o:Obj) (pm cd doc:Value) (a:Addr) (vs:List Value) (ns:List Int),
   Ground q loose [] XP w s₀ mg mb s₁.8->YP w s₁.8 →
   s₁.heap.get? fa=some o->o.data=.func (docDef d.name d.params d.body d.scope pm cd doc)->s₁.heap.CodeRec cd d.name->mg d.name=some (.ref fa) →
   s₁.heap.get? a=some { cls:=.type "list",data:=.seq vs.5 }->IntsAre vs ns->ns.9<=n->s₁.gens=[].toArray →
   codeAny (model l.prog w) callerA (.call (.ref fa) #[[.ref a],[]]) (λr s'=>r=.ok (.ret (.bool true))/\OldK s₁.heap s'.8/\s'.os=s₁.os/\AllBare s'.gens) s₁) :
  WalkO q loose XP YP l.row.toRowW d [] (λf vs=>PySem.call f vs):=by
 intro w s₀ s₁ mg mb G Y fa o pm cd doc dV kV ho hd hcd hD hmg hg args vals as hpre hlay hrd hwl hlo;obtain rfl:dV=.none:=Dflts.none hD hdf;obtain rfl:kV=.none:=Dflts.noKw hD;obtain a|vs|ns|rfl|rfl|hobj|hints|hlen:=K8 hn hpre hwl;refine enter_call (codeAny_mono (call w s₀ s₁ mg mb fa o pm cd doc a vs ns G Y ho (fd_plain hd) hcd hmg hobj hints hlen hg) λr s' hq=>?_);obtain rfl|h2|h3|h4:=hq;exact #[.inl #[.bool true,.bool true,[],rfl,λ_=>rfl,.bool true,Li l _,λ_=>#[List.Pairwise.nil,λ_ hm=>(nomatch hm)]],h2,h3,h4]
end Att
namespace L2
open PySem PySem.Spec PyProof.Rows
theorem BR:∀{vs:List Value} {ns:List Int},IntsAre vs ns->dg (ns.map V.int) vs
 | _,_,.nil=>.nil
 | _,_,.cons n t h=>.cons #[t,rfl] (BR h)
def TU (H:Hp):Prop:=∀b,H b=none\/∃o xs,H b=some (.frz o (.lst xs))
theorem NP {K:FG9} 
  (KX:K.In s₁.8) (hns:s₁.heap.Ns mainGlobals mg) (hb:s₁.heap.Ns builtinsNs mb) (hbb:∀x:Str,x≠"__name__"->mb x=bootBuiltins x) (hlim:s₁.heap.NoLimit) (hg:s₁.gens=[].toArray)
  (ha:s₁.heap.get? a=some { cls:=.type "list",data:=.seq vs.5 }) (hi:IntsAre vs ns) (hl:ns.9<=sizeLine) (hr:mV k callerA)
  (F:∀base:Heap,K.In base->base.Ns mainGlobals mg->uH P w K mg base CX k fa fd [x] sp) (hbind:∀(s:Shared) (u:Value),BindsTo s fd #[[u],[]] [(x,u)])
  (hsp:∀H:Hp,TU H->bE K H a (ns.map V.int)->sp [.ref a] H (λv _=>v=.bl true) λ_ _ _=>False)
  (hCX:∀H e s',CX [] H s₁ (λ_ _ _=>False) e s'->False) :
  codeAny (model P w) callerA (.call (.ref fa) #[[.ref a],[]]) (λr s'=>r=.ok (.ret (.bool true))/\OldK s₁.heap s'.8/\s'.os=s₁.os/\AllBare s'.gens) s₁:=by
 have rv:=BR hi;have lenV:=hi.length
 have core:∀H:Hp,TU H->bE K H a (ns.map V.int)->zg P w H s₁.8->(∀b,H b≠none->b=a)->(H a≠none->K.lookup a=none) →
   codeAny (model P w) callerA (.call (.ref fa) #[[.ref a],[]]) (λr s'=>r=.ok (.ret (.bool true))/\OldK s₁.heap s'.8/\s'.os=s₁.os/\AllBare s'.gens) s₁:=by
  intro H hO hS hok hA hK;have base_of:∀{b:Addr} {o:Obj},s₁.heap.get? b=some o->H b=none->(Ec s₁.heap H).get? b=some o:=λe n=>NV e n
  have noA:∀{b:Addr} {o:Obj} {es:Array DictEntry} {ep:Nat},s₁.heap.get? b=some o->o.data=.dict es ep->H b=none:=λ{b o es ep} e d=>by
   cases q:H b with
   | none=>rfl
   | some u =>
    have e':b=a:=hA b (by rw[q];simp);subst e';rw[ha] at e;cases e;have d':Data.seq vs.toArray _=Data.dict es ep:=d;cases d'
  have nsK:∀{b:Addr} {m:Str->Option Value},s₁.heap.Ns b m->(Ec s₁.heap H).Ns b m:=λ{b m} #[o,es,ep,e,d,r]=>#[o,es,ep,base_of e (noA e d),d,r]
  have hKb:K.In (Ec s₁.heap H):=λb o e=>base_of (KX b o e) (by
   cases q:H b with
   | none=>rfl
   | some u =>
    have e':b=a:=hA b (by rw[q];simp);subst e';rw[hK (by rw[q];simp)] at e;cases e)
  have hM:Mod K mg (Ec s₁.heap H):=#[hKb,nsK hns,#[mb,nsK hb,hbb],let ⟨mc,h1,h2⟩:=hlim;#[mc,nsK h1,h2]];have e0:JW P w K mg (Ec s₁.heap H) callerA [] s₁ H:=#[rfl,hM,λb o e=>Qo e,Nat.le_of_eq (LA _ _),trivial,λb hb=>absurd (show b∈([]:List Addr) from hb) (by simp),hok,.of_eq hg];refine codeAny_mono ((F _ hKb (nsK hns)).run callerA [] s₁ H #[[.ref a],[]] [.ref a] [.ref a] _ _ hr e0 (hbind s₁ (.ref a)) (.cons rfl .nil) (hsp H hO hS)) λr s' h=>?_
  cases r with
  | error e=>exact (hCX H e s' h).elim
  | ok fl =>
   cases fl with
   | next=>exact False.elim h
   | brk=>exact False.elim h
   | cont=>exact False.elim h
   | ret u =>
    obtain v|H'|os|bare|un|hok'|r'|q:=h;have q':v=.bl true:=q;subst q';obtain rfl:u=Value.bool true:=r';refine #[rfl,OldK.of_keep λb o e=>?_,os,bare];cases q:H b with
    | none=>exact un.keep b o e q (by intro z;exact absurd (show b∈([]:List Addr) from z) (by simp)) (by simp)
    | some u =>
     rcases hO b with z | ⟨ob,xs,z⟩
     ·rw[q] at z;cases z
     ·have z2:=un.frzs b ob _ z;obtain e1|_:=hok b _ z;obtain e2|_:=hok' b _ z2;rw[e] at e1;cases e1;exact e2
 cases hk:K.lookup a with
 | some o =>
  have e:=KX a o hk;rw[ha] at e;cases e;refine core (λ_=>none) (λ_=>.inl rfl) (.inr #[_,vs.5,_,hk,rfl,rfl,rfl,by rw[aN,lenV];exact hl,by simpa using rv]) (λb u z=>by have z':(none:Option HO)=some u:=z;cases z') (λb z=>absurd rfl z) λz=>absurd rfl z
 | none =>
  refine core (λb=>if b=a then some (.frz { cls:=.type "list",data:=.seq vs.5 } (.lst (ns.map V.int))) else none) (λb=>?_) (.inl (.inr #[{ cls:=.type "list",data:=.seq vs.5 },if_pos rfl])) (λb u z=>?_) (λb z=>?_) λ_=>hk
  ·by_cases hb:b=a
   ·exact .inr #[_,_,if_pos hb]
   ·exact .inl (if_neg hb)
  ·by_cases hb:b=a
   ·have z':=(if_pos hb).symm.trans z;cases z';subst hb;exact #[ha,by rw[af];exact hl,vs,_,rv,ha]
   ·have z':=(if_neg hb).symm.trans z;cases z'
  ·by_cases hb:b=a
   ·exact hb
   ·exact absurd (if_neg hb) z
theorem OY {l:PySem.W.OpenLaw} {K:Params->FG9} {CX:World->OL} {sp:World->Sp} 
  (hn:l.most=some n) (hn2:n<=sizeLine) (hdf:d.params.defaults=[]) (hr:mV k callerA)
  (hY:∀(w:World) (h:Heap),YP w h->(K w.params).In h)
  (F:∀(w:World) (mg:Str->Option Value) (fa:Addr) (h:Heap),(K w.params).In h->h.Ns mainGlobals mg->mg d.name=some (.ref fa) →
   ∃fd:FuncData,(∀(s:Shared) (u:Value),BindsTo s fd #[[u],[]] [(x,u)]) /\
    ∀base:Heap,(K w.params).In base->base.Ns mainGlobals mg->uH l.prog w (K w.params) mg base (CX w) k fa fd [x] (sp w))
  (hsp:∀(w:World) (H:Hp) (a:Addr) (ns:List Int),ns.9<=n->TU H->bE (K w.params) H a (ns.map V.int)->sp w [.ref a] H (λv _=>v=.bl true) λ_ _ _=>False)
  (hCX:∀(w:World) (H:Hp) (s:Shared) (e:Value) (s':Shared),CX w [] H s (λ_ _ _=>False) e s'->False) :
  PySem.W.WalkO q loose XP YP l.row.toRowW d [] (λf vs=>PySem.call f vs):=by
 refine Att.Hw hn hdf λw s₀ s₁ mg mb fa o pm cd doc a vs ns G Y ho hd hcd hmg hobj hints hlen hg=>?_
 have KX:=hY w _ Y;obtain fd|hb|hF:=F w mg fa _ KX G.T.g hmg;exact NP KX G.T.g G.T.b G.T.builtins G.T.nolimit hg hobj hints (ag hlen hn2) hr hF hb (λH hO hS=>hsp w H a ns hlen hO hS) λH e s'=>hCX w H s₁ e s'
end L2

namespace L2
open PySem PySem.Spec PyProof.Rows
def inClass (s:Stmt) (j:Nat):Stmt:=match s with
 | .ClassDef _ _ _ body _ _ _ _ _ _ _=>body.getD j (.Pass #[0,0,0,0])
 | _=>.Pass #[0,0,0,0]
def oj (s:Stmt):Arguments:=match s with
 | .FunctionDef _ a _ _ _ _ _ _ _ _=>a
 | _=>{ posonlyargs:=[],args:=[],vararg:=none,kwonlyargs:=[],kw_defaults:=[],kwarg:=none,defaults:=[] }
def jL (s:Stmt):List Stmt:=match s with
 | .FunctionDef _ _ b _ _ _ _ _ _ _=>b
 | _=>[]
def fO (s:Stmt):Scope:=match s with
 | .FunctionDef _ _ _ _ _ _ sc _ _ _=>sc
 | _=>{ kind:=.function,names:=[],isGenerator:=false,isCoroutine:=false }
abbrev Mc:OL:=λ_ _ _ _ _ _=>False
abbrev E0:XK:=λ_ _ _=>False
theorem Nt:ye Mc X E0:=λ_ _ _ _ _ _ _ h=>h.elim
structure Ml (K:FG9) (x qual:Str) (st:Stmt) (f:Addr) (fd:FuncData):Prop where
 ex:∃(oc:Value) (od:Option Addr) (kV doc pm:Value) (an:Option Addr) (cdv ct:Value) (osl:Array (Option Value)),
  fd=PySem.W.fnOf x qual (oj st) (jL st) (fO st) .none kV doc pm an cdv ct/\K.lookup f=some #[oc,od,.func fd,osl]/\PySem.W.codeIn K cdv qual=true
 kp:PySem.W.keepIn K (.ref f)=true
section
variable {P:Program} {w:World} {K:FG9} {mg:Str->Option Value} {base:Heap}
theorem Ml.ok {st:Stmt} (F:Ml K x qual st f fd) (S:wZ N ps (fO st)) (len:∀vs H Q E,sp vs H Q E->vs.9=ps.9)
  (hbody:∀(cdv:Value) (A:Around) (outer:List Env) (s:Shared) (H:Hp) (vs:List V) (Q:VK) (E:XK),mV k (A.deeper (envOfC qual (fO st) s.heap.objs.size f cdv))->sp vs H Q E →
   ∃t,Im (G5 Mc P w K mg base N qual (fO st) f cdv A outer s H E).nox (jL st) t/\t { nx:=λ_ H'=>Q .non H',rt:=Q } (start N vs) H):uH P w K mg base Mc (k+1) f fd ps sp:=by
 obtain oc|od|kV|doc|pm|an|cdv|ct|osl|rfl|lk|hcd:=F.ex;refine Ve lk hcd S len λA outer s H vs Q E hr hsp=>?_
 obtain t|h|q:=hbody cdv A outer s H vs Q E hr hsp;exact #[t,h.nox,q]
theorem Sd {N ps:List Str} {vs:List V} (h:N.take ps.9=ps) (l:vs.9=ps.9):vs.9<=N.9:=by
 have:=congrArg List.length h;rw[bY] at this
 lia
theorem Ml.k {x qual:Str} {st:Stmt} {f:Addr} {fd:FuncData} {N ps:List Str} {k:Nat} {sp:Sp} (F:Ml K x qual st f fd) (S:wZ N ps (fO st))
  (hbody:∀(cdv:Value) (A:Around) (outer:List Env) (s:Shared) (H:Hp) (vs:List V) (Q:VK) (E:XK) (hr:mV k (A.deeper (envOfC qual (fO st) s.heap.objs.size f cdv))) (h:sp vs H Q E),
   ∃t,Im (G5 Mc P w K mg base N qual (fO st) f cdv A outer s H E).nox (jL st) t/\t { nx:=λ_ H'=>Q .non H',rt:=Q } (T8 N vs) H) (len:∀vs H Q E,sp vs H Q E->vs.9=ps.9:=by walk_at "n"):uH P w K mg base Mc (k+1) f fd ps sp :=
 F.ok S len λcdv A outer s H vs Q E hr h=>by
  rw[Iv (Sd S.pre (len _ _ _ _ h))];exact hbody cdv A outer s H vs Q E hr h
theorem Ml.binds {st:Stmt} (F:Ml K x qual st f fd)
  (h:∀(kV doc pm:Value) (an:Option Addr) (cdv ct:Value) (us:List Value),us.9=ps.9->bindArgs (PySem.W.fnOf x qual (oj st) (jL st) (fO st) .none kV doc pm an cdv ct) #[us,[]]=pure (ps.zip us)):Binds K fd ps []:=by
 obtain oc|od|kV|doc|pm|an|cdv|ct|osl|rfl|lk|hcd:=F.ex;exact .all (h kV doc pm an cdv ct)
theorem Jp {st:Stmt} {kV doc pm cdv ct:Value} (l:K.lookup f=some #[oc,od,.func (PySem.W.fnOf x qual (oj st) (jL st) (fO st) .none kV doc pm an cdv ct),osl])
  (c:PySem.W.codeIn K cdv qual=true) (k:PySem.W.keepIn K (.ref f)=true):Ml K x qual st f (PySem.W.fnOf x qual (oj st) (jL st) (fO st) .none kV doc pm an cdv ct):=#[#[oc,od,kV,doc,pm,an,cdv,ct,osl,rfl,l,c],k]
end
structure Df (K:FG9) (mg:Str->Option Value) (x:Str) (st:Stmt) (ps:List Str) (f:Addr) (fd:FuncData):Prop where
 m:mg x=some (.ref f)
 b:Binds K fd ps []
 F:Ml K x x st f fd
structure Dh (K:FG9) (x:Str) (st:Stmt) (f:Addr) (fd:FuncData):Prop where
 a:PySem.W.nsIn K mainGlobals x=some (some (.ref f))
 F:Ml K x x st f fd
theorem Vf {K:FG9} {st:Stmt} {kV doc pm cdv ct:Value} (a:PySem.W.nsIn K mainGlobals x=some (some (.ref f))) (l:K.lookup f=some #[oc,od,.func (PySem.W.fnOf x x (oj st) (jL st) (fO st) .none kV doc pm an cdv ct),osl]) (c:PySem.W.codeIn K cdv x=true) (k:PySem.W.keepIn K (.ref f)=true):Dh K x st f (PySem.W.fnOf x x (oj st) (jL st) (fO st) .none kV doc pm an cdv ct):=#[a,Jp l c k]
theorem Dh.D {K:FG9} {x:Str} {st:Stmt} {f:Addr} {fd:FuncData} {ps:List Str} {mg:Str->Option Value} {h:Heap} (d:Dh K x st f fd) (X:K.In h) (G:h.Ns mainGlobals mg) (hb:∀(kV doc pm:Value) (an:Option Addr) (cdv ct:Value) (us:List Value),us.9=ps.9->bindArgs (PySem.W.fnOf x x (oj st) (jL st) (fO st) .none kV doc pm an cdv ct) #[us,[]]=pure (ps.zip us):=by walk_at "b"):Df K mg x st ps f fd:=#[PySem.W.mg_of X G d.a,d.F.binds hb,d.F]
abbrev Df.o {K:FG9} {mg:Str->Option Value} {x:Str} {st:Stmt} {ps:List Str} {f:Addr} {fd:FuncData} (_:Df K mg x st ps f fd) (P:Program) (w:World) (base:Heap) (k:Nat) (sp:Sp):Prop:=uH P w K mg base Mc k f fd ps sp
theorem cT {X:Cx} {k k':Nat} {f:Addr} {fd:FuncData} {ps:List Str} {sp:Sp} {x:Str} {st:Stmt} {p pos:Pos} {e:Expr} {es:List Expr} {t:TA} (F:uH X.prog X.w X.K X.mg X.base Mc k f fd ps sp) (hr:mV k' X.A) (D:Df X.K X.mg x st ps f fd) (ha:PA X (e :: es) t) (hle:k<=k':=by decide) (hg:Gl X x:=by exact rfl) (hdb:(x == ("__debug__":Str))=false:=by decide) (he:starEach (e :: es) X.env=(false,eval e X.env) :: starEach es X.env:=by rfl) (hpl:(backTo pos (starEach es X.env)).any (·.1)=false:=by rfl):PE X (.Call (.Name x p) (e :: es) [] pos) (MF sp [] E0 t):=Qh F (hr.mono hle) hg D.m D.F.kp D.b .nil Nt ha hdb he hpl
theorem cU (h:n<=1000):n < sizeLine:=bO h ()
theorem j8 {n:Nat} (h:n<=1000:=by lia):n<=sizeLine:=cC (cU h)
section
variable {X:Cx}
theorem pv (i:Nat) {x:Str} {pos:Pos} (hN:X.N[i]?=some x:=by rfl) (hv:V5 X.env.scope x:=by first | exact Or.inl rfl | exact Or.inr (Or.inl rfl) | exact Or.inr (Or.inr rfl)) (hd:(x == ("__debug__":Str))=false:=by decide)
  (hcd:(x == ("__classdict__":Str))=false:=by decide):PE X (.Name x pos) (RX i):=SY hN hv hd hcd
end
theorem Th {A B:Prop} (h:B):if false=true then A else B:=by
 rw[if_neg bA];exact h
theorem U2 {A B:Prop} (h:A):if true=true then A else B:=by
 rw[if_pos rfl];exact h
theorem dU {c A B:Prop} [Decidable c] (h1:c->A) (h2:¬c->B):if c then A else B:=by
 by_cases h:c
 ·rw[if_pos h];exact h1 h
 ·rw[if_neg h];exact h2 h
def aH (H H':Hp):Prop:=∀b o,H b=some o->H' b=some o
theorem aH.refl (H:Hp):aH H H:=λ_ _ h=>h
theorem aH.trans (a:aH H H1) (b:aH H1 H2):aH H H2:=λc o h=>b c o (a c o h)
theorem aH.free (e:aH H H') (h:H' l=Option.none):H l=Option.none:=by
 cases q:H l with
 | none=>rfl
 | some o =>
  rw[e l o q] at h;cases h
theorem aH.seq {K:FG9} (e:aH H H') (h:bE K H a xs):bE K H' a xs:=by
 rcases h with (h | ⟨o,h⟩) | h
 ·exact .inl (.inl (e _ _ h))
 ·exact .inl (.inr #[o,e _ _ h])
 ·exact .inr h
end L2
namespace Nm
theorem N7 (a b:Int):Int.gcd b (a.fmod b)=Int.gcd a b:=by
 rw[Int.fmod_def,mO a b];apply Nat.dvd_antisymm
 ·apply OO
  ·exact gG ..
  ·have h1:=gG (a:=b) (b:=a - b*a.fdiv b);have h2:=gV (a:=b) (b:=a - b*a.fdiv b);have h3:=Int.dvd_add h2 (oP (c:=a.fdiv b) h1);rwa [Int.sub_add_cancel] at h3
 ·apply OO
  ·exact gG ..
  ·exact Int.dvd_sub (gV ..) (oP (gG ..))
theorem Oa (a b:Int):Int.gcd b (a % b)=Int.gcd a b:=by
 rw[Int.emod_def,mO a b];apply Nat.dvd_antisymm
 ·apply OO
  ·exact gG ..
  ·have h1:=gG (a:=b) (b:=a - b*(a / b));have h2:=gV (a:=b) (b:=a - b*(a / b));have h3:=Int.dvd_add h2 (oP (c:=a / b) h1);rwa [Int.sub_add_cancel] at h3
 ·apply OO
  ·exact gG ..
  ·exact Int.dvd_sub (gV ..) (oP (gG ..))
theorem Qu (a b:Int) (h:b≠0):(a.fmod b).natAbs < b.natAbs:=by
 rcases Int.lt_or_gt_of_ne h with h | h
 ·have e:a.fmod b=-((-a).fmod (-b)):=by
   have:=Int.neg_fmod_neg (-a) (-b);simp only[Int.neg_neg] at this;exact this
  have h1:=Int.fmod_nonneg_of_pos (-a) (b:=-b) ();have h2:=Int.fmod_lt_of_pos (-a) (b:=-b) ()
  lia
 ·have h1:=Int.fmod_nonneg_of_pos a h;have h2:=Int.fmod_lt_of_pos a h
  lia
def g (t b:Int):Int:=(Int.gcd t b:Int)
def lo (t b:Int):Int:=t / g t b
def hi (t b:Int):Int:=b / g t b
theorem Aw (h:b≠0):0 < g t b:=by
 unfold g;have:0 < Int.gcd t b:=OU _ h
 lia
theorem Aq (t b:Int):lo t b*g t b=t:=Int.ediv_mul_cancel (gG ..)
theorem xR (t b:Int):hi t b*g t b=b:=Int.ediv_mul_cancel (gV ..)
theorem Jl (h:0 < b):0 < hi t b:=by
 have h1:=Aw (t:=t) (b:=b) ();have h2:=xR t b;by_cases h3:0 < hi t b
 ·exact h3
 ·have:hi t b*g t b<=0:=Int.mul_nonpos_of_nonpos_of_nonneg () ()
  lia
theorem F7 (h:b≠0):Int.gcd (lo t b) (hi t b)=1:=by
 have h1:=Aw (t:=t) h;have e:=Int.gcd_mul_right (lo t b) (g t b) (hi t b);rw[Aq,xR] at e;have e2:(g t b).natAbs=Int.gcd t b:=by unfold g;simp
 rw[e2] at e;have h2:0 < Int.gcd t b:=OU _ h;exact Nat.eq_of_mul_eq_mul_right h2 (by rw[<- e,xa])
theorem Jj (t b:Int):lo t b*b=t*hi t b:=by
 have h1:=Aq t b;have h2:=xR t b
 calc lo t b*b=lo t b*(hi t b*g t b):=by rw[h2]
  _=(lo t b*g t b)*hi t b:=by rw[mN (hi t b),<- nK]
  _=t*hi t b:=by rw[h1]
theorem rV (h:Int.gcd a b=1) (hd:a∣b*c):a∣c:=by
 have h1:a.natAbs∣b.natAbs*c.natAbs:=by rw[<- dH];exact iO.mpr hd
 have h2:Nat.Coprime a.natAbs b.natAbs:=h;exact iO.mp (h2.dvd_of_dvd_mul_left h1)
theorem uniq (hb:0 < b) (hd:0 < d) (h1:Int.gcd a b=1) (h2:Int.gcd c d=1) (e:a*d=c*b):a=c/\b=d:=by
 have e1:b∣d:=by
  have:b∣a*d:=#[c,by rw[e,mN]];exact rV (by rw[mO];exact h1) this
 have e2:d∣b:=by
  have:d∣c*b:=#[a,by rw[<- e,mN]];exact rV (by rw[mO];exact h2) this
 have e3:b=d:=Int.dvd_antisymm () () e1 e2;subst e3;exact #[RT () e,rfl]
theorem pY {a b:Int} (h:b≠0):a.natAbs<=(a*b).natAbs:=by
 rw[dH];exact cN _ (Int.natAbs_pos.mpr h)
theorem lo_le (h:b≠0):(lo t b).natAbs<=t.natAbs:=by
 have:=pY (a:=lo t b) (b:=g t b) (by have:=Aw (t:=t) h;lia);rwa [Aq] at this
theorem RH (h:b≠0):(hi t b).natAbs<=b.natAbs:=by
 have:=pY (a:=hi t b) (b:=g t b) (by have:=Aw (t:=t) h;lia);rwa [xR] at this
def Sz (k:Nat) (x:Int):Prop:=x.natAbs < 2^k
theorem Sz.mono (h:Sz j x) (l:j<=k):Sz k x:=bN h (ai () l)
theorem Sz.mul (h1:Sz j x) (h2:Sz k y):Sz (j+k) (x*y):=by
 unfold Sz at *
 rw[dH,aV];exact Nat.mul_lt_mul'' h1 h2
theorem Sz.neg (h:Sz k x):Sz k (-x):=by unfold Sz at *;rw[lh];exact h
theorem Sz.le (h:Sz k y) (l:x.natAbs<=y.natAbs):Sz k x:=bO l h
theorem Sz.hi {k:Nat} {t b:Int} (h:Sz k b) (hb:b≠0):Sz k (hi t b):=h.le (RH hb)
end Nm
namespace L2
open PySem PySem.Spec PyProof.Rows
structure Bk (env:Env) (scope:Scope) (own capN:List Str):Prop where
 kind:scope.kind=.function
 locs:∀y∈scope.names,y.2=.local->scope.names.lookup y.1=some .local
 ownk:∀x∈own,scope.names.lookup x=some .local\/scope.names.lookup x=some .cell
 cells:∀y∈scope.names,y.2=.cell->y.1∈own/\y.1∉capN
 frees:∀y∈scope.names,y.2=.free->y.1∈capN/\y.1∉own
 capf:∀x∈capN,scope.names.lookup x=some .free
 caps:∀x∈capN,env.kindOf x=some .cell\/env.kindOf x=some .free
def VD (scope:Scope) (own capN:List Str):Bool :=
 decide (scope.kind=.function) && scope.names.all (λy=>decide (y.2=.local->scope.names.lookup y.1=some .local) && decide (y.2=.cell->y.1∈own/\y.1∉capN) && decide (y.2=.free->y.1∈capN/\y.1∉own)) &&
 own.all (λx=>decide (scope.names.lookup x=some .local\/scope.names.lookup x=some .cell)) && capN.all λx=>decide (scope.names.lookup x=some .free)
def CZ (env:Env):List Str->Bool
 | []=>true
 | x :: r=>(match env.kindOf x with | some .cell=>true | some .free=>true | _=>false) && CZ env r
theorem Hu {env:Env}:∀{capN:List Str},CZ env capN=true->∀x∈capN,env.kindOf x=some .cell\/env.kindOf x=some .free
 | [],_,_,h=>nomatch h
 | y :: r,h,x,hx=>by
  unfold CZ at h;rw[fh] at h;rcases aI.mp hx with e | hx
  ·subst e;have h1:=h.1
   split at h1
   ·rename_i e;exact .inl e
   ·rename_i e;exact .inr e
   ·cases h1
  ·exact Hu h.2 x hx
theorem Bk.of (h1:VD scope own capN=true) (h2:CZ env capN=true):Bk env scope own capN:=by
 unfold VD at h1;rw[fh,fh,fh,jA,jA,jA] at h1;obtain ⟨⟨a1,a2⟩,a3⟩|a4:=h1
 have a2':∀y∈scope.names,(y.2=.local->scope.names.lookup y.1=some .local)/\(y.2=.cell->y.1∈own/\y.1∉capN)/\(y.2=.free->y.1∈capN/\y.1∉own):=λy hy=>by
  have q:=a2 y hy;rw[fh,fh] at q;exact #[of_decide_eq_true q.1.1,of_decide_eq_true q.1.2,of_decide_eq_true q.2]
 exact #[of_decide_eq_true a1,λy hy=>(a2' y hy).1,λx hx=>of_decide_eq_true (a3 x hx),λy hy=>(a2' y hy).2.1,λy hy=>(a2' y hy).2.2,λx hx=>of_decide_eq_true (a4 x hx),Hu h2]
def fu (env:Env):List (Str×NameKind)->List (Str×Addr)->List (Str×Addr)
 | [],acc=>acc
 | (n,k) :: r,acc=>if k == .free then fu env r ((n,(env.cells.lookup n).getD 0) :: acc) else fu env r acc
theorem jv (env:Env):∀(names:List (Str×NameKind)) (acc:List (Str×Addr)),fu env names acc=fu env names []++acc
 | [],_=>rfl
 | (n,k) :: r,acc=>by
  unfold fu
  split
  ·rw[jv env r (_ :: acc),jv env r [_],dc];rfl
  ·exact jv env r acc
theorem rX (env:Env):∀(names:List (Str×NameKind)) {x:Str} {c:Addr},(x,c)∈fu env names []->(x,NameKind.free)∈names/\c=(env.cells.lookup x).getD 0
 | [],_,_,h=>nomatch h
 | (n,k) :: r,x,c,h=>by
  unfold fu at h
  split at h
  ·rename_i hk
   have ek:k=.free:=by simpa using hk
   subst ek;rw[jv] at h;rcases ay.mp h with h | h
   ·have q:=rX env r h;exact #[cw _ q.1,q.2]
   ·have e:(x,c)=(n,(env.cells.lookup n).getD 0):=by simpa using h
    cases e;exact #[d7,rfl]
  ·have q:=rX env r h;exact #[cw _ q.1,q.2]
theorem jT {α:Type}:∀{l:List (Str×α)} {x:Str} {c:α},(x,c)∈l->∃d,l.lookup x=some d
 | (k,v) :: r,x,c,h=>by
  rw[mL];cases hb:x == k with
  | true=>exact #[v,rfl]
  | false =>
   rcases aI.mp h with e | h
   ·cases e;simp at hb
   ·exact jT h
theorem rY (env:Env):∀(names:List (Str×NameKind)) {x:Str},(x,NameKind.free)∈names->∃c,(x,c)∈fu env names []
 | (n,k) :: r,x,h=>by
  unfold fu;rcases aI.mp h with e | h
  ·cases e;rw[if_pos (),jv];exact #[_,bL _ d7]
  ·obtain c|q:=rY env r h
   split
   ·rw[jv];exact #[c,fb _ q]
   ·exact #[c,q]
theorem AA (h:∀y∈scope.names,y.2=.free->∃c,env.cells.lookup y.1=some c):closureFor scope env=pure (fu env scope.names []):=by
 have gen:∀(names:List (Str×NameKind)) (acc:List (Str×Addr)) (f:Str×NameKind->List (Str×Addr)->Sem (ForInStep (List (Str×Addr)))),
   (∀name kind cells,f (name,kind) cells=if kind == .free then (do let a <- cellOf env name;pure (.yield ((name,a) :: cells))) else pure (.yield cells)) →
   (∀y∈names,y.2=.free->∃c,env.cells.lookup y.1=some c)->forIn names acc f=pure (fu env names acc):=by
  intro names
  induction names with
  | nil=>intro acc f hf _;rw[De];rfl
  | cons y r ih =>
   intro acc f hf hh;obtain n|k:=y;rw[OT,hf];unfold fu;by_cases hk:(k == NameKind.free)=true
   ·obtain c|hc:=hh (n,k) d7 (by simpa using hk);have hc':env.cells.lookup n=some c:=hc;have e:cellOf env n=pure c:=by unfold cellOf;rw[hc']
    rw[if_pos hk,if_pos hk,e,hc'];simp only[pure_bind,Option.getD_some];exact ih _ f hf λy hy=>hh y (cw _ hy)
   ·rw[if_neg hk,if_neg hk];simp only[pure_bind];exact ih _ f hf λy hy=>hh y (cw _ hy)
 simp only[closureFor];rw[gen scope.names [] _ (λname kind cells=>by cases hkc:kind == NameKind.free <;> simp [hkc]) h];rfl
theorem hZ:∀(names:List (Str×NameKind)) (n:Nat) (acc:List (Str×Addr)),cellsFrom n names acc=cellsFrom n names []++acc
 | [],_,_=>rfl
 | (x,k) :: r,n,acc=>by
  unfold cellsFrom
  split
  ·rw[hZ r (n+1) (_ :: acc),hZ r (n+1) [_],dc];rfl
  ·exact hZ r n acc
theorem mI:∀(names:List (Str×NameKind)) (n:Nat) {x:Str} {c:Addr},(x,c)∈cellsFrom n names []->(x,NameKind.cell)∈names
 | [],_,_,_,h=>nomatch h
 | (y,k) :: r,n,x,c,h=>by
  unfold cellsFrom at h
  split at h
  ·rename_i hk
   have ek:k=.cell:=by simpa using hk
   subst ek;rw[hZ] at h;rcases ay.mp h with h | h
   ·exact cw _ (mI r _ h)
   ·have e:(x,c)=(y,n):=by simpa using h
    cases e;exact d7
  ·exact cw _ (mI r _ h)
def xZ (env:Env) (scope:Scope) (C:Addr):Env :=
 { scope:=relabel scope env,locals:=C,globals:=env.globals,cells:=cellsFrom (C+1) scope.names (fu env scope.names []),qual:=env.qual,func:=none,code:=env.code,frame:=env.frame,builtins:=env.builtins }
theorem F2 
  (h:Q (newEnv scope s.heap.objs.size g (cellsFrom (s.6+1) scope.names cl) qual none .none (some env) builtinsNs) { s with heap:=pushCells (s.heap.push { cls:=.type "dict",data:=.dict [].toArray }) scope.names }) :
  wpAny M A (newFunctionEnv scope g cl [] qual none .none (some env)) Q E s:=by
 simp only[newFunctionEnv,Option.isSome_some,if_true];refine wpAny_bind (wpAny_alloc ?_);refine wpAny_bind (wpAny_layCells _ (λname kind cells=>by cases hkc:kind == NameKind.cell <;> simp [hkc]) _ _ _ _ ?_);rw[show ({ s with heap:=s.heap.push { cls:=.type "dict",data:=.dict [].toArray } }:Shared).6=s.6+1 from Heap.size_push ..];rw[De];exact wpAny_bind (wpAny_pure (wpAny_pure h))
theorem v9:∀{k:NameKind},(relabel scope env).names.lookup x=some k->∃k0,scope.names.lookup x=some k0/\(k=k0\/(k0=.free/\k=.cell)):=by
 unfold relabel;show ∀{k:NameKind},(scope.names.map λ(n,k)=>if (k == NameKind.free && env.scope.kind == .function && env.kindOf n == some .cell) then (n,NameKind.cell) else (n,k)).lookup x=some k->_
 induction scope.names with
 | nil=>intro k h;cases h
 | cons y r ih =>
  intro k h;obtain n|k1:=y;rw[iD,mL] at h;rw[mL];by_cases hc:(k1 == NameKind.free && env.scope.kind == .function && env.kindOf n == some .cell)=true
  ·simp only[hc,if_true] at h;cases hb:x == n with
   | true =>
    simp only[hb] at h
    have e1:k1=.free:=by
     rw[fh,fh] at hc;simpa using hc.1.1
    cases h;exact #[k1,rfl,.inr #[e1,rfl]]
   | false=>simp only[hb] at h;exact ih h
  ·have hc':(k1 == NameKind.free && env.scope.kind == .function && env.kindOf n == some .cell)=false:=by simpa using hc
   simp only[hc',jP,if_false] at h;cases hb:x == n with
   | true=>simp only[hb] at h;cases h;exact #[_,rfl,.inl rfl]
   | false=>simp only[hb] at h;exact ih h
theorem FO:scope.names.lookup x=some .free->(relabel scope env).names.lookup x=some .cell\/(relabel scope env).names.lookup x=some .free:=by
 unfold relabel;show _->(scope.names.map λ(n,k)=>if (k == NameKind.free && env.scope.kind == .function && env.kindOf n == some .cell) then (n,NameKind.cell) else (n,k)).lookup x=some .cell\/(scope.names.map λ(n,k)=>if (k == NameKind.free && env.scope.kind == .function && env.kindOf n == some .cell) then (n,NameKind.cell) else (n,k)).lookup x=some .free
 induction scope.names with
 | nil=>intro h;cases h
 | cons y r ih =>
  intro h;obtain n|k1:=y;rw[mL] at h;rw[iD];by_cases hc:(k1 == NameKind.free && env.scope.kind == .function && env.kindOf n == some .cell)=true
  ·simp only[hc,if_true,mL];cases hb:x == n with
   | true=>exact .inl rfl
   | false=>rw[hb] at h;exact ih h
  ·have hc':(k1 == NameKind.free && env.scope.kind == .function && env.kindOf n == some .cell)=false:=by simpa using hc
   simp only[hc',jP,if_false,mL];cases hb:x == n with
   | true=>rw[hb] at h;cases h;exact .inr rfl
   | false=>rw[hb] at h;exact ih h
structure Bz where
 s:Shared
 H:Hp
 fp:List Addr
 C:Addr
def yL (X:Cx) (own capN:List Str) (scope:Scope) (Z:Bz):Cx where
 prog:=X.prog
 w:=X.w
 K:=X.K
 mg:=X.mg
 base:=X.base
 A:=X.A
 N:=own++capN
 s₀:=Z.s
 H₀:=Z.H
 env:=xZ X.env scope Z.C
 outer:=X.stack
 stack:=X.stack
 ex:=Z.fp
 fn:=λx=>own.contains x
 calm:=true
 pn:=[]
 xe:=λ_ _=>False
section
variable {X:Cx} {pins:List (Addr×Obj)} {σ:St} {own capN:List Str} {scope:Scope} {Z:Bz}
theorem j4 (B:Bk X.env scope own capN) (I:Inv X pins σ Z.H Z.s) (h:(xZ X.env scope Z.C).cells.lookup x=some c) :
  (x∈own/\(x,c)∈cellsFrom (Z.C+1) scope.names [])\/(x∈capN/\x∉own/\X.env.cells.lookup x=some c):=by
 have h':(cellsFrom (Z.C+1) scope.names (fu X.env scope.names [])).lookup x=some c:=h;rw[hZ] at h';rcases ay.mp (mem_of_lookup h') with m | m
 ·exact .inl #[(B.cells _ (mI _ _ m) rfl).1,m]
 ·obtain m1|e:=rX _ _ m;obtain q1|q2:=B.frees _ m1 rfl;obtain d|hd:=I.ok.has x (B.caps x q1);rw[hd] at e;exact .inr #[q1,q2,by rw[hd,e];rfl]
theorem QJ (B:Bk X.env scope own capN) (I:Inv X pins σ Z.H Z.s) (hx:x∈capN) (h:X.env.cells.lookup x=some c):(xZ X.env scope Z.C).cells.lookup x=some c:=by
 have hm:(x,NameKind.free)∈scope.names:=mem_of_lookup (B.capf x hx);obtain c1|m1:=rY X.env scope.names hm
 have hs:∃d,(xZ X.env scope Z.C).cells.lookup x=some d:=by
  show ∃d,(cellsFrom (Z.C+1) scope.names (fu X.env scope.names [])).lookup x=some d
  rw[hZ];exact jT (bL _ m1)
 obtain d|hd:=hs;rcases j4 B I hd with ⟨q,m⟩ | ⟨_,_,q⟩
 ·exact absurd hx (B.cells _ (mI _ _ m) rfl).2
 ·rw[h] at q;cases q;exact hd
theorem Lk (h:Heap) (C:Addr) (hC:h.objs.7=C+1) (names:List (Str×NameKind)):CellsOk (pushCells h names) (C+1) (cellsFrom (C+1) names []):=by
 have q:=cellsFrom_ok names h (C+1) [] #[λ_ _ hm=>(nomatch hm),List.Pairwise.nil] (by rw[hC];exact ak _);rwa [hC] at q
theorem EB (I:Inv X pins σ Z.H Z.s) (h:X.env.cells.lookup x=some c):@LT.lt Nat instLTNat c Z.s.6:=by
 obtain v|q:=I.cell x c h;exact q.lt
theorem TF (I:Inv X pins σ Z.H Z.s) (hc:X.calm=true) (B:Bk X.env scope own capN) (hC:Z.s.6<=Z.C) (hcl:CellsOk h1 (Z.C+1) (cellsFrom (Z.C+1) scope.names []))
  (hf:∀b∈Z.fp,md X pins Z.H b/\@LT.lt Nat instLTNat b Z.s.6):(yL X own capN scope Z).Ok:=by
 refine #[I.ok.mod,B.kind,I.ok.glob,I.ok.blt,hC,λx y c h1 h2=>?_,λx hx=>?_,λx c hx h=>?_,λ_=>I.ok.hd hc,I.ok.frames,.inl rfl,λb hb=>#[?_,λx c h=>?_],I.bs,ag I.ok.bsz I.sz,λb o e hb=>?_,λb hb hz=>?_,I.stack,I.stkFree]
 ·rcases j4 B I h1 with ⟨q1,m1⟩ | ⟨q1,n1,m1⟩ <;> rcases j4 B I h2 with ⟨q2,m2⟩ | ⟨q2,n2,m2⟩
  ·exact name_of_addr hcl.apart m1 m2
  ·have l1:=(hcl.empty _ _ m1).2;have l2:=EB I m2
   lia
  ·have l1:=(hcl.empty _ _ m2).2;have l2:=EB I m1
   lia
  ·exact I.ok.inj x y c m1 m2
 ·have hx':(relabel scope X.env).names.lookup x=some .cell\/(relabel scope X.env).names.lookup x=some .free:=hx
  have hk:scope.names.lookup x=some .cell\/scope.names.lookup x=some .free:=by
   rcases hx' with h | h
   ·obtain ⟨k0,e,q | ⟨q,_⟩⟩:=v9 h
    ·exact .inl (by rw[e,<- q])
    ·exact .inr (by rw[e,q])
   ·obtain ⟨k0,e,q | ⟨_,q⟩⟩:=v9 h
    ·exact .inr (by rw[e,<- q])
    ·cases q
  show ∃c,(cellsFrom (Z.C+1) scope.names (fu X.env scope.names [])).lookup x=some c
  rcases hk with h | h
  ·exact Uc.mp (zh scope.names (Z.C+1) _ (.inl h))
  ·obtain c|m:=rY X.env scope.names (mem_of_lookup h);rw[hZ];exact jT (bL _ m)
 ·have ho:x∈own:=by have hx':own.contains x=true:=hx;simpa using hx'
  rcases j4 B I h with ⟨_,m⟩ | ⟨_,n,_⟩
  ·have:=(hcl.empty _ _ m).2;have hC':Z.s.6<=Z.C:=hC;show Z.s.6<=c
   lia
  ·exact absurd ho n
 ·intro e;have e':@Eq Nat b Z.C:=e;have:=(hf b hb).2
  lia
 ·have l:=(hf b hb).2;rcases j4 B I h with ⟨_,m⟩ | ⟨_,_,m⟩
  ·intro e;have e':@Eq Nat c b:=e;have:=(hcl.empty _ _ m).2
   lia
  ·exact (hf b hb).1.2.2.2.2.1 x c m
 ·obtain _|_|_|f3|_:=(hf b hb).1;rcases f3 with f3 | f3
  ·exact I.ok.noex b o e f3
  ·exact absurd (bN (Heap.lt_size e) (ag I.ok.bsz f3)) (fz _)
 ·obtain _|f1|f2|_:=(hf b hb).1;rcases aI.mp (I.stkSub b hz) with e | e
  ·exact f1 e
  ·exact f2 e
def Me (k:Nat) (cap:List Nat) (σ:St):St:=List.replicate k none++cap.map λj=>(σ[j]?).join
def yy (X:Cx) (capN:List Str) (cap:List Nat):Prop:=cap.map (λj=>X.N[j]?)=capN.map some
theorem yy.get (h:yy X capN cap) {i:Nat} (e:capN[i]?=some x):∃j,cap[i]?=some j/\X.N[j]?=some x:=by
 have q:=congrArg (λl=>l[i]?) h;simp only[aD,e,Option.map_some] at q;cases hc:cap[i]? with
 | none=>rw[hc] at q;cases q
 | some j=>rw[hc] at q;exact #[j,rfl,by simpa using q]
theorem Hv (I:Inv X pins σ Z.H Z.s) (B:Bk X.env scope own capN) (hcap:yy X capN cap)
  (kc:∀x c,X.env.cells.lookup x=some c->∀v,Z.s.heap.IsCell c v->h'.IsCell c v) {i:Nat} (e1:(own++capN)[i]?=some x) (e2:(Me own.9 cap σ)[i]?=some (some v)) :
  ∃u,RelV v u/\Look (xZ X.env scope Z.C) h' m x u:=by
 have hi:own.9<=i:=by
  by_cases hi:own.9<=i
  ·exact hi
  ·exfalso
   unfold Me at e2;rw[bG (by simpa using hi),dG] at e2
   split at e2 <;> cases e2
 rw[bc hi] at e1;unfold Me at e2;rw[bc (by simpa using hi),aJ,aD] at e2;obtain j|hj|hN:=hcap.get e1;rw[hj] at e2;have e3:(σ[j]?).join=some v:=by simpa using e2
 have e4:σ[j]?=some (some v):=by
  cases q:σ[j]? with
  | none=>rw[q] at e3;cases e3
  | some o=>rw[q] at e3;simp at e3;rw[e3]
 have hx:x∈capN:=av e1;have hk:=B.caps x hx;obtain m0|_|hl:=I.loc;obtain u|r|l:=hl j x v hN e4 (.inr hk);refine #[u,r,.inr #[FO (B.capf x hx),?_]];rcases l with ⟨hk2,_⟩ | ⟨_,c,hc,z⟩
 ·rcases hk with hk | hk
  ·rw[hk] at hk2;cases hk2
  ·rw[hk] at hk2;cases hk2
 ·exact #[c,QJ B I hx hc,kc x c hc _ z]
theorem Vd (I:Inv X pins σ Z.H Z.s) (h:b∈Mh X.stack):@LT.lt Nat instLTNat b Z.s.6:=by
 obtain _|o|ho|_:=I.stack.mem h;exact Heap.lt_size ho
theorem QG {D:Addr} (I:Inv X pins σ Z.H Z.s) (hc:X.calm=true) (B:Bk X.env scope own capN) (hcap:yy X capN cap) (hC:Z.s.6<=Z.C)
  (hcl:CellsOk h1 (Z.C+1) (cellsFrom (Z.C+1) scope.names [])) (hf:∀b∈Z.fp,md X pins Z.H b/\@LT.lt Nat instLTNat b Z.s.6)
  (hk:∀b o,Z.s.heap.get? b=some o->h1.get? b=some o) (hn:h1.Ns Z.C λ_=>none) (hD:Z.s.6<=D) (hDC:D≠Z.C) (hoD:h1.get? D=some oD) (hdD:∀v,oD.data≠.cell v) :
  Inv (yL X own capN scope Z) [(D,oD)] (Me own.9 cap σ) Z.H { Z.s with heap:=h1,toks:=t1 }:=by
 refine #[TF I hc B hC hcl hf,rfl,I.bare,Un.kept hk,#[_,hn,λi x v e1 e2 _=>Hv I B hcap (λx c _ v z=>z.keeps hk) e1 e2],λx c h=>?_,I.hok.fresh hC,λx c h=>?_,λp hp=>?_,I.hok.kept hk,?_]
 ·rcases j4 B I h with ⟨_,m⟩ | ⟨_,_,m⟩
  ·exact #[none,(hcl.empty _ _ m).1]
  ·obtain v|q:=I.cell x c m;exact #[v,q.keeps hk]
 ·rcases j4 B I h with ⟨_,m⟩ | ⟨_,_,m⟩
  ·exact I.hok.fresh (by have:=(hcl.empty _ _ m).2;lia)
  ·exact I.freeC x c m
 ·have e:p=(D,oD):=by simpa [yL] using hp
  subst e;exact #[hoD,I.hok.fresh hD,hDC,λz=>fz _ (bN (Vd I z) hD),hdD]
 ·show (Me own.9 cap σ).9=(own++capN).9
  have:=congrArg List.length hcap;simp only[af] at this;unfold Me;simp [this]
theorem OE {σ':St} (I:Inv X pins σ Z.H Z.s) (B:Bk X.env scope own capN) (hcap:yy X capN cap) (hf:∀b∈Z.fp,md X pins Z.H b/\@LT.lt Nat instLTNat b Z.s.6)
  (J:Inv (yL X own capN scope Z) pins' σ' H' s'):Inv (yL X own capN scope Z) pins' (Me own.9 cap σ) H' s':=by
 refine #[J.ok,J.os,J.bare,J.base,?_,J.cell,J.free,J.freeC,J.pin,J.hok,?_]
 ·obtain m|hn|_:=J.loc;refine #[m,hn,λi x v e1 e2 _=>Hv I B hcap (λx c hx v z=>?_) e1 e2];obtain o|ho|hd:=z;obtain sl|e:=J.base.any ho (I.freeC x c hx) λz=>(hf c z).1.2.2.2.2.1 x c hx rfl
  exact #[_,e,hd]
 ·show (Me own.9 cap σ).9=(own++capN).9
  have:=congrArg List.length hcap;simp only[af] at this;unfold Me;simp [this]
theorem QI {σ':St} {D:Addr} (I:Inv X pins σ Z.H Z.s) (hf:∀b∈Z.fp,md X pins Z.H b/\@LT.lt Nat instLTNat b Z.s.6) (hD:Z.s.6<=D)
  (J:Inv (yL X own capN scope Z) [(D,{ cls:=.type "list",data:=.seq its.toArray n })] σ' H' s') (r:dg ys its) (hz:ys.9<=sizeLine) :
  Inv X pins σ (upd H' D (.lst ys)) s':=by
 have pD:=J.pin (D,{ cls:=.type "list",data:=.seq its.toArray n }) (by simp);have ne:∀{b:Addr} {o:Obj},Z.s.heap.get? b=some o->b≠D:=λe z=>by subst z;exact fz _ (bN (Heap.lt_size e) hD)
 have nt:∀{b:Addr} {u:HO},H' b=some u->b≠D:=λe z=>by rw[z,pD.2.1] at e;cases e
 refine I.call' (ch:=Z.fp) J.os #[J.base.keep,J.base.slot,λb o e h hx=>?_,J.base.there,λb xs e=>?_,λb o u e=>?_,λb ps e=>?_] (λb u e=>?_) J.bare λb hb=>?_
 ·rw[bo (ne e)];exact J.base.free b o e h hx
 ·have q:=J.base.tups b xs e;rw[bo (nt q)];exact q
 ·have q:=J.base.frzs b o u e;rw[bo (nt q)];exact q
 ·obtain more|q:=J.base.tbls b ps e;exact #[more,by rw[bo (nt q)];exact q]
 ·by_cases hb:b=D
  ·subst hb;rw[aG] at e;cases e;exact #[hz,its,n,r,pD.1]
  ·rw[bo hb] at e;exact (J.hok b u e).stay (λc v _ q=>q) (λc q=>by rw[bo (nt q)];exact q) λc xs q=>by rw[bo (nt q)];exact q
 ·obtain _|f1|_|f3|f4|f5:=(hf b hb).1;exact #[f3,f1,f4,f5]
end
theorem RW {t:Sem α} {Q Q':α->Shared->Prop} (h:wpAny M A t Q (λ_ _=>False) s) (hQ:∀a s,Q a s->Q' a s):wpAny M A t Q' E s :=
 wpAny_mono h hQ λ_ _ z=>False.elim z
theorem Ez (I:Nat->Shared->Prop)
  (turn:∀(E:Value->Shared->Prop) n s,I n s->wpAny (model prog w) A (pyNext it) (λr s₁=>match r with
   | none=>R (.ok .next) s₁
   | some v=>wpAny (model prog w) A (letOwnedTupleGo target it v) (λ_ s₂=>wpAny (model prog w) A (assign target env v) (λ_ s₃ =>
     wpAny (model prog w) A (forIn ifs true λc r=>if r=true then do let ok <- isTrue c env (eval c env);pure (ForInStep.yield ok) else pure (ForInStep.yield r)) (λok s₄ =>
      if ok=true then wpAny (model prog w) A (eval elt env) (λx s₅=>wpAny (model prog w) A (call (.builtin "list.append") [acc,x]) (λ_ s₆=>∃m,m < n/\I m s₆) E s₅) E s₄
      else ∃m,m < n/\I m s₄) E s₃) E s₂) E s₁) E s)
  (n:Nat) (h:I n s):codeAny (model prog w) A (.compLoop (.ListComp elt [#[target,iter,ifs,0]] scope pos) 0 it acc env) R s:=by
 refine codeAny_loop rfl I (λn s hI=>?_) n h;show wpAny _ A ((compTurn (.ListComp elt [#[target,iter,ifs,0]] scope pos) 0 it acc env).onRaise (λx=>do noteFrame x env;theTreesLotGoes x)) _ _ s
 refine wpAny_noted ?_;rw[compTurn_list];refine wpAny_bind (wpAny_standAt (wpAny_bind (wpAny_mono (turn _ n s hI) (λr s₁ h₁=>?_) λ_ _ h'=>h')));cases r with
 | none=>exact wpAny_pure h₁
 | some v =>
  refine wpAny_bind (wpAny_mono h₁ (λ_ s₂ h₂=>wpAny_bind (wpAny_mono h₂ (λ_ s₃ h₃=>wpAny_bind (wpAny_mono h₃ (λok s₄ h₄=>?_) λ_ _ h'=>h')) λ_ _ h'=>h')) λ_ _ h'=>h');cases ok with
  | false=>exact wpAny_pure #[rfl,h₄]
  | true =>
   exact wpAny_bind (wpAny_bind (wpAny_mono h₄ (λx s₅ h₅=>wpAny_bind (wpAny_mono h₅ (λ_ s₆ h₆=>wpAny_pure (wpAny_pure #[rfl,h₆])) λ_ _ h'=>h')) λ_ _ h'=>h'))
def PF (X:Cx) (ifs:List Expr) (t:TT):Prop :=
 ∀(pins:List (Addr×Obj)) (s:Shared) (σ:St) (H:Hp) (Q:Bool->Hp->Prop),Inv X pins σ H s->t σ H Q →
  wpAny (model X.prog X.w) X.A (forIn ifs true λc r=>if r=true then do let ok <- isTrue c X.env (eval c X.env);pure (ForInStep.yield ok) else pure (ForInStep.yield r)) (TP X pins σ Q) X.xe s
def Ui:TT:=λ_ H Q=>Q true H
theorem bZ:PF X [] Ui:=λ_ _ _ H _ I h=>wpAny_tests_nil #[H,I,h]
theorem IP (h:PT X c t):PF X [c] t:=λpins s σ H Q I hw=>wpAny_tests_one (h pins s σ H Q I hw)
def sR (σ₀:St) (g:TG) (tf:TT) (te:TE) (x:V) (H:Hp) (NY:V->Hp->Prop) (NN:Hp->Prop):Prop :=
 g x σ₀ H λσ2 H2=>tf σ2 H2 λb H3=>if b=true then te σ2 H3 NY else NN H3
def uK (J:It) (σ₀:St) (g:TG) (tf:TT) (te:TE) (Q:VK) (H1:Hp):Prop :=
 ∃W:Nat->Nat->List V->Hp->Prop,(∃m,W 0 m [] H1)/\∀i m ys H,W i m ys H →
  (J.stop i H/\ys.9<=sizeLine/\∀p,H p=none->Q (.ref p) (upd H p (.lst ys))) \/
  (J.go i H/\ys.9 < sizeLine/\∃(NY:V->Hp->Prop) (NN:Hp->Prop),(∀y H',NY y H'->∃m',m' < m/\W (i+1) m' (ys++[y]) H')/\(∀H',NN H'->∃m',m' < m/\W (i+1) m' ys H') /\
   ∀x H',J.yld i H x H'->sR σ₀ g tf te x H' NY NN)
def Fd (wi:TI) (k:Nat) (cap:List Nat) (g:TG) (tf:TT) (te:TE):TE:=λσ H Q=>wi σ H λJ H1=>uK J (Me k cap σ) g tf te Q H1
abbrev lobj (its:List Value) (n:Nat):Obj:={ cls:=.type "list",data:=.seq its.toArray n }
section
variable {X:Cx} {own capN:List Str} {cap:List Nat} {scope:Scope} {elt tg iter:Expr} {ifs:List Expr} {pos:Pos} {wi:TI} {g:TG} {tf:TT} {te:TE}
theorem CW (hc:X.calm=true) (B:Bk X.env scope own capN) (hcap:yy X capN cap)
  (hi:PI X tg iter wi) (hg:∀Z,PG (yL X own capN scope Z) tg g) (hf:∀Z,PF (yL X own capN scope Z) ifs tf) (he:∀Z,PE (yL X own capN scope Z) elt te)
  (hs:∀x,foldedSetIterable iter X.env x=pure x) {σ:St} (I:Inv X pins σ H s) (h:Fd wi own.9 cap g tf te σ H Q)
  (fin:∀(D C:Addr) (s':Shared) (H':Hp),Inv X pins σ H' s'->md X pins H' C->(∃m,s'.heap.Ns C m)->Q (.ref D) H'->compPost (model X.prog X.w) X.A X.xe use Qe (.ref D) C (.ok .next) s') :
  wpAny (model X.prog X.w) X.A (comprehension (.ListComp elt [#[tg,iter,ifs,0]] scope pos) scope X.env fpos (newList []) false (eval iter X.env) use) Qe X.xe s:=by
 refine wpAny_comprehension_free (use:=use) rfl hs (AA λy hy hk=>I.ok.has y.1 (B.caps _ (B.frees y hy hk).1)) B.kind B.locs ?_;refine iG (hi pins s σ H _ I h) λv s1 h1=>iG h1 λitv s2 h2=>?_
 obtain it|fp|tn|J|H2|e|I2|T|st2|f2|W|⟨m0,w0⟩|turn:=h2;subst e;have hfp:∀b∈fp,md X pins H2 b/\@LT.lt Nat instLTNat b s2.6:=λb hb=>#[f2 b hb,let ⟨_,e,_⟩:=T.obj _ _ st2 b hb;Heap.lt_size e]
 refine wpAny_newObj_type (F2 ?_) (br _);have es:(s2.heap.push { cls:=.type "list",data:=.seq ([]:List Value).5 }).objs.size=s2.6+1:=Heap.size_push ..
 show codeAny _ _ (.compStart _ 0 (.ref it) (.ref s2.6) { newEnv scope (s2.heap.push { cls:=.type "list",data:=.seq ([]:List Value).5 }).objs.size X.env.globals (cellsFrom ((s2.heap.push { cls:=.type "list",data:=.seq ([]:List Value).5 }).objs.size+1) scope.names (fu X.env scope.names [])) X.env.qual none .none (some X.env) builtinsNs with scope:=relabel scope X.env })
  (compPost (model X.prog X.w) X.A X.xe use Qe (.ref s2.6) (s2.heap.push { cls:=.type "list",data:=.seq ([]:List Value).5 }).objs.size)
  { s2 with heap:=pushCells ((s2.heap.push { cls:=.type "list",data:=.seq ([]:List Value).5 }).push { cls:=.type "dict",data:=.dict [].toArray }) scope.names }
 have hk1:∀b o,(s2.heap.push { cls:=.type "list",data:=.seq ([]:List Value).5 }).get? b=some o->(pushCells ((s2.heap.push { cls:=.type "list",data:=.seq ([]:List Value).5 }).push { cls:=.type "dict",data:=.dict [].toArray }) scope.names).get? b=some o :=
  λb o e=>pushCells_keeps _ _ _ _ (Heap.get?_push_of_some _ e)
 have hk:∀b o,s2.heap.get? b=some o->(pushCells ((s2.heap.push { cls:=.type "list",data:=.seq ([]:List Value).5 }).push { cls:=.type "dict",data:=.dict [].toArray }) scope.names).get? b=some o:=λb o e=>hk1 b o (Heap.get?_push_of_some _ e)
 have hoD:=hk1 s2.heap.objs.size _ (Heap.get?_push_size s2.heap (o:={ cls:=.type "list",data:=.seq ([]:List Value).5 }) rfl);have hn:=(Heap.Ns.new (s2.heap.push { cls:=.type "list",data:=.seq ([]:List Value).5 }) (.type "dict")).keeps (pushCells_keeps scope.names _);have hcl:=Lk ((s2.heap.push { cls:=.type "list",data:=.seq ([]:List Value).5 }).push { cls:=.type "dict",data:=.dict [].toArray }) (s2.6+1) (by rw[Heap.size_push,es]) scope.names;rw[es] at hn ⊢;generalize pushCells ((s2.heap.push { cls:=.type "list",data:=.seq ([]:List Value).5 }).push { cls:=.type "dict",data:=.dict [].toArray }) scope.names=h3 at hk hoD hn hcl ⊢;have Z:Bz:=#[s2,H2,fp,s2.6+1]
 have I3:Inv (yL X own capN scope #[s2,H2,fp,s2.6+1]) [(s2.6,lobj [] 0)] (Me own.9 cap σ) H2 { s2 with heap:=h3 } :=
  QG (Z:=#[s2,H2,fp,s2.6+1]) (t1:=s2.toks) I2 hc B hcap (kY _) hcl hfp hk hn (ak _) (cI (gE _)) hoD (λv z=>nomatch z)
 have st3:tn 0 h3:=T.keep _ _ _ st2 λb _ o e=>hk b o e
 have loop:codeAny (model X.prog X.w) X.A (.compLoop (.ListComp elt [#[tg,iter,ifs,0]] scope pos) 0 (.ref it) (.ref s2.6) (xZ X.env scope (s2.6+1))) (compPost (model X.prog X.w) X.A X.xe use Qe (.ref s2.6) (s2.6+1)) { s2 with heap:=h3 }:=by
  refine Ez (λm s'=>∃i ys σ' H' its n,Inv (yL X own capN scope #[s2,H2,fp,s2.6+1]) [(s2.6,lobj its n)] σ' H' s'/\tn i s'.8/\(∀b∈fp,H' b=none)/\dg ys its/\W i m ys H') ?_ m0
   #[0,[],_,H2,[],0,I3,st3,λb hb=>(f2 b hb).1,.nil,w0]
  rintro E n s4 ⟨i,ys,σ4,H4,its,k,I4,st4,fr4,rv,w4⟩
  have fpo:∀{pp:List (Addr×Obj)} {H':Hp},(∀p∈pp,p.1=s2.6)->(∀b∈fp,H' b=none)->∀b∈fp,md (yL X own capN scope #[s2,H2,fp,s2.6+1]) pp H' b:=λ{pp H'} hpp hn b hb=>by
   obtain e1|e2:=I4.ok.exf b hb;refine #[hn b hb,e1,I4.ok.exfs b hb,.inl hb,e2,λp hp=>?_];have hp':p∈pp:=by simpa [yL] using hp
   have l:=(hfp b hb).2;rw[hpp p hp'];exact λz=>fz _ (by rw[<- z] at l;exact l)
  have pinD:∀{its:List Value} {n:Nat},∀p∈[(s2.6,lobj its n)],p.1=s2.6:=λp hp=>by simp at hp;rw[hp]
  rcases turn i n ys H4 w4 with ⟨stop,hz,q⟩ | ⟨go,hlt,NY,NN,hNY,hNN,step⟩
  ·refine iG (T.done (yL X own capN scope #[s2,H2,fp,s2.6+1]) rfl rfl rfl rfl i _ s4 σ4 H4 E I4 (fpo pinD fr4) st4 stop) λr s5 #[hr,I5]=>?_
   subst hr;have pD:=I5.pin (s2.6,lobj its k) (by simp);have I6:=QI (Z:=#[s2,H2,fp,s2.6+1]) I2 hfp (ak _) I5 rv hz
   have hC:upd H4 s2.heap.objs.size (.lst ys) (s2.6+1)=none:=by
    rw[bo (KO (gE _))];exact I5.free
   obtain m|hm|_:=I5.loc;exact fin _ _ s5 _ I6 (I2.fpOk (kY _) hC) #[m,hm] (q _ pD.2.1)
  ·refine iG (T.item (yL X own capN scope #[s2,H2,fp,s2.6+1]) rfl rfl rfl rfl i _ s4 σ4 H4 E I4 (fpo pinD fr4) st4 go) λr s5 #[u,hr,h5]=>?_
   subst hr;refine iG h5 λ_ s6 #[x,H6,I6,r6,y6,st6,fr6]=>?_
   have I6':=(OE (Z:=#[s2,H2,fp,s2.6+1]) I2 B hcap hfp I6).pinned (fpo pinD fr6) (T.obj _ _ st6)
   have back:∀{σ7:St} {H7:Hp} {s7:Shared},Inv (yL X own capN scope #[s2,H2,fp,s2.6+1]) ([(s2.6,lobj its k)]++Ab fp s6.8) σ7 H7 s7 →
     Inv (yL X own capN scope #[s2,H2,fp,s2.6+1]) [(s2.6,lobj its k)] σ7 H7 s7/\tn (i+1) s7.8/\∀b∈fp,H7 b=none:=λ{σ7 H7 s7} I7=>by
    refine #[I7.unpinned,T.keep _ _ _ st6 λb hb o e=>(I7.pin (b,o) (bL _ (bL _ (rS hb e)))).1,λb hb=>?_];obtain o|e|d:=T.obj _ _ st6 b hb;exact (I7.pin (b,o) (bL _ (bL _ (rS hb e)))).2.1
   refine RW (hg _ _ s6 _ H6 x u _ I6' r6 (step x H6 y6)) λ_ s7 #[σ7,H7,I7,q7]=>?_
   refine RW (hf _ _ s7 σ7 H7 _ I7 q7) λok s8 #[H8,I8,q8]=>?_
   cases ok with
   | false =>
    rw[if_neg bA] at q8 ⊢;obtain m'|hm|w8:=hNN H8 q8;obtain J1|J2|J3:=back I8;exact #[m',hm,i+1,ys,σ7,H8,its,k,J1,J2,J3,rv,w8]
   | true =>
    rw[if_pos rfl] at q8 ⊢;refine RW (he _ _ s8 σ7 H8 _ I8 q8) λz s9 #[y,H9,I9,r9,q9]=>?_
    obtain J1|J2|J3:=back I9;obtain m'|hm|w9:=hNY y H9 q9;have pD:=J1.pin (s2.6,lobj its k) (by simp);have hl:=rv.9;refine call_meets F.slot_list_append #[_,pD.1,rfl] F.entry_list_append (F.args_list_append_2 _ _) (PySem.list_append s2.heap.objs.size its.toArray k z (by rw[aN];lia)) #[pD.1,?_];have e9:=mK pD.1 (λa=>a.push z);have e9':(its.toArray.push z)=(its++[z]).5:=by simp
    rw[e9'] at e9;obtain ⟨n',e9⟩:∃n',(s9.heap.update s2.heap.objs.size (Obj.mapSeq λa=>a.push z)).get? s2.6=some (lobj (its++[z]) n'):=#[_,e9]
    have J4:Inv (yL X own capN scope #[s2,H2,fp,s2.6+1]) [] σ7 H9 { s9 with heap:=s9.heap.update s2.heap.objs.size (Obj.mapSeq λa=>a.push z),toks:=s9.toks } :=
     (J1.pins_of (pins':=[]) λp hp=>nomatch hp).turned (λb o hb e=>(Heap.get?_update_other s9.heap _ (Ne.symm hb)).trans e) pD.2.1 pD.2.2.1 (.inr (ak _)) (λx c hx z=>by
      rcases j4 (Z:=⟨s2,H2,fp,s2.6+1⟩) B I2 hx with ⟨_,m⟩ | ⟨_,_,m⟩
      ·have:=(hcl.empty _ _ m).2;have z':@Eq Nat c s2.6:=z
       lia
      ·have:=EB (Z:=#[s2,H2,fp,s2.6+1]) I2 m;rw[z] at this;exact fz _ this) λp hp=>by simp [yL] at hp
    have nfp:∀b∈fp,b≠s2.6:=λb hb z=>by have:=(hfp b hb).2;rw[z] at this;exact fz _ this
    refine #[m',hm,i+1,ys++[y],σ7,H9,its++[z],n',J4.pins_of λp hp=>?_,T.keep _ _ _ J2 λb hb o e=>(Heap.get?_update_other s9.heap _ (Ne.symm (nfp b hb))).trans e,J3,rv.append (.cons r9 .nil),w9];have ep:p=(s2.6,lobj (its++[z]) n'):=by simpa using hp
    rw[ep];exact #[e9,pD.2.1,pD.2.2.1,pD.2.2.2.1,λv z=>nomatch z]
 exact codeAny_compStart_list loop (T.self _ _ _ _ _ st3 loop)
theorem bX (own capN:List Str) (cap:List Nat) (hi:PI X tg iter wi) (hg:∀Z,PG (yL X own capN scope Z) tg g) (hf:∀Z,PF (yL X own capN scope Z) ifs tf) (he:∀Z,PE (yL X own capN scope Z) elt te)
  (h1:VD scope own capN=true:=by decide +kernel) (h2:CZ X.env capN=true:=by rfl) (hcap:yy X capN cap:=by rfl) (hc:X.calm=true:=by rfl) (hs:∀x,foldedSetIterable iter X.env x=pure x:=by intro _;rfl) :
  PE X (.ListComp elt [#[tg,iter,ifs,0]] scope pos) (Fd wi own.9 cap g tf te):=by
 intro pins s σ H Q I h;rw[eval_ListComp];refine CW (use:=none) hc (Bk.of h1 h2) hcap hi hg hf he hs I h λD C s' H' I' fC hm q=>?_
 obtain m|hm:=hm;refine #[m,hm,λh' hs'=>?_];obtain f0|f1|f2|f3|f4|f5:=fC;exact #[.ref D,H',I'.turned (t':=s'.toks) (λb o hb e=>(hs'.2 b hb).trans e) f0 f1 f3 f4 f5,rfl,q]
theorem iY (i:Nat) (own capN:List Str) (cap:List Nat) {x:Str} {pos' spos:Pos} (hN:X.N.Nodup) (hi':X.N[i]?=some x) (hx:X.env.scope.names.lookup x=some .local) (hi:PI X tg iter wi) (hg:∀Z,PG (yL X own capN scope Z) tg g) (hf:∀Z,PF (yL X own capN scope Z) ifs tf) (he:∀Z,PE (yL X own capN scope Z) elt te)
  (h1:VD scope own capN=true:=by decide +kernel) (h2:CZ X.env capN=true:=by rfl) (hcap:yy X capN cap:=by rfl) (hc:X.calm=true:=by rfl) (hs:∀x,foldedSetIterable iter X.env x=pure x:=by intro _;rfl)
  (hsw:swapsWith (.ListComp elt [#[tg,iter,ifs,0]] scope pos) (some (.Name x pos')) spos.line X.env=pure true:=by rfl) :
  PS X (.Assign [.Name x pos'] (.ListComp elt [#[tg,iter,ifs,0]] scope pos) spos) (MG (Fd wi own.9 cap g tf te) (CK i)):=by
 intro pins s σ H D I h;rw[exec_Assign_Name_used _ _ _ _ hsw];refine wpAny_bind (wpAny_standAt (wpAny_bind ?_));rw[arm_evalThenUse_ListComp];refine wpAny_bind (CW (Q:=λv H1=>D.nx (σ.set i (some v)) H1) (use:=some _) hc (Bk.of h1 h2) hcap hi hg hf he hs I h λL C s' H' I' fC hm q=>?_);obtain m|hm:=hm;obtain f0|f1|f2|f3|f4|f5:=fC;refine wpAny_assign_Name (BU I' hN hi' (.inl hx) (v:=.ref L) rfl (λs'' I'' #[a,sb,ha]=>?_) (.inr hx))
 have hCa:C≠a:=by
  rcases ha with e | e
  ·rw[e];exact f1
  ·exact (f4 x a e).symm
 refine #[m,hm.at' λo e=>(sb.2 C hCa).trans e,λh' hs'=>?_];have I3:=I''.turned (h':=h') (t':=s''.toks) (λb o hb e=>(hs'.2 b hb).trans e) f0 f1 f3 f4 f5;exact wpAny_pure (wpAny_pure #[_,H',I3,q])
end
section
variable {K:FG9}
theorem eB (Pv:Nat->List V->Hp->Prop) (hz:xs.9<=sizeLine) (h0:Pv 0 [] H) (hl:∀i ys H,i<=xs.9->Pv i ys H->bE K H a xs)
  (hs:∀i x ys H,xs[i]?=some x->ys.9<=i->Pv i ys H->sR σ₀ g tf te x H (λy H'=>Pv (i+1) (ys++[y]) H') (λH'=>Pv (i+1) ys H'))
  (hd:∀ys H,ys.9<=xs.9->Pv xs.9 ys H->∀p,H p=none->Q (.ref p) (upd H p (.lst ys))):uK (QW K a) σ₀ g tf te Q H:=by
 refine #[λi m ys H=>m=xs.9 - i/\i<=xs.9/\ys.9<=i/\Pv i ys H,#[xs.9,by simp,br _,br _,h0],?_];rintro i m ys H ⟨rfl,hi,hy,p⟩;have q:=hl i ys H hi p;by_cases hlt:i < xs.9
 ·refine .inr #[#[xs,xs[i],q,by simp [hlt]],(),λy H'=>Pv (i+1) (ys++[y]) H',λH'=>Pv (i+1) ys H',λy H' p'=>#[xs.9 - (i+1),(),rfl,hlt,by rw[ar,a9];lia,p'],λH' p'=>#[xs.9 - (i+1),(),rfl,hlt,(),p'],λx H' y=>?_];obtain e|y:=y;subst e;exact hs i x ys _ (y xs q) hy p
 ·have e:i=xs.9:=()
  subst e;exact .inl #[#[xs,q,ak _],(),hd ys H hy p]
theorem rW {lo:Int} (Pv:Nat->List V->Hp->Prop) (hz:n<=sizeLine) (h0:Pv 0 [] H)
  (hs:∀i ys H,i < n->ys.9<=i->Pv i ys H->sR σ₀ g tf te (.int (lo+i)) H (λy H'=>Pv (i+1) (ys++[y]) H') (λH'=>Pv (i+1) ys H'))
  (hd:∀ys H,ys.9<=n->Pv n ys H->∀p,H p=none->Q (.ref p) (upd H p (.lst ys))):uK (Io lo n) σ₀ g tf te Q H:=by
 refine #[λi m ys H=>m=n - i/\i<=n/\ys.9<=i/\Pv i ys H,#[n,by simp,br _,br _,h0],?_];rintro i m ys H ⟨rfl,hi,hy,p⟩;by_cases hlt:i < n
 ·refine .inr #[hlt,(),λy H'=>Pv (i+1) (ys++[y]) H',λH'=>Pv (i+1) ys H',λy H' p'=>#[n - (i+1),(),rfl,hlt,by rw[ar,a9];lia,p'],λH' p'=>#[n - (i+1),(),rfl,hlt,(),p'],λx H' y=>?_];obtain e|y:=y;subst e y;exact hs i ys _ hlt hy p
 ·have e:i=n:=()
  subst e;exact .inl #[ak _,(),hd ys H hy p]
end
open Nm
def jl (i j:Int):Prop:=T1 i j\/∃m n,Sz m i/\Sz n j/\m+n<=1000000
def qH (i j:Int):Prop:=j≠0/\Sz 8999 j
theorem AE (h:Sz k i):Builtin.Int.intBits i<=k:=by
 unfold Builtin.Int.intBits;by_cases e:i=0
 ·subst e;simp
 ·have e':(i == 0)=false:=by simpa using e
  rw[e'];have hn:i.natAbs≠0:=()
  have:=(Nat.log2_lt hn).mpr h;simp only[jP,if_false]
  lia
theorem jl.ok (h:jl i j):IntMulOk i j:=by
 rcases h with h | ⟨m,n,h1,h2,h3⟩
 ·exact h.ok
 ·have e:(2:Nat)^20=1048576:=()
  exact .of_bits (by have:=AE h1;lia) (by have:=AE h2;lia)
section
variable {X:Cx} {a b:Expr} {ta tb:TE} {pos:Pos}
theorem dQ:xc X (binaryOp .Mult) (rI jl λi j=>.int (i*j)):=VB λ_ _ _ _ _ _ _ hc q=>mul_int q hc.ok
theorem jD:xc X (binaryOp .FloorDiv) (rI qH λi j=>.int (i.fdiv j)):=VB λi j _ _ _ _ _ hc q=>by
 refine floordiv_int hc.1 q (.inl (PyProof.noPylong_of_log2 ?_));have hn:j.natAbs≠0:=by have:=hc.1;lia
 have:=(Nat.log2_lt hn).mpr hc.2
 lia
def Uk (t u:TS):TS:=λD σ H=>∃N:St->Hp->Prop,t { D with nx:=N } σ H/\∀σ' H',N σ' H'->u D σ' H'
theorem iQ {st:Stmt} (h1:PS X st t) (h2:Im X rest u):Im X (st :: rest) (Uk t u):=by
 intro pins s σ H D I h;obtain N|h|k:=h;refine wpAny_execs_cons (iG (h1 pins s σ H { D with nx:=N } I h) λf s1 q=>?_);cases f with
 | next =>
  obtain σ'|H'|I'|q:=q;exact h2 pins s1 σ' H' D I' (k _ _ q)
 | ret v=>exact q
 | brk=>exact q
 | cont=>exact q
def Rl (K:FG9):V->V->Hp->VK->Prop:=λo i H Q=>∃p xs k v,o=.ref p/\i=.int k/\bE K H p xs/\Il xs k=some v/\Q v H
theorem NZ:Vn X (Rl X.K):=by
 intro pins s σ H o i ov iv Q I ro ri h;obtain p|xs|k|z|rfl|rfl|hq|he|q:=h;cases ro;obtain t|rfl:=ri;obtain its|r|pl|hz:=I.list hq;obtain j|h1|h2|h3|h4|h5:=EC he;obtain w|ew|rw':=r.get h2;have hl:=r.9;have hn:=Ar;have fin:EP X pins σ Q w s:=#[z,H,I,rw',q];by_cases h0:0<=k
 ·have hj:k.toNat=j:=by
   rw[seqIndex_of h0 h5] at h1;exact cg h1
  exact wpAny_getItem_list pl.isList h0 () (by rw[hj];simpa using ew) fin
 ·have hj:(k+(its.5.7:Int)).toNat=j:=by
   rw[seqIndex_neg () h4] at h1;rw[aN,<- hl];exact cg h1
  exact wpAny_getItem_list_neg pl.isList () (by rw[aN] <;> lia) () (by rw[hj];simpa using ew) fin
def Ld (K:FG9) (T:String):V->Hp->VK->Prop:=λx H Q=>∃t b,yc K H x t/\PySem.W.kitOne K t (.type T)=some b/\Q (.bl b) H
theorem Ac {c:Str} {T:String} {p p2:Pos} (hg:Gl X "isinstance") (hm:X.mg "isinstance"=none) (hb:bootBuiltins c=some (.type T)) (hmc:X.mg c=none) (ha:PE X a ta) (hgc:Gl X c:=by rfl) (hn:c≠"__name__":=by decide)
  (hd:(c == ("__debug__":Str))=false:=by decide) (he:starEach [a,.Name c p2] X.env=[(false,eval a X.env),(false,eval (.Name c p2) X.env)]:=by rfl)
  (hpl:(backTo pos (starEach [.Name c p2] X.env)).any (·.1)=false:=by rfl) (he2:starEach [.Name c p2] X.env=[(false,eval (.Name c p2) X.env)]:=by rfl):PE X (.Call (.Name "isinstance" p) [a,.Name c p2] [] pos) (VA (Ld X.K T) ta):=by
 intro pins s σ H Q I h;refine wpAny_Call_Name_kw (lZ I hg hm PyProof.Rows.boot_isinstance ?_);have hA:PA X [a,.Name c p2] (jC ta (jC (tC (.ty T)) AS)):=fV ha (fV (Kh hgc hmc hb rfl hn hd) ir he2) (by rw[he,he2])
 have hq:jC ta (jC (tC (.ty T)) AS) σ H (λvs H1=>∃x,vs=[x,.ty T]/\Ld X.K T x H1 Q):=by
  show ta σ H λx H1=>∃x',[x,V.ty T]=[x',V.ty T]/\Ld X.K T x' H1 Q
  have e:(λx H1=>∃x',[x,V.ty T]=[x',V.ty T]/\Ld X.K T x' H1 Q)=λx H1=>Ld X.K T x H1 Q:=by
   funext x H1;apply propext;constructor
   ·rintro ⟨x',e,q⟩;cases e;exact q
   ·intro q;exact #[x,rfl,q]
  rw[e];exact h
 refine PyProof.Rows.callWith_builtin1 (iG (hA pos pins s σ H _ I hq) λus s1 #[vs,H1,I1,r1,x,e,q1]=>?_) (by rw[he,he2]) hpl;subst e;obtain u|w'|rfl|ru|rt:=vals2 r1;cases rt;obtain t|bb|ty|ek|q:=q1;exact CI I1 ru ty ek λtk=>#[.bl bb,H1,I1.tok tk,rfl,q]
end
structure Kind (α:Type) [DecidableEq α] where
 R:FG9->Hp->V->α->Prop
 d:Nat
 inj:∀{X:Cx} {pins:List (Addr×Obj)} {σ:St} {H:Hp} {s:Shared} {x:V} {a b:α},Inv X pins σ H s->R X.K H x a->R X.K H x b->a=b
 rc:∀{X:Cx} {pins:List (Addr×Obj)} {σ:St} {H:Hp} {s:Shared} {x y:V} {v u:Value} {a b:α} {A:Around},Inv X pins σ H s->RelV x v->RelV y u->R X.K H x a->R X.K H y b->A.units+d < cLine->SeqAt.RcAt A s v u (decide (a=b))
 ne:∀{X:Cx} {pins:List (Addr×Obj)} {σ:St} {H:Hp} {s:Shared} {x y:V} {v u:Value} {a b:α} {A:Around},Inv X pins σ H s->RelV x v->RelV y u->R X.K H x a->R X.K H y b->A.units+d < cLine->SeqAt.RcNeAt A s v u (!decide (a=b))
 eq:∀{X:Cx} {pins:List (Addr×Obj)} {σ:St} {H:Hp} {s:Shared} {x y:V} {v u:Value} {a b:α} {A:Around},Inv X pins σ H s->RelV x v->RelV y u->R X.K H x a->R X.K H y b->A.units+d < cLine->SeqAt.EqAt A s v u (decide (a=b))
def Tg:Kind Int where
 R:=λ_ _ x i=>x=.int i
 d:=0
 inj:=λ_ h1 h2=>by rw[h1] at h2;cases h2;rfl
 rc:=λ{X pins σ H s x y v u a b A} I rx ry h1 h2 _=>by
  subst h1 h2;obtain t|rfl:=rx;obtain t'|rfl:=ry;have q:=SeqAt.RcAt.int_int (A:=A) (s:=s) a t b t';rwa [AR] at q
 ne:=λ{X pins σ H s x y v u a b A} I rx ry h1 h2 _=>by
  subst h1 h2;obtain t|rfl:=rx;obtain t'|rfl:=ry;have q:=SeqAt.RcNeAt.int_int (A:=A) (s:=s) a t b t';rwa [AR] at q
 eq:=λ{X pins σ H s x y v u a b A} I rx ry h1 h2 _=>by
  subst h1 h2;obtain t|rfl:=rx;obtain t'|rfl:=ry;have q:=SeqAt.EqAt.int_int (A:=A) (s:=s) a t b t';rwa [AR] at q
theorem lO {α β:Type} {F:α->β->Prop}:∀{l1:List α} {l2:List β} {i:Nat} (_:Paired F l1 l2) (h1:i < l1.9) (h2:i < l2.9),F l1[i] l2[i]
 | _,_,_,.nil,h1,_=>absurd h1 (dP _)
 | _,_,0,.cons r _,_,_=>r
 | _,_,i+1,.cons _ t,h1,h2=>lO (i:=i) t (Nat.lt_of_succ_lt_succ h1) (Nat.lt_of_succ_lt_succ h2)
theorem oE {α β:Type} {F:α->β->Prop} (hF:∀a b x,F a x->F b x->a=b):∀{l1 l2:List α} {l:List β},Paired F l1 l->Paired F l2 l->l1=l2
 | _,_,_,.nil,.nil=>rfl
 | _,_,_,.cons r t,.cons r' t'=>by rw[hF _ _ _ r r',oE hF t t']
theorem wQ {α:Type} [DecidableEq α] (as bs:List α) (h:as.9=bs.9):(List.range as.9).all (λj=>decide (as[j]?=bs[j]?))=decide (as=bs):=by
 rw[gW,jA,decide_eq_true_iff];constructor
 ·intro q;apply fG;intro i;by_cases hi:i < as.9
  ·exact of_decide_eq_true (q i (kZ.mpr hi))
  ·rw[aQ (),aQ ()]
 ·rintro rfl i _;simp
section
variable {α:Type} [DecidableEq α] (k:Kind α)
theorem Kind.items {X:Cx} {pins:List (Addr×Obj)} {σ:St} {H:Hp} {s:Shared} {A:Around} (I:Inv X pins σ H s) (hA:A.units+k.d < cLine) {xs ys:List V} {us ws:List Value} {as bs:List α}
  (rx:dg xs us) (ry:dg ys ws) (ha:Paired (λa x=>k.R X.K H x a) as xs) (hb:Paired (λa x=>k.R X.K H x a) bs ys) :
  ∀j (h1:j < us.5.7) (h2:j < ws.5.7),SeqAt.EqAt A s us.5[j] ws.5[j] (decide (as[j]?=bs[j]?)):=λj h1 h2=>by
 have l1:j < us.9:=by simpa using h1
 have l2:j < ws.9:=by simpa using h2
 have e1:=rx.9;have e2:=ry.9;have e3:=ha.9;have e4:=hb.9;obtain u|hu|ru:=rx.get (i:=j) (x:=xs[j]'()) (by simp);obtain w|hw|rw':=ry.get (i:=j) (x:=ys[j]'()) (by simp);have q:=k.eq (A:=A) I ru rw' (lO ha () ()) (lO hb () ()) hA
 have eu:us.5[j]=u:=by
  have:=hu;rw[ae l1] at this;simpa using this
 have ew:ws.5[j]=w:=by
  have:=hw;rw[ae l2] at this;simpa using this
 rw[eu,ew,ae (show j < as.9 by lia),ae (show j < bs.9 by lia)];have e5:decide (some as[j]=some bs[j])=decide (as[j]=bs[j]):=by simp
 rw[e5];exact q
theorem Dl {α:Type} [DecidableEq α] (as bs:List α) {n m:Nat} (h1:as.9=n) (h2:bs.9=m):((List.range (min n m)).all (λj=>decide (as[j]?=bs[j]?)) && n == m)=decide (as=bs):=by
 subst h1 h2;by_cases e:as.9=bs.9
 ·rw[show min as.9 bs.9=as.9 by lia,wQ as bs e];simp [e]
 ·have h1:(as.9 == bs.9)=false:=by simpa using e
  rw[h1,Bool.and_false];exact (decide_eq_false λz=>e (by rw[z])).symm
def VZ:Kind (List α) where
 R:=λK H x as=>∃p xs,x=.ref p/\sL K H p xs/\Paired (λa x=>k.R K H x a) as xs
 d:=k.d+1
 inj:=λ{X pins σ H s x a b} I h1 h2=>by
  obtain p|xs|rfl|hp|pa:=h1;obtain q|ys|e|hq|pb:=h2;cases e;have e:=I.tuple_inj hp hq;subst e;exact oE (F:=λa x=>k.R X.K H x a) (λa b x=>k.inj I) pa pb
 rc:=λ{X pins σ H s x y v u a b A} I rx ry h1 h2 hA=>by
  obtain p|xs|rfl|hp|pa:=h1;obtain q|ys|rfl|hq|pb:=h2;cases rx;cases ry;obtain us|r1|t1|_:=I.tuple hp;obtain ws|r2|t2|_:=I.tuple hq;have z:=SeqAt.RcAt.tuples (A:=A) (e:=λj=>decide (a[j]?=b[j]?)) (show s.heap.IsTuple p us.toArray from t1) (show s.heap.IsTuple q ws.toArray from t2) () (k.items (A:=A.in1) I (by show A.units+1+k.d < cLine;lia) r1 r2 pa pb);rwa [Dl a b (by rw[pa.9,r1.9];simp) (by rw[pb.9,r2.9];simp)] at z
 ne:=λ{X pins σ H s x y v u a b A} I rx ry h1 h2 hA=>by
  obtain p|xs|rfl|hp|pa:=h1;obtain q|ys|rfl|hq|pb:=h2;cases rx;cases ry;obtain us|r1|t1|_:=I.tuple hp;obtain ws|r2|t2|_:=I.tuple hq;have z:=SeqAt.RcNeAt.tuples (A:=A) (e:=λj=>decide (a[j]?=b[j]?)) (show s.heap.IsTuple p us.toArray from t1) (show s.heap.IsTuple q ws.toArray from t2) () (k.items (A:=A.in1) I (by show A.units+1+k.d < cLine;lia) r1 r2 pa pb);rwa [Dl a b (by rw[pa.9,r1.9];simp) (by rw[pb.9,r2.9];simp)] at z
 eq:=λ{X pins σ H s x y v u a b A} I rx ry h1 h2 hA=>by
  obtain p|xs|rfl|hp|pa:=h1;obtain q|ys|rfl|hq|pb:=h2;cases rx;cases ry;by_cases e:p=q
  ·subst e;have e:=I.tuple_inj hp hq;subst e;rw[oE (F:=λa x=>k.R X.K H x a) (λa b x=>k.inj I) pa pb,decide_eq_true rfl];exact SeqAt.EqAt.same _
  ·obtain us|r1|t1|_:=I.tuple hp;obtain ws|r2|t2|_:=I.tuple hq;have z:=SeqAt.RcAt.tuples (A:=A) (e:=λj=>decide (a[j]?=b[j]?)) (show s.heap.IsTuple p us.toArray from t1) (show s.heap.IsTuple q ws.toArray from t2) () (k.items (A:=A.in1) I (by show A.units+1+k.d < cLine;lia) r1 r2 pa pb);rw[Dl a b (by rw[pa.9,r1.9];simp) (by rw[pb.9,r2.9];simp)] at z;exact .of_refs e z
theorem Ji {X:Cx} {pins:List (Addr×Obj)} {σ:St} {H:Hp} {s:Shared} {p q:Addr} {xs ys:List V} {a b:List α} {A:Around} (I:Inv X pins σ H s) (hp:bE X.K H p xs) (hq:bE X.K H q ys)
  (pa:Paired (λa x=>k.R X.K H x a) a xs) (pb:Paired (λa x=>k.R X.K H x a) b ys) (hA:A.units+(k.d+1) < cLine) :
  SeqAt.RcAt A s (.ref p) (.ref q) (decide (a=b))/\SeqAt.RcNeAt A s (.ref p) (.ref q) (!decide (a=b)):=by
 obtain us|r1|t1|_:=I.list hp;obtain ws|r2|t2|_:=I.list hq;have l1:=r1.9;have l2:=r2.9;have l3:=pa.9;have l4:=pb.9;by_cases e:us.9=ws.9
 ·have it:=k.items (A:=A.in1) I (by show A.units+1+k.d < cLine;lia) r1 r2 pa pb;have z:=SeqAt.RcAt.lists (A:=A) (e:=λj=>decide (a[j]?=b[j]?)) t1.isList t2.isList (by simpa using e) () it;have z2:=SeqAt.RcNeAt.lists (A:=A) (e:=λj=>decide (a[j]?=b[j]?)) t1.isList t2.isList (by simpa using e) () it;have e1:us.5.7=a.9:=by rw[aN];lia
  rw[e1,wQ a b ()] at z z2;exact #[z,z2]
 ·have hne:¬a=b:=λz=>e (by have:=congrArg List.length z;lia)
  rw[decide_eq_false hne];exact #[SeqAt.RcAt.lists_lengths t1.isList t2.isList (by simpa using e) (),SeqAt.RcNeAt.lists_lengths t1.isList t2.isList (by simpa using e) ()]
def Tf:Kind (List α) where
 R:=λK H x as=>∃p xs,x=.ref p/\bE K H p xs/\Paired (λa x=>k.R K H x a) as xs
 d:=k.d+1
 inj:=λ{X pins σ H s x a b} I h1 h2=>by
  obtain p|xs|rfl|hp|pa:=h1;obtain q|ys|e|hq|pb:=h2;cases e;have e:=I.list_inj hp hq;subst e;exact oE (F:=λa x=>k.R X.K H x a) (λa b x=>k.inj I) pa pb
 rc:=λ{X pins σ H s x y v u a b A} I rx ry h1 h2 hA=>by
  obtain p|xs|rfl|hp|pa:=h1;obtain q|ys|rfl|hq|pb:=h2;cases rx;cases ry;exact (Ji k I hp hq pa pb hA).1
 ne:=λ{X pins σ H s x y v u a b A} I rx ry h1 h2 hA=>by
  obtain p|xs|rfl|hp|pa:=h1;obtain q|ys|rfl|hq|pb:=h2;cases rx;cases ry;exact (Ji k I hp hq pa pb hA).2
 eq:=λ{X pins σ H s x y v u a b A} I rx ry h1 h2 hA=>by
  obtain p|xs|rfl|hp|pa:=h1;obtain q|ys|rfl|hq|pb:=h2;cases rx;cases ry;by_cases e:p=q
  ·subst e;have e:=I.list_inj hp hq;subst e;rw[oE (F:=λa x=>k.R X.K H x a) (λa b x=>k.inj I) pa pb,decide_eq_true rfl];exact SeqAt.EqAt.same _
  ·exact .of_refs e (Ji k I hp hq pa pb hA).1
def Kind.via {β:Type} [DecidableEq β] (f:β->α) (fi:∀a b,f a=f b->a=b) (R':FG9->Hp->V->β->Prop) (im:∀{K H x b},R' K H x b->k.R K H x (f b)):Kind β where
 R:=R'
 d:=k.d
 inj:=λI h1 h2=>fi _ _ (k.inj I (im h1) (im h2))
 rc:=λ{X pins σ H s x y v u a b A} I rx ry h1 h2 hA=>by
  have z:=k.rc (A:=A) I rx ry (im h1) (im h2) hA;rwa [decide_eq_decide.mpr (show f a=f b↔a=b from #[fi a b,λe=>by rw[e]])] at z
 ne:=λ{X pins σ H s x y v u a b A} I rx ry h1 h2 hA=>by
  have z:=k.ne (A:=A) I rx ry (im h1) (im h2) hA;rwa [decide_eq_decide.mpr (show f a=f b↔a=b from #[fi a b,λe=>by rw[e]])] at z
 eq:=λ{X pins σ H s x y v u a b A} I rx ry h1 h2 hA=>by
  have z:=k.eq (A:=A) I rx ry (im h1) (im h2) hA;rwa [decide_eq_decide.mpr (show f a=f b↔a=b from #[fi a b,λe=>by rw[e]])] at z
end
def JV (K:FG9) (H:Hp) (x:V) (n:Int×Int):Prop:=∃p,x=.ref p/\sL K H p [.int n.1,.int n.2]
def U1:Kind (Int×Int):=(VZ Tg).via (λn=>[n.1,n.2]) (λa b e=>by cases a;cases b;simp at e;rw[e.1,e.2]) JV λ#[p,e,h]=>#[p,_,e,h,.cons rfl (.cons rfl .nil)]
def US (K:FG9):R2:=λx y H Q=>∃(α:Type) (_:DecidableEq α) (k:Kind α) (a b:α),k.d<=50/\k.R K H x a/\k.R K H y b/\Q (.bl (decide (a=b))) H
def UR (K:FG9):R2:=λx y H Q=>∃(α:Type) (_:DecidableEq α) (k:Kind α) (a b:α),k.d<=50/\k.R K H x a/\k.R K H y b/\Q (.bl (!decide (a=b))) H
theorem Nv (hu:X.A.units+50 < cLine):xc X (compareOp .Eq) (US X.K):=by
 intro pins s σ H x y v u Q I rx ry h;obtain α|_|k|a|b|hd|ha|hb|q:=h;exact k.rc (A:=X.A) I rx ry ha hb () _ _ _ _ #[.bl (decide (a=b)),H,I,rfl,q]
theorem rC (hu:X.A.units+50 < cLine):xc X (compareOp .NotEq) (UR X.K):=by
 intro pins s σ H x y v u Q I rx ry h;obtain α|_|k|a|b|hd|ha|hb|q:=h;exact k.ne (A:=X.A) I rx ry ha hb () _ _ _ _ #[.bl (!decide (a=b)),H,I,rfl,q]
theorem yG (hr:mV k A):A.units+50 < cLine:=by have:=hr.units;lia
def Inner (H:Hp) (p q:Addr):Prop:=∃a b c:Int,H p=some (.lst [.int a,.int b,.int c,.ref q])
def c8 (p:Addr) (H H':Hp):Prop:=(∀b o,H b=some o->b≠p->H' b=some o)/\∀q,Inner H p q->Inner H' p q
theorem c8.refl (H:Hp):c8 p H H:=#[λ_ _ h _=>h,λ_ h=>h]
theorem c8.trans (a:c8 p H H1) (b:c8 p H1 H2):c8 p H H2:=#[λc o h n=>b.1 c o (a.1 c o h n) n,λq h=>b.2 q (a.2 q h)]
theorem Inner.inj (h:Inner H p q) (h':Inner H p q'):q=q':=by
 obtain a|b|c|e:=h;obtain a'|b'|c'|e':=h';rw[e] at e';have:=HO.lst.inj (cg e');simp at this;exact this.2.2.2
theorem c8.set (h:H p=some (.lst [.int a,.int b,.int c,.ref q])):c8 p H (upd H p (.lst [.int a',.int b',.int c',.ref q])) :=
 #[λb u h n=>by rw[bo n];exact h,λq' h'=>by
  rw[(Inner.inj #[a,b,c,h] h').symm];exact #[a',b',c',aG]]
theorem aH.upto (h:aH H H'):c8 p H H':=#[λb o e _=>h b o e,λq #[a,b,c,e]=>#[a,b,c,h _ _ e]]
theorem aH.new (h:H p=Option.none):aH H (upd H p o):=λb u e=>by rw[bo (gY e h)];exact e
theorem aH.sqt {K:FG9} (e:aH H H') (h:sL K H a xs):sL K H' a xs:=by
 rcases h with (h | ⟨o,h⟩) | h
 ·exact .inl (.inl (e _ _ h))
 ·exact .inl (.inr #[o,e _ _ h])
 ·exact .inr h
theorem aH.num {K:FG9} (e:aH H H') (h:JV K H x n):JV K H' x n:=by obtain p|q|r:=h;exact #[p,q,e.sqt r]
section
variable {σ:St} {H:Hp} {D:Ends}
theorem tU {t:TS} (e:σ0=σ) (h:t D σ H):t D σ0 H:=by rw[e];exact h
theorem Pz (h:D.nx σ H):Q2 D σ H:=h
theorem SN {g:TG} (h:te σ H λx H1=>g x σ H1 D.nx):MG te g D σ H:=h
theorem Ni (h:Q (σ.set i (some v)) H):CK i v σ H Q:=h
theorem So (h:te σ H D.rt):Um te D σ H:=h
theorem SD (h:c σ H λb H1=>if b=true then t D σ H1 else u D σ H1):Uu c t u D σ H:=h
theorem PM (h:te σ H λ_ H1=>D.nx σ H1):Q5 te D σ H:=h
theorem Sq (h:ta σ H λvs H1=>∃v w,vs=[v,w]/\D.nx ((σ.set i (some v)).set j (some w)) H1):Uo i j ta D σ H:=h
theorem PV 
  (h:to σ H λo H1=>ti σ H1 λi H2=>tget o i H2 λx H3=>te σ H3 λy H4=>tip x y H4 λz H5=>tset o i z H5 λH6=>D.nx σ H6):Q6 to ti te tget tip tset D σ H:=h
theorem Sy (h:Q (.int (f i j)) H):ipI f (.int i) (.int j) H Q:=#[i,j,rfl,rfl,h]
theorem SG {g:TG} (h:wi σ H λJ H1=>∃W:Nat->Nat->St->Hp->Prop,(∃m,W 0 m σ H1)/\∀i m σ H,W i m σ H →
  (J.stop i H/\D.nx σ H)\/(J.go i H/\∃N:St->Hp->Prop,(∀σ' H',N σ' H'->∃m',m' < m/\W (i+1) m' σ' H')/\∀x H',J.yld i H x H'->g x σ H' λσ2 H2=>tb { D with nx:=N,ct:=N,bk:=D.nx } σ2 H2)):Uv wi g tb D σ H:=h
variable {Q:VK} {QA:List V->Hp->Prop} {QB:Bool->Hp->Prop}
theorem Sl (e:σ[i]?=some (some v)) (h:Q v H):RX i σ H Q:=#[v,e,h]
theorem VO (h:Q v H):tC v σ H Q:=h
theorem UL (h:ta σ H λx H1=>tb σ H1 λy H2=>r x y H2 Q):Uq r ta tb σ H Q:=h
theorem UH (h:ta σ H λx H1=>r x H1 Q):VA r ta σ H Q:=h
theorem UP {g:Int->Int->V} (h:Q (g i j) H):PZ g (.int i) (.int j) H Q:=#[i,j,rfl,rfl,h]
theorem iF {g:Int->Int->V} (hc:C i j) (h:Q (g i j) H):rI C g (.int i) (.int j) H Q:=#[i,j,rfl,rfl,hc,h]
theorem VP {g:Int->V} (h:Q (g i) H):rU g (.int i) H Q:=#[i,rfl,h]
theorem SK (h:Q (.bl (decide (i=j))) H):VT (.int i) (.int j) H Q:=#[rfl,by
 have e:decide (V.int i=V.int j)=decide (i=j):=by simp
 rw[e];exact h]
theorem Sv (h:Q (.bl (!decide (i=j))) H):VR (.int i) (.int j) H Q:=#[rfl,by
 have e:decide (V.int i=V.int j)=decide (i=j):=by simp
 rw[e];exact h]
theorem SJ (h:Q (.bl (decide (i=j))) H):VT (.str i) (.str j) H Q:=#[rfl,by
 have e:decide (V.str i=V.str j)=decide (i=j):=by simp
 rw[e];exact h]
theorem Pq (h:t σ H λx H'=>∃k,x=.bl k/\QB k H'):QZ t σ H QB:=h
theorem UI (h:t σ H λx H'=>∃k,x=.bl k/\QB k H'):tB t σ H QB:=h
theorem SQ (h:t σ H λc H1=>if c=true then u σ H1 QB else QB false H1):Ux t u σ H QB:=h
theorem UK (h:t σ H λc H1=>if c=true then QB true H1 else u σ H1 QB):tOr t u σ H QB:=h
theorem Ss (h:t σ H λc H1=>QB (!c) H1):Ur t σ H QB:=h
theorem PX (h:t σ H λx H1=>∃c,x=.bl c/\if c=true then u σ H1 Q else Q (.bl false) H1):Q7 t u σ H Q:=h
theorem Sr (h:t σ H λx H1=>∃c,x=.bl c/\if c=true then Q (.bl true) H1 else u σ H1 Q):Up t u σ H Q:=h
theorem Py (h:t σ H λx H1=>∃c,x=.bl c/\Q (.bl (!c)) H1):Q1 t σ H Q:=h
theorem SE (h:c σ H λb H1=>if b=true then ta σ H1 Q else tb σ H1 Q):tIf c ta tb σ H Q:=h
theorem Sk (h:QB true H):Ui σ H QB:=h
theorem Su (h:QA [] H):AS σ H QA:=h
theorem PN (h:ta σ H λx H1=>tr σ H1 λxs H2=>QA (x :: xs) H2):jC ta tr σ H QA:=h
theorem PU (h:t σ H λvs H1=>sp vs H1 Q E):MF sp [] E t σ H Q:=by
 have e:(λvs H1=>sp (vs++[]) H1 Q E)=λvs H1=>sp vs H1 Q E:=by funext vs H1;rw[oo]
 show t σ H λvs H1=>sp (vs++[]) H1 Q E
 rw[e];exact h
theorem UN (h:t σ H λvs H1=>r vs H1 Q):VN r t σ H Q:=h
theorem IL {K:FG9} (hx:sL K H p xs) (e:Il xs i=some v) (h:Q v H):SV K (.ref p) (.int i) H Q:=#[p,xs,i,v,rfl,rfl,hx,e,h]
theorem b8 {K:FG9} (hx:bE K H p xs) (e:Il xs i=some v) (h:Q v H):SW K (.ref p) (.int i) H Q:=#[p,xs,i,v,rfl,rfl,hx,e,h]
theorem PL {K:FG9} (hx:bE K H p xs) (e:Il xs i=some v) (h:Q v H):Rl K (.ref p) (.int i) H Q:=#[p,xs,i,v,rfl,rfl,hx,e,h]
theorem eC (hx:H p=some (.lst xs)) (e:Mg xs.9 i=some j) (ey:xs.set j v=ys) (h:QH (upd H p (.lst ys))):Rk (.ref p) (.int i) v H QH:=#[p,xs,i,j,rfl,rfl,hx,e,by rw[ey];exact h]
theorem PJ (h:to σ H λo H1=>ti σ H1 λi H2=>t o i v H2 λH3=>QS σ H3):U9 to ti t v σ H QS:=h
theorem Nj (h:t v σ H λσ' H'=>u r σ' H' QS):RJ t u (v :: r) σ H QS:=#[v,r,rfl,h]
theorem PK (h:QS σ H):Va [] σ H QS:=#[rfl,h]
theorem PH {K:FG9} (hx:sL K H a xs) (hl:xs.9=n) (h:t xs σ H QS):Tr K n t (.ref a) σ H QS:=#[a,xs,rfl,hx,hl,h]
theorem UJ (h:te σ H λx H1=>tl σ H1 λl H2=>th σ H2 λu H3=>r x l u H3 Q):tSl r te tl th σ H Q:=h
theorem Lc (h:QO none H):JX σ H QO:=h
theorem Px (h:t σ H λx H1=>∃i,x=.int i/\QO (some i) H1):Q0 t σ H QO:=h
variable {R:It->Hp->Prop} {K:FG9}
theorem Ng (h:tl σ H λx H1=>∃a,x=.ref a/\(∃xs,bE K H1 a xs)/\R (QW K a) H1):NU K tl σ H R:=h
theorem Nd (h:ta σ H λvs H1=>∃j:Int,vs=[.int j]/\-(2^62)<=j/\j < 2^62/\R (Io 0 j.toNat) H1):RD ta σ H R:=h
theorem Nc (h:ta σ H λvs H1=>∃i j:Int,vs=[.int i,.int j]/\(-(2^62)<=i/\i < 2^62/\-(2^62)<=j/\j < 2^62)/\R (Io i (j - i).toNat) H1):RC ta σ H R:=h
theorem PR {g:TG} (e:Me k cap σ=σ₀) (h:wi σ H λJ H1=>uK J σ₀ g tf te Q H1):Fd wi k cap g tf te σ H Q:=by
 unfold Fd;rw[e];exact h
theorem Pp {g:TG} {NY:V->Hp->Prop} (h:g x σ H λσ2 H2=>tf σ2 H2 λb H3=>if b=true then te σ2 H3 NY else NN H3):sR σ g tf te x H NY NN:=h
theorem UO (h:to σ H λx H1=>Uh K T x H1/\t σ H1 λxs H2=>r x xs H2 Q):tBM K T r to t σ H Q:=h
theorem SM (h:to σ H λx H1=>Uh K T x H1/\r x [] H1 Q):Uw K T r to σ H Q:=h
def Vp (Q:VK) (xs:List V) (H:Hp):Prop:=xs.9<=sizeLine/\∀p,H p=none->Q (.ref p) (upd H p (.tup xs))
def Vq (Q:VK) (xs:List V) (H:Hp):Prop:=xs.9<=sizeLine/\∀p,H p=none->Q (.ref p) (upd H p (.lst xs))
theorem Sm (h:t σ H (Vp Q)):Uj t σ H Q:=h
theorem Sx (h:t σ H (Vq Q)):Ut t σ H Q:=h
theorem kd (h:Nat.ble n 1000=true):n<=sizeLine:=cC (cU (Nat.le_of_ble_eq_true h))
theorem bF {xs:List V} (h:∀p H',aH H H'->H' p=some (.tup xs)->Q (.ref p) H') (hl:Nat.ble xs.9 1000=true:=by rfl):Vp Q xs H :=
 #[kd hl,λp hp=>h p _ (aH.new hp) aG]
theorem cO {xs:List V} (h:∀p H',aH H H'->H p=none->H' p=some (.lst xs)->Q (.ref p) H') (hl:Nat.ble xs.9 1000=true:=by rfl):Vq Q xs H :=
 #[kd hl,λp hp=>h p _ (aH.new hp) hp aG]
theorem U3 {A B:Prop} (h:B):if (!true)=true then A else B:=Th h
theorem U5 {A B:Prop} (h:A):if (!false)=true then A else B:=U2 h
def WB (tb:TS) (D:Ends) (Pv:St->Hp->Prop) (μ:St->Hp->Nat) (n:Nat) (σ:St) (H:Hp):Prop:=∃N:St->Hp->Prop,(∀σ' H',N σ' H'->∃m',m' < n/\(m'=μ σ' H'/\Pv σ' H'))/\tb { D with nx:=N,ct:=N,bk:=D.nx } σ H
theorem Ri (h:tb { D with nx:=λσ' H'=>Pv σ' H'/\μ σ' H' < n,ct:=λσ' H'=>Pv σ' H'/\μ σ' H' < n,bk:=D.nx } σ H):WB tb D Pv μ n σ H :=
 #[_,λσ' H' #[p,l]=>#[_,l,rfl,p],h]
theorem Dk (Pv:St->Hp->Prop) (μ:St->Hp->Nat) (h0:Pv σ H) (hs:∀σ H,Pv σ H->c σ H λb H1=>if b=true then WB tb D Pv μ (μ σ H) σ H1 else D.nx σ H1):ME c tb D σ H:=by
 refine #[λm σ H=>m=μ σ H/\Pv σ H,#[_,rfl,h0],?_];rintro m σ H ⟨rfl,p⟩;exact hs σ H p
end
def ig (H:Hp) (p:Addr):Prop:=∃(q:Addr) (a b c:Int) (cs:List Int),H p=some (.lst [.int a,.int b,.int c,.ref q])/\H q=some (.lst (cs.map V.int))/\0<=a/\0<=c/\c<=(cs.9:Int)/\∀x∈cs,(0:Int)<=x
theorem LQ {H:Hp} {cs:List Int} (hp:H p=some (.lst [.int a,.int b,.int c,.ref q])) (hq:H q=some (.lst (cs.map V.int))):q≠p:=λe=>by
 rw[e,hp] at hq;have h:=HO.lst.inj (cg hq);cases cs with
 | nil=>cases h
 | cons x1 cs=>cases cs with
  | nil=>cases h
  | cons x2 cs=>cases cs with
   | nil=>cases h
   | cons x3 cs=>cases cs with
    | nil=>cases h
    | cons x4 cs=>simp at h
theorem ig.same (h:ig H p) (e:aH H H'):ig H' p:=by obtain q|a|b|c|cs|h1|h2|r:=h;exact #[q,a,b,c,cs,e _ _ h1,e _ _ h2,r]
theorem c8.tup {H H':Hp} {p r:Addr} {xs:List V} (u:c8 p H H') (B:ig H p) (h:H r=some (.tup xs)):H' r=some (.tup xs):=by
 obtain q|a|b|c|cs|h1|_:=B;exact u.1 r _ h λe=>by rw[e,h1] at h;cases h
theorem c8.other (u:c8 p H H') (n:r≠p) (h:H r=some o):H' r=some o:=u.1 r _ h n
theorem ig.inner (h:ig H p):∃q,Inner H p q/\∃xs,H q=some (.lst xs):=by obtain q|a|b|c|cs|h1|h2|_:=h;exact #[q,#[a,b,c,h1],_,h2]
theorem ig.upd (h:ig H p) (hi:Inner H p q) (n1:r≠p) (n2:r≠q):ig (L2.upd H r o) p:=by
 obtain q'|a|b|c|cs|h1|h2|z:=h;have e:q'=q:=Inner.inj #[a,b,c,h1] hi;subst e;exact #[q',a,b,c,cs,by rw[bo n1.symm];exact h1,by rw[bo n2.symm];exact h2,z]
theorem Inner.upd (hi:Inner H p q) (n1:r≠p):Inner (L2.upd H r o) p q:=by obtain a|b|c|h:=hi;exact #[a,b,c,by rw[bo n1.symm];exact h]
def O5:Sp:=λvs H Q _=>∃p n,vs=[.ref p,.int n]/\ig H p/\0 < n/\n < 2^64/\∀v H',0<=v->v < n->ig H' p->c8 p H H'->Q (.int v) H'
inductive MR (K:FG9) (vs:List V) (H:Hp) (Q:VK) (E9:XK):Prop
 | mk (a:Addr) (ns:List Int):vs=[.ref a]->bE K H a (ns.map V.int)->ns.9<=63->(∀p H',H p=none->ig H' p->aH H H'->Q (.ref p) H')->MR K vs H Q E9
inductive zG (K:FG9) (vs:List V) (H:Hp) (Q:VK) (E9:XK):Prop
 | mk (a:Addr) (ns:List Int):vs=[.ref a]->bE K H a (ns.map V.int)->ns.9<=63->(∀H',Q (.bl true) H')->zG K vs H Q E9
def Sf:Sp:=λvs H Q _=>∃t b,vs=[.int t,.int b]/\0 < b/\Sz 8999 b/\∀r H',aH H H'->H' r=some (.tup [.int (lo t b),.int (hi t b)])->Q (.ref r) H'
def Uz:Sp:=λvs H Q _=>∃a b,vs=[.int a,.int b]/\Q (.int (g a b)) H
def K5:Sp:=λvs H Q _=>∃t b,vs=[.int t,.int b]/\b≠0/\Sz 8999 b/\∀r H',aH H H'->H' r=some (.tup [.int (lo (if b < 0 then -t else t) (if b < 0 then -b else b)),.int (hi (if b < 0 then -t else t) (if b < 0 then -b else b))])->Q (.ref r) H'
def RK (a b c d:Int):Int:=a*d+c*b
def Oh (a b c d:Int):Int:=a*d - c*b
def Og (a _b c _d:Int):Int:=a*c
def Kd (K:FG9) (f:Int->Int->Int->Int->Int):Sp:=λvs H Q _=>∃p q a b c d,vs=[.ref p,.ref q]/\sL K H p [.int a,.int b]/\sL K H q [.int c,.int d]/\0 < b/\0 < d/\Sz 4000 a/\Sz 4000 b/\Sz 4000 c/\Sz 4000 d /\
 ∀r H',aH H H'->H' r=some (.tup [.int (lo (f a b c d) (b*d)),.int (hi (f a b c d) (b*d))])->Q (.ref r) H'
def O7 (K:FG9):Sp:=λvs H Q _=>∃p q a b c d,vs=[.ref p,.ref q]/\sL K H p [.int a,.int b]/\sL K H q [.int c,.int d]/\0 < b/\0 < d/\c≠0/\Sz 4000 a/\Sz 4000 b/\Sz 4000 c/\Sz 4000 d /\
 ∀r H',aH H H'->H' r=some (.tup [.int (lo (if c < 0 then 0 - a*d else a*d) (if c < 0 then 0 - b*c else b*c)),.int (hi (if c < 0 then 0 - a*d else a*d) (if c < 0 then 0 - b*c else b*c))])->Q (.ref r) H'
theorem bV {α β:Type} {F:α->β->Prop}:∀{l1 l1':List α} {l2 l2':List β},Paired F l1 l2->Paired F l1' l2'->Paired F (l1++l1') (l2++l2')
 | _,_,_,_,.nil,h=>h
 | _,_,_,_,.cons r t,h=>.cons r (bV t h)
theorem dZ {h:Heap} (ha:h.get? a=some o) (hb:h.get? b=some u) (hc:o.cls≠u.cls):a≠b:=λe=>by
 subst e;rw[ha] at hb;cases hb;exact hc rfl
theorem oz (h:a≠b):Value.type a≠Value.type b:=λe=>h (by injection e)
theorem BQ {z TI TO i1 i2 l1 l2:Addr} (hz:IsZip h z TI TO f0) (hTI:IsPair h TI (.ref i1) (.ref i2)) (hTO:IsPair h TO a b)
  (h1:h.IsListIter i1 l1 k1) (h2:h.IsListIter i2 l2 k2) (hl1:h.IsList l1 xs) (hl2:h.IsList l2 ys) (hT:TI≠TO) (hi:i1≠i2):ZipApart z TI TO i1 i2 l1 l2:=by
 obtain o1|g1|c1|_:=h1;obtain o2|g2|c2|_:=h2;obtain p1|q1|d1|_:=hl1;obtain p2|q2|d2|_:=hl2;refine #[dZ hTI hz ?_,dZ hTO hz ?_,dZ g1 hz ?_,dZ g2 hz ?_,hT,dZ hTI g1 ?_,dZ hTI g2 ?_,dZ hTO g1 ?_,dZ hTO g2 ?_,hi,dZ q1 hz ?_,dZ q1 hTO ?_,dZ q1 g1 ?_,dZ q1 g2 ?_,dZ q2 hz ?_,dZ q2 hTO ?_,dZ q2 g1 ?_,dZ q2 g2 ?_]
 all_goals first
  | (rw[d1];first | (rw[c1];exact oz ()) | (rw[c2];exact oz ()) | exact oz ())
  | (rw[d2];first | (rw[c1];exact oz ()) | (rw[c2];exact oz ()) | exact oz ())
  | (rw[c1];exact oz ())
  | (rw[c2];exact oz ())
  | exact oz ()
def TX (K : FG9) (l1 l2 : Addr) : It :=
  #[λi H => ∃ xs ys x y, bE K H l1 xs /\ bE K H l2 ys /\ xs[i]? = some x /\ ys[i]? = some y,
   λi H v H' => ∃ p x y, v = .ref p /\ H p = none /\ H' = upd H p (.tup [x, y]) /\ (∀ xs, bE K H l1 xs → xs[i]? = some x) /\ ∀ ys, bE K H l2 ys → ys[i]? = some y,
   λi H => ∃ xs ys, bE K H l1 xs /\ bE K H l2 ys /\ (xs.9 ≤ i \/ ys.9 ≤ i)]
def tnZ (z TI TO i1 i2 l1 l2:Addr) (i:Nat) (h:Heap):Prop:=IsZip h z TI TO .none/\IsPair h TI (.ref i1) (.ref i2)/\(∃a b,IsPair h TO a b)/\h.IsListIter i1 l1 i/\h.IsListIter i2 l2 i
theorem My {P:Program} {w:World} {K:FG9} {elts:List Expr} {kk:Nat} {tpos:Pos} (z TI TO i1 i2 l1 l2:Addr) (hT:TI≠TO) (hi:i1≠i2):Turn P w K (.Tuple elts kk tpos) (TX K l1 l2) [z,TI,TO,i1,i2] z (tnZ z TI TO i1 i2 l1 l2) where
 mem:=by simp
 obj:=λi h st b hb=>by
  obtain hz|hTI|⟨a,c,hTO⟩|⟨o1,g1,c1,d1⟩|⟨o2,g2,c2,d2⟩:=st;simp only[aI,bw,or_false] at hb;rcases hb with rfl | rfl | rfl | rfl | rfl
  ·exact #[_,hz,λv q=>nomatch q]
  ·exact #[_,hTI,λv q=>nomatch q]
  ·exact #[_,hTO,λv q=>nomatch q]
  ·exact #[o1,g1,λv q=>by rw[d1] at q;cases q]
  ·exact #[o2,g2,λv q=>by rw[d2] at q;cases q]
 keep:=λi h h' st k=>by
  obtain hz|hTI|⟨a,c,hTO⟩|h1|h2:=st;exact #[k z (by simp) _ hz,k TI (by simp) _ hTI,#[a,c,k TO (by simp) _ hTO],h1.at λo e=>k i1 (by simp) o e,h2.at λo e=>k i2 (by simp) o e]
 item:=by
  intro X hP hw hK hc i pins s σ H E I hf st hg;subst hP hw hK;obtain hz|hTI|⟨a,c,hTO⟩|h1|h2:=st;obtain xs|ys|x|y|qx|qy|ex|ey:=hg;obtain us|rx|px|_:=I.list qx;obtain ws|ry|py|_:=I.list qy;obtain u|eu|ru:=rx.get ex;obtain v|ev|rv:=ry.get ey;have D:=BQ hz hTI hTO h1 h2 px.isList py.isList hT hi;refine wpAny_pyNext_zip_item D hz hTI hTO h1 h2 px.isList py.isList (x:=u) (y:=v) (by simpa using eu) (by simpa using ev) λh' a1 a2 a3 a4 a5 a6 hk=>?_
  refine #[_,rfl,wpAny_letOwnedTupleGo_zip a1 λh'' hz'' hs=>?_];have hT0:H s.6=none:=I.hok.fresh (ak _);have zne:s.6≠z:=KO (Heap.lt_size hz)
  have up:∀b o,b∉[z,TO,i1,i2]->s.heap.get? b=some o->h''.get? b=some o:=λb o hb e=>by
   simp only[aI,bw,or_false,not_or] at hb;exact (hs.2 b hb.1).trans (hk b o hb.1 hb.2.1 hb.2.2.1 hb.2.2.2 e)
  have fx:∀b∈[z,TO,i1,i2],md X pins H b:=λb hb=>hf b (by
   simp only[aI,bw,or_false] at hb ⊢;rcases hb with rfl | rfl | rfl | rfl <;> simp)
  have nx:∀b o,H b=some o->b∉[z,TO,i1,i2]:=λb o e hb=>by
   have:=(fx b hb).1;rw[this] at e;cases e
  have nT:∀{b:Addr} {o:HO},H b=some o->b≠s.6:=λe q=>by rw[q,hT0] at e;cases e
  have tup:h''.get? s.6=some { cls:=.type "tuple",data:=.seq [u,v].toArray }:=(hs.2 _ zne).trans a5
  have I2:Inv X pins σ (upd H s.heap.objs.size (.tup [x,y])) { s with heap:=h'' }:=by
   refine I.step (g':=s.gens) (d':=s.drawn) (t':=s.toks) (ch:=[z,TO,i1,i2]) (λb hb=>?_) (λb o _ _ hb e _=>up b o hb e) (λb o _ _ hb e _=>#[o.slots,up b o hb e]) (λb o hb e n=>?_)
    (λb o hb e=>#[o,up b o hb e]) (λb q e=>by rw[bo (nT e)];exact e) (λb o q e=>by rw[bo (nT e)];exact e) (λb q e=>#[[].toArray,by rw[bo (nT e),e];simp]) (λm hm=>?_) (λb o e=>?_) I.bare
   ·obtain _|f1|_|f3|f4|f5:=fx b hb;exact #[f3,f1,f4,f5]
   ·rw[bo (cI (Heap.lt_size e))];exact n
   ·obtain o|es|ep|ho|r:=hm;exact #[o,es,ep,up _ o (λz=>(fx _ z).2.1 rfl) ho,r]
   ·by_cases hb:b=s.6
    ·subst hb;rw[aG] at e;cases e;exact #[kd rfl,[u,v],.cons ru (.cons rv .nil),#[_,tup,rfl,_,rfl]]
    ·rw[bo hb] at e;refine (I.hok b o e).stay (λc v' hc q=>up c v' ?_ q) (λc q=>by rw[bo (nT q)];exact q) λc xs q=>by rw[bo (nT q)];exact q
     rcases hc with rfl | hc
     ·exact nx _ _ e
     ·exact nx _ _ hc
  refine #[.ref s.6,_,I2,rfl,#[_,x,y,rfl,hT0,rfl,λxs' q=>by rw[I.list_inj q qx];exact ex,λys' q=>by rw[I.list_inj q qy];exact ey],?_,λb hb=>?_]
  ·refine #[hz'',(hs.2 _ D.TIz).trans (hk _ _ D.TIz D.TITO D.TIi1 D.TIi2 hTI),#[_,_,(hs.2 _ D.TOz).trans a2],a3.at λo e=>(hs.2 _ D.i1z).trans e,a4.at λo e=>(hs.2 _ D.i2z).trans e]
  ·obtain ⟨o,e,_⟩:∃o,s.heap.get? b=some o/\True:=by
    obtain o1|g1|_:=h1;obtain o2|g2|_:=h2;simp only[aI,bw,or_false] at hb;rcases hb with rfl | rfl | rfl | rfl | rfl
    ·exact #[_,hz,trivial]
    ·exact #[_,hTI,trivial]
    ·exact #[_,hTO,trivial]
    ·exact #[_,g1,trivial]
    ·exact #[_,g2,trivial]
   rw[bo (cI (Heap.lt_size e))];exact (hf b hb).1
 done:=by
  intro X hP hw hK hc i pins s σ H E I hf st hg;subst hP hw hK;obtain hz|hTI|⟨a,c,hTO⟩|h1|h2:=st;obtain xs|ys|qx|qy|hend:=hg;obtain us|rx|px|_:=I.list qx;obtain ws|ry|py|_:=I.list qy;have lx:=rx.9;have ly:=ry.9;have D:=BQ hz hTI hTO h1 h2 px.isList py.isList hT hi
  refine wpAny_pyNext_zip_end (I.ok.hd hc) D hz hTI hTO h1 h2 px.isList py.isList (by
   rcases hend with q | q
   ·exact .inl (by simp;lia)
   ·exact .inr (by simp;lia)) λh' hk=>#[rfl,?_]
  have up:∀b o,b∉[z,TO,i1,i2]->s.heap.get? b=some o->h'.get? b=some o:=λb o hb e=>by
   simp only[aI,bw,or_false,not_or] at hb;exact hk b o hb.1 hb.2.1 hb.2.2.1 hb.2.2.2 e
  have fx:∀b∈[z,TO,i1,i2],md X pins H b:=λb hb=>hf b (by
   simp only[aI,bw,or_false] at hb ⊢;rcases hb with rfl | rfl | rfl | rfl <;> simp)
  have nx:∀b o,H b=some o->b∉[z,TO,i1,i2]:=λb o e hb=>by
   have:=(fx b hb).1;rw[this] at e;cases e
  refine I.step (g':=s.gens) (d':=s.drawn) (t':=s.toks) (ch:=[z,TO,i1,i2]) (λb hb=>?_) (λb o _ _ hb e _=>up b o hb e) (λb o _ _ hb e _=>#[o.slots,up b o hb e]) (λb o hb e n=>n)
   (λb o hb e=>#[o,up b o hb e]) (λb q e=>e) (λb o q e=>e) (λb q e=>#[[].toArray,by rw[e];simp]) (λm hm=>?_) (λb o e=>?_) I.bare
  ·obtain _|f1|_|f3|f4|f5:=fx b hb;exact #[f3,f1,f4,f5]
  ·obtain o|es|ep|ho|r:=hm;exact #[o,es,ep,up _ o (λz=>(fx _ z).2.1 rfl) ho,r]
  ·refine (I.hok b o e).stay (λc v' hc q=>up c v' ?_ q) (λc q=>q) λc xs q=>q
   rcases hc with rfl | hc
   ·exact nx _ _ e
   ·exact nx _ _ hc
 self:=λ_ _ _ _ _ st h=>wpAny_pyIter_zip st.1 h
section
variable {X:Cx}
def Tj (K:FG9) (ta:TA):TI:=λσ H R=>ta σ H λvs H1=>∃l1 l2,vs=[.ref l1,.ref l2]/\(∃xs,bE K H1 l1 xs)/\(∃ys,bE K H1 l2 ys)/\R (TX K l1 l2) H1
theorem rz {a b:Expr} {ta:TA} {p pos tpos:Pos} {elts:List Expr} {kk:Nat} (hg:Gl X "zip") (hm:X.mg "zip"=none) (ha:PA X [a,b] ta) (hs:starEach [a,b] X.env=[(false,eval a X.env),(false,eval b X.env)]:=by rfl) (hs2:starEach [b] X.env=[(false,eval b X.env)]:=by rfl) :
  PI X (.Tuple elts kk tpos) (.Call (.Name "zip" p) [a,b] [] pos) (Tj X.K ta):=by
 intro pins s σ H R I h;refine Call_ (lZ I hg hm boot_zip (PyProof.Rows.callWith_type1 (iG (ha pos pins s σ H _ I h) λus s1 #[vs,H1,I1,r1,q1]=>?_) (by rw[hs,hs2]) (by rw[hs2];rfl)));obtain l1|l2|e|⟨xs,qx⟩|⟨ys,qy⟩|q:=q1;subst e;obtain u|v|rfl|ru|rv:=vals2 r1;cases ru;cases rv;obtain us|rx|px|_:=I1.list qx;obtain ws|ry|py|_:=I1.list qy;refine call_zip_2 px.isList py.isList λh' a1 a2 a3 a4 a5 a6 hk=>wpAny_pyIter_zip a1 ?_
 have I2:Inv X pins σ H1 { s1 with heap:=h' }:=I1.kept (t':=s1.toks) hk;refine #[_,[s1.6+4,s1.6+2,s1.6+3,s1.6,s1.6+1],_,_,H1,rfl,I2,My (s1.6+4) (s1.6+2) (s1.6+3) s1.heap.objs.size (s1.6+1) l1 l2 (cI (gE _)) (cI (gE _)),#[a1,a2,#[_,_,a3],a4,a5],λb hb=>?_,q]
 have hb':s1.6<=b:=by
  simp only[aI,bw,or_false] at hb;rcases hb with rfl | rfl | rfl | rfl | rfl <;> first | exact yB _ _ | exact ak _
 exact I1.fpOk hb' (I1.hok.fresh hb')
theorem AB (hc:X.calm=true):qG X (.builtin "all") (λxs H Q=>∃(p:Addr) (bs:List Bool),xs=[.ref p]/\bE X.K H p (bs.map V.bl)/\Q (.bl (bs.all id)) H):=by
 intro pins s σ H xs us Q I r h;obtain p|bs|rfl|hp|q:=h;obtain u|rfl|ru:=vals1 r;cases ru;obtain vs|rv|pl|hz:=I.list hp
 have hb:PyProof.Rows.LSm.BoolsAre vs bs:=by
  clear q hp pl hz
  induction bs generalizing vs with
  | nil=>cases rv;exact .nil
  | cons b bs ih =>
   rw[iD] at rv;cases rv with
   | cons r1 r2=>cases r1;exact .cons b (ih _ r2)
 have hlt:p < s.6:=by obtain _|e|_:=pl.isList;exact Heap.lt_size e
 refine call_all_walk (wpAny_pyIter_list pl.isList ?_)
 refine #[s.6,[s.6,p],[s.6],vs.5.7,_,_,λi=>(bs[i]?).getD true,rfl,Walks.list (A:=X.A.in1) (I.ok.hd hc) _ p (cI hlt) vs.5,
  #[#[_,Heap.get?_push_size _ rfl,rfl,rfl],pl.isList.push _],λi v s' Q' E' hP hQ=>?_,λh' tk hk=>?_]
 ·obtain b|e|rfl:=hb.get i v (by simpa using hP);simp only[e,Option.getD_some] at hQ;exact wpAny_truthy_bool hQ
 ·have e:((List.range vs.5.7).all λi=>(bs[i]?).getD true)=bs.all id:=by
   rw[aN,hb.9];exact PyProof.Rows.LSm.range_all bs
  rw[e];exact #[.bl _,H,I.kept (t':=tk) (PyProof.Rows.LSm.kept_iter hk),rfl,q]
theorem OC (hc:X.calm=true):qG X (.builtin "sum") (λxs H Q=>∃(p:Addr) (ns:List Int),xs=[.ref p]/\bE X.K H p (ns.map V.int)/\Q (.int ns.sum) H):=by
 intro pins s σ H xs us Q I r h;obtain p|ns|rfl|hp|q:=h;obtain u|rfl|ru:=vals1 r;cases ru;obtain vs|rv|pl|_:=I.list hp;have hi:IntsAre vs ns:=intsAre_of rv;obtain xs|hx:=hi.allInts.items;have hl':s.heap.IsList p (intItems xs):=hx ▸ pl.isList;refine sum_intListG (I.ok.hd hc) hl' λh' tk t' hk=>?_
 have e1:ns=xs.toList.map (·.1):=by
  rw[<- nums_intItems,<- hx];exact (show numsOf vs.toArray.toList=ns from hi.numsOf).symm
 have e2:preSum (numAt xs) xs.7=ns.sum:=by
  rw[preSum_eq,aF (by simp),e1]
 rw[e2];exact #[.int _,H,I.kept (t':=tk) hk,#[_,rfl],q]
end
section
variable {K:FG9} {g:TG}
theorem uB (Pv:Nat->List V->Hp->Prop) (hz:xs.9<=sizeLine) (hw:ws.9=xs.9) (h0:Pv 0 [] H) (hl:∀i ys H,i<=xs.9->Pv i ys H->bE K H l1 xs/\bE K H l2 ws)
  (hs:∀i x y ys H p,xs[i]?=some x->ws[i]?=some y->ys.9<=i->Pv i ys H->H p=none->sR σ₀ g tf te (.ref p) (upd H p (.tup [x,y])) (λy H'=>Pv (i+1) (ys++[y]) H') (λH'=>Pv (i+1) ys H'))
  (hd:∀ys H,ys.9<=xs.9->Pv xs.9 ys H->∀p,H p=none->Q (.ref p) (upd H p (.lst ys))):uK (TX K l1 l2) σ₀ g tf te Q H:=by
 refine #[λi m ys H=>m=xs.9 - i/\i<=xs.9/\ys.9<=i/\Pv i ys H,#[xs.9,by simp,br _,br _,h0],?_];rintro i m ys H ⟨rfl,hi,hy,p⟩;obtain q1|q2:=hl i ys H hi p;by_cases hlt:i < xs.9
 ·refine .inr #[#[xs,ws,xs[i],ws[i]'(),q1,q2,by simp [hlt],by simp],(),λy H'=>Pv (i+1) (ys++[y]) H',λH'=>Pv (i+1) ys H',λy H' p'=>#[xs.9 - (i+1),(),rfl,hlt,by rw[ar,a9];lia,p'],λH' p'=>#[xs.9 - (i+1),(),rfl,hlt,(),p'],λx H' y=>?_];obtain r|x'|y'|rfl|hr|rfl|e1|e2:=y;exact hs i x' y' ys _ r (e1 xs q1) (e2 ws q2) hy p hr
 ·have e:i=xs.9:=()
  subst e;exact .inl #[#[xs,ws,q1,q2,.inl (ak _)],(),hd ys H hy p]
theorem Kx {tb:TS} {D:Ends} (Pv:Nat->St->Hp->Prop) (hw:ws.9=xs.9) (h0:Pv 0 σ H) (hl:∀i σ H,i<=xs.9->Pv i σ H->bE K H l1 xs/\bE K H l2 ws)
  (hs:∀i x y σ H p,xs[i]?=some x->ws[i]?=some y->Pv i σ H->H p=none->g (.ref p) σ (upd H p (.tup [x,y])) λσ2 H2=>tb { D with nx:=Pv (i+1),ct:=Pv (i+1),bk:=D.nx } σ2 H2) (hd:∀σ H,Pv xs.9 σ H->D.nx σ H) :
  ∃W:Nat->Nat->St->Hp->Prop,(∃m,W 0 m σ H)/\∀i m σ H,W i m σ H →
   ((TX K l1 l2).stop i H/\D.nx σ H)\/((TX K l1 l2).go i H/\∃N:St->Hp->Prop,(∀σ' H',N σ' H'->∃m',m' < m/\W (i+1) m' σ' H')/\∀x H',(TX K l1 l2).yld i H x H'->g x σ H' λσ2 H2=>tb { D with nx:=N,ct:=N,bk:=D.nx } σ2 H2):=by
 refine #[λi m σ H=>m=xs.9 - i/\i<=xs.9/\Pv i σ H,#[xs.9,by simp,br _,h0],?_];rintro i m σ H ⟨rfl,hi,p⟩;obtain q1|q2:=hl i σ H hi p;by_cases hlt:i < xs.9
 ·refine .inr #[#[xs,ws,xs[i],ws[i]'(),q1,q2,by simp [hlt],by simp],Pv (i+1),λσ' H' p'=>#[xs.9 - (i+1),(),rfl,hlt,p'],λx H' y=>?_];obtain r|x'|y'|rfl|hr|rfl|e1|e2:=y;exact hs i x' y' σ _ r (e1 xs q1) (e2 ws q2) p hr
 ·have e:i=xs.9:=()
  subst e;exact .inl #[#[xs,ws,q1,q2,.inl (ak _)],hd σ H p]
end
section
variable {X:Cx}
theorem oV (K:FG9) (n:Nat) {es:List Expr} {k:Nat} {pos:Pos} {t:OP} (h:Vm X es t) (hK:X.K=K:=by rfl) (hc:X.calm=true:=by rfl)
  (hn:(assignEach es X.env).9=n:=by rfl) (hst:(assignEach es X.env).findIdx? (·.1)=none:=by rfl):PG X (.Tuple es k pos) (Tr K n t):=by subst hK;exact rA hc h hn hst
theorem rT (K:FG9) (hK:X.K=K):Vr X (SV K):=by subst hK;exact bS
theorem kL (K:FG9) (hK:X.K=K):Vr X (SW K):=by subst hK;exact bC
theorem Qk (K:FG9) (hK:X.K=K) (hu:X.A.units+50 < cLine):xc X (compareOp .Eq) (US K):=by subst hK;exact Nv hu
theorem Ki (K:FG9) (hK:X.K=K) (hu:X.A.units+50 < cLine):xc X (compareOp .NotEq) (UR K):=by subst hK;exact rC hu
theorem wg (K:FG9) {tg l:Expr} {tl:TE} (hl:PE X l tl) (hK:X.K=K:=by rfl):PI X tg l (NU K tl):=by subst hK;exact b9 hl
theorem zK (K:FG9) (hK:X.K=K):VF X (SS K):=by subst hK;exact Dt
end
theorem fL {X:Cx} {e e':Expr} {es:List Expr} {te:TE} {t:TA} (h:e=e') (ha:PE X e' te) (hr:PA X es t) (hs:∀l,starEach (e' :: l) X.env=(false,eval e' X.env) :: starEach l X.env:=by intro _;rfl):PA X (e :: es) (jC te t):=by subst h;exact fV ha hr (hs _)
theorem lJ (hl:H l=some (.lst xs)) (hz:xs.9 < sizeLine) (h:Q .non (upd H l (.lst (xs++[y])))):Kf (.ref l) [y] H Q:=#[l,xs,y,rfl,rfl,hl,hz,h]
theorem Sw (h:Q (.bl (!decide (i=j))) H):VR (.bl i) (.bl j) H Q:=#[rfl,by
 have e:decide (V.bl i=V.bl j)=decide (i=j):=by simp
 rw[e];exact h]
theorem PD {K:FG9} (h:ta σ H λvs H1=>∃l1 l2,vs=[.ref l1,.ref l2]/\(∃xs,bE K H1 l1 xs)/\(∃ys,bE K H1 l2 ys)/\R (TX K l1 l2) H1):Tj K ta σ H R:=h
theorem iT (h1:H l=some (.lst xs)) (h2:H b=some (.lst zs)) (hz:xs.9+zs.9<=sizeLine) (h:∀p H',aH H H'->H p=none->H' p=some (.lst (xs++zs))->Q (.ref p) H'):UT (.ref l) (.ref b) H Q :=
 #[l,b,xs,zs,rfl,rfl,h1,h2,hz,λp hp=>h p _ (aH.new hp) hp aG]
theorem IJ {K:FG9} {lo hi:Option Int} (h1:bE K H a xs) (h:∀p H',aH H H'->H p=none->H' p=some (.lst (sJ xs lo hi))->Q (.ref p) H'):SS K (.ref a) lo hi H Q :=
 #[a,xs,rfl,h1,λp hp=>h p _ (aH.new hp) hp aG]
theorem mT {xs:List α} {i:Int} (h0:0<=i) (h1:i < xs.9):∃v,Il xs i=some v/\v∈xs/\xs[i.toNat]?=some v:=by
 have hj:i.toNat < xs.9:=()
 refine #[xs[i.toNat],?_,aM hj,by simp [hj]];have:=dq (xs:=xs) (j:=i.toNat) (v:=xs[i.toNat]) (by simp [hj]);rwa [Int.toNat_of_nonneg h0] at this
theorem cZ {α β:Type} {F:α->β->Prop}:∀{l1:List α} {l2:List β} {y:β},Paired F l1 l2->y∈l2->∃x∈l1,F x y
 | _,_,_,.nil,h=>nomatch h
 | _,_,_,.cons r t,h=>by
  rcases aI.mp h with rfl | h
  ·exact #[_,d7,r]
  ·obtain x|hx|q:=cZ t h;exact #[x,cw _ hx,q]
theorem cF {F:α->β->Prop} {l1:List α} {l2:List β} {i:Nat} {y:β} (h:Paired F l1 l2) (e:l2[i]?=some y):∃x,l1[i]?=some x/\F x y:=by
 have hl:=h.9;have hi:i < l2.9:=(aE.mp e).1;refine #[l1[i]'(),by simp,?_];have:=lO h (i:=i) () hi;have e2:l2[i]=y:=(aE.mp e).2;rwa [e2] at this
def Ie (n:Int×Int):Prop:=0 < n.2/\Int.gcd n.1 n.2=1/\Sz 8000 n.1/\Sz 8000 n.2
theorem take_snoc {α:Type} {l:List α} {v:α} (h:l[i]?=some v):l.take (i+1)=l.take i++[v]:=by rw[List.take_add_one,h];rfl
theorem aH.after (s:aH H H') (h:H r=Option.none):aH H (upd H' r o):=λb u e=>by rw[bo (gY e h)];exact s b u e
theorem c8.after (s:c8 b H H') (h:H r=Option.none):c8 b H (upd H' r o):=#[λc u e n=>by rw[bo (gY e h)];exact s.1 c u e n,λq hi=>(s.2 q hi).upd λz=>by obtain _|_|_|e:=hi;rw[<- z,h] at e;cases e]
theorem c8.same (s:c8 b H H') (e:aH H' H''):c8 b H H'':=s.trans e.upto
theorem za {α:Type} {Pr:α->Prop} {l:List α} {a:α} (h:∀n∈l,Pr n) (ha:Pr a):∀n∈l++[a],Pr n:=λn hn=>by
 rcases ay.mp hn with hn | hn
 ·exact h n hn
 ·have e:n=a:=by simpa using hn
  rw[e];exact ha
abbrev AF (h:Heap) (z TI TO:Addr) (f0 f1:Value):Prop:=h.get? z=some { cls:=.type "zip",dict:=none,data:=.fields [f0,f1,.bool false,.ref TI,.ref TO].toArray,slots:=[].toArray }
theorem JG (e:s.heap.get? a=some o) (h:Q (some o) s):wpAny (model prog w) A (loadIfAlive a) Q E s:=by
 intro Γ p hp;show Sem.wp _ _ (.loadIfAlive a .pure) _ _ _ _
 simp only[Sem.wp_loadIfAlive,e];exact wpAny_pure h Γ p hp
theorem Af {z TI TO T:Addr} (zr:AF s.heap z TI TO (rawInt T) (.bool b1)) (al:s.heap.get? T=some o)
  (h:∀h',AF h' z TI TO (rawInt T) (.bool true)->Heap.SameBut z s.heap h'->Q false { s with heap:=h' }):wpAny (model prog w) A (Builtin.SmallTypes.ownedTupleIsFree (.ref z)) Q E s:=by
 unfold Builtin.SmallTypes.ownedTupleIsFree;refine wpAny_bind (wpAny_field zr rfl (x:=rawInt T) rfl ?_);refine wpAny_bind (JG (a:=T) al ?_);refine wpAny_bind (wpAny_field zr rfl (x:=.bool b1) rfl ?_);cases b1 with
 | true=>exact wpAny_pure (h _ zr (.refl ..))
 | false=>exact wpAny_bind (wpAny_setField_rec zr (by simp) λh' zr' sb=>wpAny_pure (h h' zr' sb))
theorem Lu {z TI TO T i1 i2 l1 l2:Addr} {Q:Value->Shared->Prop} (D:ZipApart z TI TO i1 i2 l1 l2) (zr:AF s.heap z TI TO (rawInt T) (.bool b1)) (al:s.heap.get? T=some o)
  (pt:IsPair s.heap TI (.ref i1) (.ref i2)) (j1:s.heap.IsListIter i1 l1 k1) (j2:s.heap.IsListIter i2 l2 k2) (m1:s.heap.IsList l1 us) (m2:s.heap.IsList l2 ws) (eu:us[k1]?=some u) (ev:ws[k2]?=some v)
  (hQ:∀h',AF h' z TI TO (rawInt T) (.bool true)->h'.IsListIter i1 l1 (k1+1)->h'.IsListIter i2 l2 (k2+1)->IsPair h' s.heap.objs.size u v->(∀c o,c≠z->c≠i1->c≠i2->s.heap.get? c=some o->h'.get? c=some o)->Q (.ref s.6) { s with heap:=h' }) :
  wpAny (model prog w) A (Builtin.«zip.__next__» #[[.ref z],[]]) (λfin s'=>∃v,fin=.done (.ret v)/\Q v s') E s:=by
 change wpAny _ _ (field (Value.ref z) 2 >>= _) _ _ s
 refine wpAny_bind (wpAny_field zr rfl (x:=.bool false) rfl ?_)
 change wpAny _ _ (field (Value.ref z) 3 >>= _) _ _ s
 refine wpAny_bind (wpAny_field zr rfl (x:=.ref TI) rfl (wpAny_bind (wpAny_seqItems pt rfl ?_)))
 change wpAny _ _ (Builtin.SmallTypes.ownedTupleIsFree (Value.ref z) >>= _) _ _ s
 refine wpAny_bind (Af zr al λg1 zr1 sb1=>?_);simp only[jP,if_false];refine wpAny_bind ?_;rw[<- Array.forIn_toList];simp only[OT,De];have j1':=j1.extBut sb1.extBut D.i1z;have m1':=m1.extBut sb1.extBut D.l1z;refine wpAny_bind (wpAny_bind (wpAny_holding ?_))
 change wpAny _ _ (Builtin.SmallTypes.nextOf (Value.ref i1) >>= _) _ _ _
 refine wpAny_bind (wpAny_nextOf_list_item j1' m1' eu λg2 j1a sb2=>wpAny_pure ?_);refine wpAny_pure ?_;have j2':=(j2.extBut sb1.extBut D.i2z).extBut sb2.extBut D.i12.symm;have m2':=(m2.extBut sb1.extBut D.l2z).extBut sb2.extBut D.l2i1;refine wpAny_bind (wpAny_bind (wpAny_holding ?_))
 change wpAny _ _ (Builtin.SmallTypes.nextOf (Value.ref i2) >>= _) _ _ _
 refine wpAny_bind (wpAny_nextOf_list_item j2' m2' ev λg3 j2a sb3=>wpAny_pure ?_);refine wpAny_pure (wpAny_pure ?_);refine wpAny_bind (wpAny_newTuple (hsz:=kd rfl) ?_);have sz:g3.objs.7=s.6:=by rw[sb3.1,sb2.1,sb1.1]
 have up:∀c o,c≠z->c≠i1->c≠i2->s.heap.get? c=some o->g3.get? c=some o:=λc o c1 c2 c3 e=>sb3.extBut _ _ c3 (sb2.extBut _ _ c2 (sb1.extBut _ _ c1 e))
 have zr3:AF g3 z TI TO (rawInt T) (.bool true):=sb3.extBut _ _ D.i2z.symm (sb2.extBut _ _ D.i1z.symm zr1);refine wpAny_pure #[_,rfl,?_]
 change Q (.ref g3.objs.7) { s with heap:=g3.push { cls:=.type "tuple",data:=.seq [u,v].toArray } }
 have last:=hQ (g3.push { cls:=.type "tuple",data:=.seq [u,v].toArray }) (Heap.get?_push_of_some _ zr3) ((j1a.extBut sb3.extBut D.i12).at λo e=>Heap.get?_push_of_some _ e) (j2a.at λo e=>Heap.get?_push_of_some _ e)
  (by rw[<- sz];exact Heap.get?_push_size _ rfl) λc o c1 c2 c3 e=>Heap.get?_push_of_some _ (up c o c1 c2 c3 e)
 rw[sz];exact last
theorem NJ {z TI TO T i1 i2 l1 l2:Addr} (hh:A.handled=none) (D:ZipApart z TI TO i1 i2 l1 l2) (zr:AF s.heap z TI TO (rawInt T) (.bool b1)) (al:s.heap.get? T=some o)
  (pt:IsPair s.heap TI (.ref i1) (.ref i2)) (j1:s.heap.IsListIter i1 l1 k1) (m1:s.heap.IsList l1 us) (eu:us[k1]?=none)
  (hE:∀h' e,(∀c o,c≠z->c≠i1->c≠i2->s.heap.get? c=some o->h'.get? c=some o)->(∃o,h'.get? e=some o/\o.cls=.type "StopIteration")->E (.ref e) { s with heap:=h' }) :
  wpAny (model prog w) A (Builtin.«zip.__next__» #[[.ref z],[]]) Q E s:=by
 change wpAny _ _ (field (Value.ref z) 2 >>= _) _ _ s
 refine wpAny_bind (wpAny_field zr rfl (x:=.bool false) rfl ?_)
 change wpAny _ _ (field (Value.ref z) 3 >>= _) _ _ s
 refine wpAny_bind (wpAny_field zr rfl (x:=.ref TI) rfl (wpAny_bind (wpAny_seqItems pt rfl ?_)))
 change wpAny _ _ (Builtin.SmallTypes.ownedTupleIsFree (Value.ref z) >>= _) _ _ s
 refine wpAny_bind (Af zr al λg1 zr1 sb1=>?_);simp only[jP,if_false];refine wpAny_bind ?_;rw[<- Array.forIn_toList];simp only[OT,De];refine wpAny_bind (wpAny_bind (wpAny_holding ?_))
 change wpAny _ _ (Builtin.SmallTypes.nextOf (Value.ref i1) >>= _) _ _ _
 exact wpAny_bind (wpAny_nextOf_list_end hh (j1.extBut sb1.extBut D.i1z) (m1.extBut sb1.extBut D.l1z) eu λg2 e xb he=>hE g2 e (λc o c1 c2 _ q=>xb _ _ c2 (sb1.extBut _ _ c1 q)) he)
theorem Lq {z TI TO T i1 i2 l1 l2:Addr} (D:ZipApart z TI TO i1 i2 l1 l2) (zr:AF s.heap z TI TO (rawInt T) (.bool b1)) (al:s.heap.get? T=some o)
  (pt:IsPair s.heap TI (.ref i1) (.ref i2)) (j1:s.heap.IsListIter i1 l1 k1) (j2:s.heap.IsListIter i2 l2 k2) (m1:s.heap.IsList l1 us) (m2:s.heap.IsList l2 ws) (eu:us[k1]?=some u) (ev:ws[k2]?=some v)
  (hQ:∀h',AF h' z TI TO (rawInt T) (.bool true)->h'.IsListIter i1 l1 (k1+1)->h'.IsListIter i2 l2 (k2+1)->IsPair h' s.heap.objs.size u v->(∀c o,c≠z->c≠i1->c≠i2->s.heap.get? c=some o->h'.get? c=some o)->Q (some (.ref s.6)) { s with heap:=h' }) :
  wpAny (model prog w) A (pyNext (.ref z)) Q E s:=by
 have ty:s.TypeIs (.ref z) "zip":=#[_,zr,rfl];unfold pyNext;refine wpAny_bind (wpAny_attempt (wpAny_callSpecial?_slot (name:=Str.ofString "__next__") ty qI (wpAny_call_entry qI ty PySem.F.entry_zip_next ?_ (Vt _))));exact Lu D zr al pt j1 j2 m1 m2 eu ev λh' a1 a2 a3 a4 a5=>wpAny_pure (hQ h' a1 a2 a3 a4 a5)
theorem Lp {z TI TO T i1 i2 l1 l2:Addr} (hh:A.handled=none) (D:ZipApart z TI TO i1 i2 l1 l2) (zr:AF s.heap z TI TO (rawInt T) (.bool b1)) (al:s.heap.get? T=some o)
  (pt:IsPair s.heap TI (.ref i1) (.ref i2)) (j1:s.heap.IsListIter i1 l1 k1) (m1:s.heap.IsList l1 us) (eu:us[k1]?=none)
  (hQ:∀h',(∀c o,c≠z->c≠i1->c≠i2->s.heap.get? c=some o->h'.get? c=some o)->Q none { s with heap:=h' }):wpAny (model prog w) A (pyNext (.ref z)) Q E s:=by
 have ty:s.TypeIs (.ref z) "zip":=#[_,zr,rfl];unfold pyNext;refine wpAny_bind (wpAny_attempt (wpAny_callSpecial?_slot (name:=Str.ofString "__next__") ty qI (wpAny_call_entry qI ty PySem.F.entry_zip_next ?_ (Vt _))));refine NJ hh D zr al pt j1 m1 eu λh' e kk #[oe,he,hc]=>?_
 exact wpAny_bind (wpAny_isInstance (T:="StopIteration") (b:=true) #[oe,he,hc] isSubtype_stop (wpAny_pure (hQ _ kk)))
section
variable {σ:St}
theorem Inv.moved {ch:List Addr} (I:Inv X pins σ H s) (fx:∀b∈ch,md X pins H b) (up:∀b o,b∉ch->s.heap.get? b=some o->h'.get? b=some o) (hg:AllBare g') :
  Inv X pins σ H { s with heap:=h',gens:=g',drawn:=d',toks:=t' }:=by
 have nx:∀b o,H b=some o->b∉ch:=λb o e hb=>by have:=(fx b hb).1;rw[this] at e;cases e
 refine I.step (ch:=ch) (λb hb=>?_) (λb o _ _ hb e _=>up b o hb e) (λb o _ _ hb e _=>#[o.slots,up b o hb e]) (λb o hb e n=>n) (λb o hb e=>#[o,up b o hb e]) (λb q e=>e) (λb o q e=>e) (λb q e=>#[[].toArray,by rw[e];simp]) (λm hm=>?_) (λb o e=>?_) hg
 ·obtain _|f1|_|f3|f4|f5:=fx b hb;exact #[f3,f1,f4,f5]
 ·obtain o|es|ep|ho|r:=hm;exact #[o,es,ep,up _ o (λz=>(fx _ z).2.1 rfl) ho,r]
 ·refine (I.hok b o e).stay (λc v' hc q=>up c v' ?_ q) (λc q=>q) λc xs q=>q
  rcases hc with rfl | hc
  ·exact nx _ _ e
  ·exact nx _ _ hc
theorem Inv.track (I:Inv X pins σ H s) (fp:md X pins H p) (new:j5 X.prog X.w (upd H p o) s.heap p o):Inv X pins σ (upd H p o) s:=by
 have nt:∀{b:Addr} {u:HO},H b=some u->b≠p:=λe z=>by rw[z,fp.1] at e;cases e
 refine I.step (h':=s.8) (g':=s.gens) (d':=s.drawn) (t':=s.toks) (ch:=[p]) (λb hb=>?_) (λb o _ _ _ e _=>e) (λb o _ _ _ e _=>#[o.slots,e]) (λb o hb e n=>?_) (λb o _ e=>#[o,e]) (λb q e=>by rw[bo (nt e)];exact e) (λb o q e=>by rw[bo (nt e)];exact e)
  (λb q e=>#[[].toArray,by rw[bo (nt e),e];simp]) (λm hm=>hm) (λb u e=>?_) I.bare
 ·have e:b=p:=by simpa using hb
  subst e;obtain _|f1|_|f3|f4|f5:=fp;exact #[f3,f1,f4,f5]
 ·rw[bo λz=>hb (by simp [z])];exact n
 ·by_cases hb:b=p
  ·subst hb;rw[aG] at e;cases e;exact new
  ·rw[bo hb] at e;exact (I.hok b u e).stay (λc v _ q=>q) (λc q=>by rw[bo (nt q)];exact q) λc xs q=>by rw[bo (nt q)];exact q
end
def RP (H:Hp) (p:V×V) (x:V):Prop:=∃T,x=.ref T/\H T=some (.tup [p.1,p.2])
theorem RP.same (h:RP H p x) (e:aH H H'):RP H' p x:=by obtain T|q|g:=h;exact #[T,q,e _ _ g]
def Zst (h:Heap) (z TI TO:Addr) (base:Nat):Prop:=(∃a b,IsPair h TO a b)/\(IsZip h z TI TO .none\/∃(T:Addr) (b1:Bool) (o:Obj),AF h z TI TO (rawInt T) (.bool b1)/\h.get? T=some o/\@LE.le Nat instLENat base T)
theorem Dj {z TI TO i1 i2 l1 l2:Addr} (hz:AF h z TI TO f0 f1) (hTI:IsPair h TI (.ref i1) (.ref i2)) (hTO:IsPair h TO a b) (h1:h.IsListIter i1 l1 k1) (h2:h.IsListIter i2 l2 k2) (hl1:h.IsList l1 xs) (hl2:h.IsList l2 ys) (hT:TI≠TO) (hi:i1≠i2):ZipApart z TI TO i1 i2 l1 l2:=by
 obtain o1|g1|c1|_:=h1;obtain o2|g2|c2|_:=h2;obtain p1|q1|d1|_:=hl1;obtain p2|q2|d2|_:=hl2;have zt:Value.type "zip"≠.type "tuple":=oz ();have it:Value.type "list_iterator"≠.type "tuple":=oz ();have iz:Value.type "list_iterator"≠.type "zip":=oz ();have lz:Value.type "list"≠.type "zip":=oz ();have lt:Value.type "list"≠.type "tuple":=oz ();have li:Value.type "list"≠.type "list_iterator":=oz ()
 exact #[dZ hTI hz zt.symm,dZ hTO hz zt.symm,dZ g1 hz (by rw[c1];exact iz),dZ g2 hz (by rw[c2];exact iz),hT,dZ hTI g1 (by rw[c1];exact it.symm),dZ hTI g2 (by rw[c2];exact it.symm),dZ hTO g1 (by rw[c1];exact it.symm),dZ hTO g2 (by rw[c2];exact it.symm),hi,
  dZ q1 hz (by rw[d1];exact lz),dZ q1 hTO (by rw[d1];exact lt),dZ q1 g1 (by rw[d1,c1];exact li),dZ q1 g2 (by rw[d1,c2];exact li),dZ q2 hz (by rw[d2];exact lz),dZ q2 hTO (by rw[d2];exact lt),dZ q2 g1 (by rw[d2,c1];exact li),dZ q2 g2 (by rw[d2,c2];exact li)]
section
variable {X:Cx} {pins:List (Addr×Obj)} {σ:St}
theorem md.heap (f:md X pins H b) (e:H' b=none):md X pins H' b:=#[e,f.2]
structure ET where
 z:Addr
 TI:Addr
 TO:Addr
 i1:Addr
 i2:Addr
 S:Addr
 base:Nat
def ET.all (a:ET):List Addr:=[a.z,a.TI,a.TO,a.i1,a.i2,a.S]
structure ET.Ok (a:ET):Prop where
 tt:a.TI≠a.TO
 ii:a.i1≠a.i2
 Sz:a.S≠a.z
 STI:a.S≠a.TI
 STO:a.S≠a.TO
 Si1:a.S≠a.i1
 Si2:a.S≠a.i2
 lt:∀b∈a.all,@LT.lt Nat instLTNat b a.base
structure QV (X:Cx) (pins:List (Addr×Obj)) (σ:St) (H1:Hp) (a:ET) (l1 l2:Addr) (i:Nat) (H:Hp) (s:Shared):Prop where
 inv:Inv X pins σ H s
 same:aH H1 H
 fps:∀b∈a.all,md X pins H b
 sz:a.base<=s.heap.objs.size
 zst:Zst s.heap a.z a.TI a.TO a.base
 pt:IsPair s.heap a.TI (.ref a.i1) (.ref a.i2)
 j1:s.heap.IsListIter a.i1 l1 i
 j2:s.heap.IsListIter a.i2 l2 i
variable {a:ET} {l1 l2:Addr} {H1 H:Hp} {s:Shared} {i:Nat} {xs ys:List V}
theorem QV.push (L:QV X pins σ H1 a l1 l2 i H s) (O:a.Ok) (k:∀b o,b≠a.S->s.heap.get? b=some o->h'.get? b=some o) (hz:h'.objs.7=s.6):QV X pins σ H1 a l1 l2 i H { s with heap:=h' }:=by
 refine #[L.inv.moved (g':=s.gens) (d':=s.drawn) (t':=s.toks) (ch:=[a.S]) (λb hb=>?_) (λb o hb e=>k b o (λz=>hb (by simp [z])) e) L.inv.bare,L.same,L.fps,by show a.base<=h'.objs.7;rw[hz];exact L.sz,?_,k _ _ O.STI.symm L.pt,L.j1.at λo e=>k _ o O.Si1.symm e,L.j2.at λo e=>k _ o O.Si2.symm e]
 ·have e:b=a.S:=by simpa using hb
  rw[e];exact L.fps _ (by simp [ET.all])
 ·obtain ⟨c,d,z0⟩|z4:=L.zst;refine #[#[c,d,k _ _ O.STO.symm z0],?_];rcases z4 with z1 | ⟨T,b1,o,z1,z2,z3⟩
  ·exact .inl (k _ _ O.Sz.symm z1)
  ·refine .inr #[T,b1,o,k _ _ O.Sz.symm z1,k _ _ (λe=>?_) z2,z3];have:=O.lt a.S (by simp [ET.all]);rw[<- e] at this;exact absurd this (Nat.not_lt.mpr z3)
theorem Mp (O:a.Ok) (q1:bE X.K H1 l1 xs) (q2:bE X.K H1 l2 ys) (ex:xs[i]?=some x) (ey:ys[i]?=some y) (L:QV X pins σ H1 a l1 l2 i H s)
  (hQ:∀s',QV X pins σ H1 a l1 l2 (i+1) (upd H s.heap.objs.size (.tup [x,y])) s'->(∀c o,c∉[a.z,a.TO,a.i1,a.i2]->s.heap.get? c=some o->s'.heap.get? c=some o)->H s.6=none->Q (some (.ref s.6)) s'):wpAny (model X.prog X.w) A' (pyNext (.ref a.z)) Q E s:=by
 obtain I|sm|fps|sz|zst|pt|j1|j2:=id L;obtain us|ru|pu|_:=I.list (sm.seq q1);obtain ws|rw'|pw|_:=I.list (sm.seq q2);obtain u|eu|r1:=ru.get ex;obtain v|ev|r2:=rw'.get ey;have fx:∀b∈[a.z,a.TO,a.i1,a.i2],md X pins H b:=λb hb=>fps b (by simp only[ET.all,aI,bw,or_false] at hb ⊢;rcases hb with e | e | e | e <;> simp [e])
 have hT0:H s.6=none:=I.hok.fresh (ak _);have fT:md X pins H s.6:=I.fpOk (ak _) hT0;have lt:∀b∈a.all,b≠s.6:=λb hb e=>by have:=O.lt b hb;rw[e] at this;exact absurd this (Nat.not_lt.mpr sz)
 have fin:∀h',(∀c o,c∉[a.z,a.TO,a.i1,a.i2]->s.heap.get? c=some o->h'.get? c=some o)->IsPair h' s.heap.objs.size u v->IsPair h' a.TI (.ref a.i1) (.ref a.i2)->h'.IsListIter a.i1 l1 (i+1)->h'.IsListIter a.i2 l2 (i+1)->Zst h' a.z a.TI a.TO a.base →
   Q (some (.ref s.6)) { s with heap:=h' }:=λh' up pr pt' j1' j2' zst'=>by
  have I2:Inv X pins σ H { s with heap:=h' }:=I.moved (g':=s.gens) (d':=s.drawn) (t':=s.toks) fx up I.bare;have I3:Inv X pins σ (upd H s.heap.objs.size (.tup [x,y])) { s with heap:=h' }:=I2.track fT ⟨kd rfl,[u,v],.cons r1 (.cons r2 .nil),⟨_,pr,rfl,_,rfl⟩⟩;refine hQ _ #[I3,sm.trans (aH.new hT0),λb hb=>(fps b hb).heap (by rw[bo (lt b hb)];exact (fps b hb).1),?_,zst',pt',j1',j2'] up hT0;exact ag sz (cC (Heap.lt_size pr))
 obtain ⟨c,d,z0⟩|z4:=zst;rcases z4 with z1 | ⟨T,b1,o,z1,z2,z3⟩
 ·have D:=Dj z1 pt z0 j1 j2 pu.isList pw.isList O.tt O.ii;refine wpAny_pyNext_zip_item D z1 pt z0 j1 j2 pu.isList pw.isList (x:=u) (y:=v) (by simpa using eu) (by simpa using ev) λh' a1 a2 a3 a4 a5 a6 hk=>?_
  have up:∀c o,c∉[a.z,a.TO,a.i1,a.i2]->s.heap.get? c=some o->h'.get? c=some o:=λc o hc e=>by
   simp only[aI,bw,or_false,not_or] at hc;exact hk c o hc.1 hc.2.1 hc.2.2.1 hc.2.2.2 e
  exact fin h' up a5 (hk _ _ D.TIz D.TITO D.TIi1 D.TIi2 pt) a3 a4 #[#[_,_,a2],.inr #[s.6,false,_,a1,a5,sz]]
 ·have D:=Dj z1 pt z0 j1 j2 pu.isList pw.isList O.tt O.ii;refine Lq D z1 z2 pt j1 j2 pu.isList pw.isList (u:=u) (v:=v) (by simpa using eu) (by simpa using ev) λh' a1 a3 a4 a5 hk=>?_
  have up:∀c o,c∉[a.z,a.TO,a.i1,a.i2]->s.heap.get? c=some o->h'.get? c=some o:=λc o hc e=>by
   simp only[aI,bw,or_false,not_or] at hc;exact hk c o hc.1 hc.2.2.1 hc.2.2.2 e
  have Tn:∀b∈a.all,T≠b:=λb hb e=>by have:=O.lt b hb;rw[<- e] at this;exact absurd this (Nat.not_lt.mpr z3)
  exact fin h' up a5 (hk _ _ D.TIz D.TIi1 D.TIi2 pt) a3 a4 #[#[_,_,hk _ _ D.TOz D.TOi1 D.TOi2 z0],.inr #[T,true,o,a1,hk _ _ (Tn _ (by simp [ET.all])) (Tn _ (by simp [ET.all])) (Tn _ (by simp [ET.all])) z2,z3]]
theorem Mo (hh:A'.handled=none) (O:a.Ok) (q1:bE X.K H1 l1 xs) (q2:bE X.K H1 l2 ys) (hi:xs.9<=i) (L:QV X pins σ H1 a l1 l2 i H s)
  (hQ:∀s',Inv X pins σ H s'->(∀c o,c∉[a.z,a.TO,a.i1,a.i2]->s.heap.get? c=some o->s'.heap.get? c=some o)->Q none s'):wpAny (model X.prog X.w) A' (pyNext (.ref a.z)) Q E s:=by
 obtain I|sm|fps|sz|zst|pt|j1|j2:=id L;obtain us|ru|pu|_:=I.list (sm.seq q1);obtain ws|rw'|pw|_:=I.list (sm.seq q2);have lx:=ru.9;have none1:us.5[i]?=none:=by simp;lia
 have fx:∀b∈[a.z,a.TO,a.i1,a.i2],md X pins H b:=λb hb=>fps b (by simp only[ET.all,aI,bw,or_false] at hb ⊢;rcases hb with e | e | e | e <;> simp [e])
 have fin:∀h',(∀c o,c∉[a.z,a.TO,a.i1,a.i2]->s.heap.get? c=some o->h'.get? c=some o)->Q none { s with heap:=h' }:=λh' up=>hQ _ (I.moved (g':=s.gens) (d':=s.drawn) (t':=s.toks) fx up I.bare) up
 obtain ⟨c,d,z0⟩|z4:=zst;rcases z4 with z1 | ⟨T,b1,o,z1,z2,z3⟩
 ·have D:=Dj z1 pt z0 j1 j2 pu.isList pw.isList O.tt O.ii;refine wpAny_pyNext_zip_end hh D z1 pt z0 j1 j2 pu.isList pw.isList (.inl none1) λh' hk=>fin h' λc o hc e=>?_
  simp only[aI,bw,or_false,not_or] at hc;exact hk c o hc.1 hc.2.1 hc.2.2.1 hc.2.2.2 e
 ·have D:=Dj z1 pt z0 j1 j2 pu.isList pw.isList O.tt O.ii;refine Lp hh D z1 z2 pt j1 pu.isList none1 λh' hk=>fin h' λc o hc e=>?_
  simp only[aI,bw,or_false,not_or] at hc;exact hk c o hc.1 hc.2.2.1 hc.2.2.2 e
theorem Mt (hh:A'.handled=none) (O:a.Ok) (hz:xs.9<=sizeLine) (hl:ys.9=xs.9) (q1:bE X.K H1 l1 xs) (q2:bE X.K H1 l2 ys)
  (fin:∀s' H' ts acc c,Inv X pins σ H' s'->aH H1 H'->md X pins H' a.S->s'.heap.get? a.S=some (lobj acc c)->dg ts acc->Paired (RP H') (xs.zip ys) ts->R (.ok (.ret .none)) s') :
  ∀(k i:Nat) (s:Shared) (H:Hp) (ts:List V) (acc:List Value) (c:Nat),xs.9 - i=k->i<=xs.9->QV X pins σ H1 a l1 l2 i H s->s.heap.get? a.S=some (lobj acc c)->dg ts acc->Paired (RP H) ((xs.zip ys).take i) ts →
   codeAny (model X.prog X.w) A' (.builtin "list.extend.loop" #[[.ref a.S,.ref a.z,.none],[]]) R s:=by
 have Sn:a.S∉[a.z,a.TO,a.i1,a.i2]:=λh=>by
  simp only[aI,bw,or_false] at h;rcases h with e | e | e | e
  ·exact O.Sz e
  ·exact O.STO e
  ·exact O.Si1 e
  ·exact O.Si2 e
 intro k
 induction k with
 | zero =>
  intro i s H ts acc c hk hi L gS rv prs;have e:i=xs.9:=()
  refine codeAny_builtin T4 ?_;rw[Around.under_plainId mX _]
  change wpAny _ A'.in1 (pyNext (Value.ref a.z) >>= _) _ _ s
  refine wpAny_bind (Mo hh O q1 q2 () L λs' I' up=>wpAny_pure (fin s' H ts acc c I' L.same (L.fps _ (by simp [ET.all])) (up _ _ Sn gS) rv ?_));rwa [aF (by rw[AM];lia)] at prs
 | succ k ih =>
  intro i s H ts acc c hk hi L gS rv prs;have hlt:i < xs.9:=()
  have lt:=prs.9;have la:=rv.9;refine codeAny_builtin T4 ?_;rw[Around.under_plainId mX _]
  change wpAny _ A'.in1 (pyNext (Value.ref a.z) >>= _) _ _ s
  refine wpAny_bind (Mp O q1 q2 (x:=xs[i]) (y:=ys[i]'()) (by simp [hlt]) (by simp) L λs' L' up hT=>?_);have gS':=up _ _ Sn gS
  change wpAny _ A'.in1 (updateSeq a.S (·.push (Value.ref s.6)) >>= _) _ _ s'
  have small:acc.9<=sizeLine:=by
   rw[bY,AM] at lt
   lia
  refine wpAny_bind (wpAny_updateSeq gS' rfl (wpAny_pure #[plainId_quiet mX _,?_]) (by rw[aN];exact small) (by
   show (acc.toArray.push (Value.ref s.6)).7<=sizeLine+1
   rw[Array.size_push,aN]
   lia))
  have gS2:=mK gS' (λb=>b.push (Value.ref s.6));have e2:(acc.toArray.push (Value.ref s.6))=(acc++[Value.ref s.6]).5:=by simp
  rw[e2] at gS2;refine ih (i+1) _ (upd H s.heap.objs.size (.tup [xs[i],ys[i]'()])) (ts++[.ref s.6]) (acc++[.ref s.6]) _ () hlt (L'.push O (λb o hb e=>(Heap.get?_update_other _ _ (Ne.symm hb)).trans e) (Heap.size_update ..)) gS2 (rv.append (show dg [V.ref s.6] [Value.ref s.6] from .cons rfl .nil)) ?_;have zp:(xs.zip ys)[i]?=some (xs[i],ys[i]'()):=by simp [T6,hlt]
  rw[take_snoc zp];exact (Paired.imp' (λ_ _ z=>z.same (aH.new hT)) prs).snoc #[_,rfl,aG]
theorem Ir:typeLookup (.type "zip") "__len__"=pure Option.none:=by rw[typeLookup_type,builtinLookup_eq_fast];kernel_rfl
theorem E5:typeLookup (.type "zip") "__length_hint__"=pure Option.none:=by rw[typeLookup_type,builtinLookup_eq_fast];kernel_rfl
theorem Mr (hh:A'.handled=none) (O:a.Ok) (hz:xs.9<=sizeLine) (hl:ys.9=xs.9) (q1:bE X.K H1 l1 xs) (q2:bE X.K H1 l2 ys) (L:QV X pins σ H1 a l1 l2 0 H s) (gS:s.heap.get? a.S=some (lobj [] 0)) (z0:IsZip s.heap a.z a.TI a.TO .none)
  (fin:∀s' H' ts acc c,Inv X pins σ H' s'->aH H1 H'->md X pins H' a.S->s'.heap.get? a.S=some (lobj acc c)->dg ts acc->Paired (RP H') (xs.zip ys) ts->R (.ok (.ret .none)) s') :
  wpAny (model X.prog X.w) A'.in1 (Builtin.«list.__init__» #[[.ref a.S,.ref a.z],[]]) (λfl s'=>match fl with | .done f=>R (.ok f) s' | .again c'=>c'.quiet=true/\codeAny (model X.prog X.w) A' c' R s') (λe s'=>R (.error e) s') s:=by
 change wpAny _ A'.in1 (do let old <- Builtin.List.listItems (Value.ref a.S);Builtin.List.listUpdate (Value.ref a.S) (λ_=>[].toArray);letGo old.toList.reverse;Builtin.List.listExtendWith (Value.ref a.S) (Value.ref a.z) Value.none) _ _ s
 refine wpAny_bind ?_;unfold Builtin.List.listItems;refine wpAny_bind (wpAny_seqItems gS rfl (wpAny_pure ?_))
 change wpAny _ A'.in1 (updateSeq a.S (λ_=>[].toArray) >>= λ_=>letGo ([].toArray:Array Value).toList.reverse >>= λ_=>Builtin.List.listExtendWith (Value.ref a.S) (Value.ref a.z) Value.none) _ _ s
 refine wpAny_bind (wpAny_updateSeq gS rfl ?_);have g1:=mK gS (λ_=>([].toArray:Array Value));obtain ⟨n1,g1⟩:∃n1,(s.heap.update a.S (Obj.mapSeq λ_=>([].toArray:Array Value))).get? a.S=some (lobj [] n1):=#[_,g1];have L1:=L.push (h':=s.heap.update a.S (Obj.mapSeq λ_=>([].toArray:Array Value))) O (λb o hb e=>(Heap.get?_update_other _ _ (Ne.symm hb)).trans e) (Heap.size_update ..);have z1:IsZip (s.heap.update a.S (Obj.mapSeq λ_=>([].toArray:Array Value))) a.z a.TI a.TO .none:=(Heap.get?_update_other _ _ O.Sz).trans z0;refine wpAny_bind (wpAny_letGo ?_);unfold Builtin.List.listExtendWith;have ty:Shared.TypeIs { s with heap:=s.heap.update a.S (Obj.mapSeq λ_=>([].toArray:Array Value)) } (.ref a.z) "zip":=#[_,z1,rfl];refine wpAny_bind (wpAny_typeOf ty ?_);have h1:Builtin.List.listSameRef (.ref a.S) (.ref a.z)=false:=by simp [Builtin.List.listSameRef,O.Sz]
 have h2:(Value.type "zip" == Value.type "list")=false:=()
 have h3:(Value.type "zip" == Value.type "tuple")=false:=()
 simp only[h1,h2,h3,Bool.or_false,jP,if_false];refine wpAny_bind (wpAny_pyIter_zip z1 (wpAny_bind (wpAny_holding ?_)));unfold Builtin.List.listLengthHint;refine wpAny_bind (wpAny_specialOf ty Ir ?_)
 change wpAny _ A'.in1 (specialOf (Value.ref a.z) (Str.ofString "__length_hint__") >>= _) _ _ _
 refine wpAny_bind (wpAny_specialOf ty E5 (wpAny_pure ?_))
 change wpAny _ A'.in1 (rule "list.extend.makes-room" >>= λ_=>Builtin.List.listTouch (Value.ref a.S) >>= λ_=>again (.builtin "list.extend.loop" #[[Value.ref a.S,Value.ref a.z,Value.none],[]])) _ _ _
 refine wpAny_bind (wpAny_rule (wpAny_bind ?_))
 change wpAny _ A'.in1 (updateSeq a.S (·.push Value.none) >>= λ_=>updateSeq a.S (·.pop)) _ _ _
 refine wpAny_bind (wpAny_updateSeq g1 rfl ?_);have g2:=mK g1 (λb=>b.push Value.none);obtain ⟨n2,g2⟩:∃n2,((s.heap.update a.S (Obj.mapSeq λ_=>([].toArray:Array Value))).update a.S (Obj.mapSeq λb=>b.push Value.none)).get? a.S=some (lobj [Value.none] n2):=#[_,g2];have L2:=L1.push (h':=(s.heap.update a.S (Obj.mapSeq λ_=>([].toArray:Array Value))).update a.S (Obj.mapSeq λb=>b.push Value.none)) O (λb o hb e=>(Heap.get?_update_other _ _ (Ne.symm hb)).trans e) (Heap.size_update ..);refine wpAny_updateSeq g2 rfl ?_ (kd rfl);have g3:=mK g2 (λb=>b.pop);have L3:=L2.push (h':=((s.heap.update a.S (Obj.mapSeq λ_=>([].toArray:Array Value))).update a.S (Obj.mapSeq λb=>b.push Value.none)).update a.S (Obj.mapSeq λb=>b.pop)) O (λb o hb e=>(Heap.get?_update_other _ _ (Ne.symm hb)).trans e) (Heap.size_update ..);exact wpAny_pure #[plainId_quiet mX _,Mt hh O hz hl q1 q2 fin _ 0 _ H [] [] _ rfl (br _) L3 g3 .nil .nil]
end
section
variable {X:Cx}
theorem RU (n:Nat):ET.Ok #[n+4,n+2,n+3,n,n+1,n+5,n+5+1]:=by
 have ne:∀p q:Nat,p≠q->@Ne Addr p q:=λ_ _ h=>h
 refine #[ne (n+2) (n+3) (),ne n (n+1) (),ne (n+5) (n+4) (),ne (n+5) (n+2) (),ne (n+5) (n+3) (),ne (n+5) n (),ne (n+5) (n+1) (),λb hb=>?_];have hb':b∈[n+4,n+2,n+3,n,n+1,n+5]:=hb;show @LT.lt Nat instLTNat b (n+5+1)
 simp only[aI,bw,or_false] at hb';rcases hb' with e | e | e | e | e | e <;> (rw[e];exact bN (gE _) ())
def Fb (K:FG9) (ta:TA):TE:=λσ H Q=>ta σ H λvs H1=>∃(l1 l2:Addr) (xs ys:List V),vs=[.ref l1,.ref l2]/\bE K H1 l1 xs/\bE K H1 l2 ys/\ys.9=xs.9 /\
 ∀L ts H',aH H1 H'->H1 L=none->H' L=some (.lst ts)->Paired (RP H') (xs.zip ys) ts->Q (.ref L) H'
theorem IT {e1 e2:Expr} {ta:TA} {p p2 pos pos2:Pos} (hg:Gl X "list") (hm:X.mg "list"=none) (hg2:Gl X "zip") (hm2:X.mg "zip"=none) (ha:PA X [e1,e2] ta) (hc:X.calm=true:=by rfl)
  (hs:starEach [e1,e2] X.env=[(false,eval e1 X.env),(false,eval e2 X.env)]:=by rfl) (hs2:starEach [e2] X.env=[(false,eval e2 X.env)]:=by rfl)
  (hs3:starEach [Expr.Call (.Name "zip" p2) [e1,e2] [] pos2] X.env=[(false,eval (.Call (.Name "zip" p2) [e1,e2] [] pos2) X.env)]:=by rfl) :
  PE X (.Call (.Name "list" p) [.Call (.Name "zip" p2) [e1,e2] [] pos2] [] pos) (Fb X.K ta):=by
 intro pins s σ H Q I h;refine wpAny_Call_Name_kw (lZ I hg hm boot_list ?_);refine PyProof.Rows.callWith_type1 ?_ (by rw[hs3];rfl) rfl;rw[hs3];show wpAny _ _ (spliced ((false,eval (.Call (.Name "zip" p2) [e1,e2] [] pos2) X.env) :: [])) _ _ s
 refine Calls.spliced_cons ?_;refine Call_ (lZ I hg2 hm2 boot_zip (PyProof.Rows.callWith_type1 (iG (ha pos2 pins s σ H _ I h) λus s1 #[vs,H1,I1,r1,q1]=>?_) (by rw[hs,hs2]) (by rw[hs2];rfl)));obtain l1|l2|xs|ys|e|qx|qy|hl|q:=q1;subst e;obtain u|v|rfl|ru|rv:=vals2 r1;cases ru;cases rv;obtain us|rx|px|hz:=I1.list qx;obtain ws|ry|py|_:=I1.list qy;refine call_zip_2 px.isList py.isList λh' a1 a2 a3 a4 a5 a6 hk=>?_
 refine Calls.spliced_nil ?_;have I2:Inv X pins σ H1 { s1 with heap:=h' }:=I1.kept (t':=s1.toks) hk;have up:∀b o,h'.get? b=some o->(h'.push { cls:=.type "list",data:=.seq [].toArray }).get? b=some o:=λb o e=>Heap.get?_push_of_some _ e
 have O:ET.Ok #[s1.6+4,s1.6+2,s1.6+3,s1.6,s1.6+1,h'.objs.7,h'.objs.7+1]:=by
  rw[a6];exact RU s1.heap.objs.size
 have old:∀b∈(ET.mk (s1.6+4) (s1.6+2) (s1.6+3) s1.heap.objs.size (s1.6+1) h'.objs.size (h'.objs.7+1)).all,s1.6<=b:=λb hb=>by
  rw[a6] at hb;simp only[ET.all,aI,bw,or_false] at hb;rcases hb with rfl | rfl | rfl | rfl | rfl | rfl <;> first | exact yB _ _ | exact ak _
 have gS:(h'.push { cls:=.type "list",data:=.seq [].toArray }).get? h'.objs.7=some (lobj [] 0):=Heap.get?_push_size _ rfl;refine callType_codes (Q₁:=λob t=>ob=.ref h'.objs.7/\t={ s1 with heap:=h'.push { cls:=.type "list",data:=.seq [].toArray } }) PySem.F.called_list (PySem.F.typeCall_list_1 _) PySem.F.entry_list_init (code_list_new _ ⟨rfl,rfl⟩) λob t ht=>?_
 obtain rfl|rfl:=ht;refine #[#[_,gS,rfl],PySem.F.args_list_init_2 _ _,?_]
 have L:QV X pins σ H1 #[s1.6+4,s1.6+2,s1.6+3,s1.6,s1.6+1,h'.objs.7,h'.objs.7+1] l1 l2 0 H1 { s1 with heap:=h'.push { cls:=.type "list",data:=.seq [].toArray } } :=
  #[I2.kept (t':=s1.toks) up,aH.refl _,λb hb=>I1.fpOk (old b hb) (I1.hok.fresh (old b hb)),by rw[Heap.size_push];exact ak _,#[#[_,_,up _ _ a3],.inl (up _ _ a1)],up _ _ a2,a4.at λo e=>up _ o e,a5.at λo e=>up _ o e]
 refine Mr (A':=X.A.in1) (I.ok.hd hc) O hz hl qx qy L gS (up _ _ a1) λs' H' ts acc c I' sm fS gS' vs' prs=>#[rfl,?_]
 have nS:H1 h'.objs.7=none:=I1.hok.fresh (old _ (by simp [ET.all]));have lt:=prs.9;rw[AM] at lt;exact #[.ref h'.objs.7,_,I'.track (o:=.lst ts) fS #[(),acc,c,vs',gS'],rfl,q _ ts _ (sm.trans (aH.new fS.1)) nS aG (Paired.imp' (λ_ _ z=>z.same (aH.new fS.1)) prs)]
end
end L2
namespace Nm
def xO:List Int->Int->Int
 | [],m=>m
 | b :: r,m=>xO r (m*(b / g m b))
theorem wH (hm:0 < m) (hb:0 < b):0 < m*(b / g m b):=lC hm (Jl (t:=m) hb)
theorem Eb:b∣m*(b / g m b):=by
 have h1:=Aq m b;refine #[lo m b,?_];have h2:b / g m b*g m b=b:=xR m b
 calc m*(b / g m b)=lo m b*g m b*(b / g m b):=by rw[h1]
  _=lo m b*(b / g m b*g m b):=by rw[nK,mN (g m b)]
  _=b*lo m b:=by rw[h2,mN]
theorem As:∀{bs:List Int} {m:Int},0 < m->(∀b∈bs,0 < b)->0 < xO bs m
 | [],_,hm,_=>hm
 | b :: r,m,hm,h=>As (bs:=r) (wH hm (h b d7)) λc hc=>h c (cw _ hc)
theorem F9:∀{bs:List Int} {m:Int},m∣xO bs m
 | [],_=>Int.dvd_refl _
 | b :: r,m=>Int.dvd_trans (Int.dvd_mul_right m _) (F9 (bs:=r))
theorem F8:∀{bs:List Int} {m b:Int},b∈bs->b∣xO bs m
 | c :: r,m,b,h=>by
  rcases aI.mp h with rfl | h
  ·exact Int.dvd_trans Eb (F9 (bs:=r))
  ·exact F8 (bs:=r) h
end Nm
namespace L2
open PySem PySem.Spec PyProof.Rows Nm
def Ic (K:FG9) (H:Hp) (p:Addr) (ns:List (Int×Int)):Prop:=∃xs,H p=some (.lst xs)/\Paired (λn x=>JV K H x n) ns xs
theorem Ic.same {K:FG9} (h:Ic K H p ns) (e:aH H H'):Ic K H' p ns:=by obtain xs|g|q:=h;exact #[xs,e _ _ g,Paired.imp' (λ_ _ z=>e.num z) q]
def FQ (K:FG9) (T:String):V->Hp->VK->Prop:=λx H Q=>Ld K T x H Q\/∃a xs b,x=.ref a/\sL K H a xs/\PySem.W.kitOne K (.type "tuple") (.type T)=some b/\Q (.bl b) H
theorem CD:∀{bs:List Int} {m b:Int},xO (bs++[b]) m=xO bs m*(b / g (xO bs m) b)
 | [],_,_=>rfl
 | c :: r,m,b=>CD (bs:=r)
def ia (ns:List (Int×Int)) (B:Int):List Int:=ns.map λn=>n.1*(B / n.2)
def jk (ns:List (Int×Int)):Int:=xO (ns.map (·.2)) 1
def Oq (ns ms:List (Int×Int)):Int:=(List.zipWith (λx y=>x*y) (ia ns (jk ns)) (ia ms (jk ms))).sum
theorem uC (h:n∈ns):n.2∣jk ns:=F8 (aA.mpr #[n,h,rfl])
theorem IK {K:FG9} (h:ta σ H λvs H1=>∃(l1 l2:Addr) (xs ys:List V),vs=[.ref l1,.ref l2]/\bE K H1 l1 xs/\bE K H1 l2 ys/\ys.9=xs.9 /\
 ∀L ts H',aH H1 H'->H1 L=none->H' L=some (.lst ts)->Paired (RP H') (xs.zip ys) ts->Q (.ref L) H'):Fb K ta σ H Q:=h
theorem V3 (hb:0 < b) (h:Sz k b):Sz k (g m b):=h.le (by
 have h1:(g m b).natAbs=Int.gcd m b:=by unfold g;simp
 rw[h1];exact nG () (by have:=gV (a:=m) (b:=b);exact iO.mpr this |> λz=>by simpa using z))
theorem OV {ts us:List Int} {i:Nat} (h:((ts.map V.int).zip (us.map V.int))[i]?=some pq):∃t u,ts[i]?=some t/\us[i]?=some u/\pq=(.int t,.int u):=by
 rw[T6,aD,aD] at h;obtain h1|h2:=h;cases e1:ts[i]? with
 | none=>rw[e1] at h1;cases h1
 | some t =>
  cases e2:us[i]? with
  | none=>rw[e2] at h2;cases h2
  | some u =>
   rw[e1] at h1;rw[e2] at h2;refine #[t,u,rfl,rfl,?_];cases pq;simp at h1 h2;rw[h1,h2]
def Bv (ns:List (Int×Int)):Bool:=ns.all λn=>decide (n=(0,1))
inductive MM (K:FG9) (vs:List V) (H:Hp) (Q:VK) (E9:XK):Prop
 | mk (p:Addr) (ns:List (Int×Int)):vs=[.ref p]->Ic K H p ns->ns.9<=1000->(∀H',aH H H'->Q (.bl (Bv ns)) H')->MM K vs H Q E9
inductive Co (K:FG9) (vs:List V) (H:Hp) (Q:VK) (E9:XK):Prop
 | mk (p:Addr) (ns:List (Int×Int)):vs=[.ref p,.int ns.9]->Ic K H p ns->ns.9<=1000->(∀n∈ns,Ie n)->(∀H',aH H H'->Q (.bl true) H')->Co K vs H Q E9
theorem Qg {X:Cx} {a:Expr} {ta:TE} {pos:Pos} {c:Str} {T:String} {p p2:Pos} (hg:Gl X "isinstance") (hm:X.mg "isinstance"=none) (hb:bootBuiltins c=some (.type T)) (hmc:X.mg c=none) (ha:PE X a ta) (hgc:Gl X c:=by rfl) (hn:c≠"__name__":=by decide)
  (hd:(c == ("__debug__":Str))=false:=by decide) (he:starEach [a,.Name c p2] X.env=[(false,eval a X.env),(false,eval (.Name c p2) X.env)]:=by rfl)
  (hpl:(backTo pos (starEach [.Name c p2] X.env)).any (·.1)=false:=by rfl) (he2:starEach [.Name c p2] X.env=[(false,eval (.Name c p2) X.env)]:=by rfl):PE X (.Call (.Name "isinstance" p) [a,.Name c p2] [] pos) (VA (FQ X.K T) ta):=by
 intro pins s σ H Q I h;refine wpAny_Call_Name_kw (lZ I hg hm PyProof.Rows.boot_isinstance ?_);have hA:PA X [a,.Name c p2] (jC ta (jC (tC (.ty T)) AS)):=fV ha (fV (Kh hgc hmc hb rfl hn hd) ir he2) (by rw[he,he2])
 have hq:jC ta (jC (tC (.ty T)) AS) σ H (λvs H1=>∃x,vs=[x,.ty T]/\FQ X.K T x H1 Q):=by
  show ta σ H λx H1=>∃x',[x,V.ty T]=[x',V.ty T]/\FQ X.K T x' H1 Q
  have e:(λx H1=>∃x',[x,V.ty T]=[x',V.ty T]/\FQ X.K T x' H1 Q)=λx H1=>FQ X.K T x H1 Q:=by
   funext x H1;apply propext;constructor
   ·rintro ⟨x',e,q⟩;cases e;exact q
   ·intro q;exact #[x,rfl,q]
  rw[e];exact h
 refine PyProof.Rows.callWith_builtin1 (iG (hA pos pins s σ H _ I hq) λus s1 #[vs,H1,I1,r1,x,e,q1]=>?_) (by rw[he,he2]) hpl;subst e;obtain u|w'|rfl|ru|rt:=vals2 r1;cases rt;rcases q1 with ⟨t,bb,ty,ek,q⟩ | ⟨ad,xs,bb,rfl,hs,ek,q⟩
 ·exact CI I1 ru ty ek λtk=>#[.bl bb,H1,I1.tok tk,rfl,q]
 ·cases ru;obtain its|_|⟨o,g1,g2,_⟩|_:=I1.tuple hs;exact eh PySem.W.kitx_tuple I1.kIn #[o,g1,g2] ek (λz=>nomatch z) λtk=>#[.bl bb,H1,I1.tok tk,rfl,q]
theorem Nb (h:H l=some (.lst [x])) (hk:k<=1000) (q:∀p H',aH H H'->H p=none->H' p=some (.lst (List.replicate k x))->Q (.ref p) H'):UQ (.ref l) (.int k) H Q :=
 #[l,k,[x],rfl,rfl,h,(),(),cC (cU (by simp;lia)),λp hp=>q p _ (aH.new hp) hp (by rw[aG];simp)]
theorem TC {k:Nat} (h:k<=xs.9):sJ xs none (some (k:Int))=xs.take k:=by
 unfold sJ;rw[HT.zW,HT.v7,j6 h];simp
theorem Oz {k:Nat}:sJ xs (some (k:Int)) none=xs.drop k:=by
 unfold sJ;rw[HT.zW,HT.v7];by_cases h:k<=xs.9
 ·rw[j6 h,aF (by simp)]
 ·rw[Nat.min_eq_right (),List.drop_of_length_le (),List.drop_of_length_le ()];simp
theorem vO {α β:Type} {F:α->β->Prop} {x:α} {y:β} (h:F x y):∀m:Nat,Paired F (List.replicate m x) (List.replicate m y)
 | 0=>.nil
 | m+1=>.cons h (vO h m)
theorem eK (h:a < n):Mg n (a:Int)=some a:=by
 unfold Mg;rw[if_pos (),if_pos (),Int.toNat_natCast]
theorem Ho {k:Nat}:sJ xs none (some (k:Int))=xs.take k:=by
 by_cases h:k<=xs.9
 ·exact TC h
 ·unfold sJ;rw[HT.zW,HT.v7,Nat.min_eq_right (),aF (by simp),aF ()];rfl
theorem mQ {α β:Type} {F:α->β->Prop}:∀{l1:List α} {l2:List β} (_:Paired F l1 l2) (k:Nat),Paired F (l1.take k) (l2.take k)
 | _,_,.nil,k=>by simp;exact .nil
 | _,_,.cons h r,0=>.nil
 | _,_,.cons h r,k+1=>.cons h (mQ r k)
def PY (K:FG9):List V->Hp->VK->Prop:=λxs H Q=>∃p ys,xs=[.ref p]/\(bE K H p ys\/sL K H p ys)/\∀l,H l=none->Q (.ref l) (upd H l (.lst ys))
theorem dO (K:FG9) (hK:X.K=K):qG X (.type "list") (PY K):=by subst hK;exact rZ
theorem aH.none (s:aH H H') (h:H' l=Option.none):H l=Option.none:=by
 cases e:H l with
 | none=>rfl
 | some o=>have:=s _ _ e;rw[h] at this;cases this
theorem MI (h:b.natAbs<=1000000):Sz 20 b:=bO h ()
theorem c8.none (u:c8 b H H') (B:ig H' b) (h:H' l=Option.none):H l=Option.none:=by
 cases e:H l with
 | none=>rfl
 | some o =>
  by_cases z:l=b
  ·obtain _|_|_|_|_|e2|_:=B;rw[<- z,h] at e2;cases e2
  ·have:=u.1 l o e z;rw[h] at this;cases this
end L2
namespace Nm
def nm (q:Rat):Int×Int:=(q.num,(q.den:Int))
theorem jR (q:Rat):0 < (nm q).2:=by have:=q.den_pos;show 0 < (q.den:Int);lia
theorem Jc (q:Rat):Int.gcd (nm q).1 (nm q).2=1:=q.reduced
theorem NF (h:nm p=nm q):p=q:=by
 have h1:p.num=q.num:=congrArg Prod.fst h;have h2:(p.den:Int)=q.den:=congrArg Prod.snd h;exact Rat.ext h1 ()
theorem rJ (q:Rat):(q.num:Rat)=q*(q.den:Rat):=by
 have h:=Rat.num_divInt_den q;rw[Rat.divInt_eq_div] at h
 have hd:((q.den:Int):Rat)≠0:=by
  intro z;have z:=yz.mp z;have:=q.den_pos
  lia
 have e:((q.den:Int):Rat)=(q.den:Rat):=aW _
 calc (q.num:Rat)=(q.num:Rat) / ((q.den:Int):Rat)*((q.den:Int):Rat):=(Rat.div_mul_cancel hd).symm
  _=q*(q.den:Rat):=by rw[h,e]
theorem U0 (hb:0 < b) (hg:Int.gcd a b=1) (e:q*(b:Rat)=(a:Rat)):(a,b)=nm q:=by
 have h1:a*(q.den:Int)=q.num*b:=by
  apply eT.mp;rw[aY,aY,<- e,rJ,aW];grind
 obtain e1|e2:=uniq hb (jR q) hg (Jc q) h1;exact Prod.ext e1 e2
theorem oi {t b:Int} (hb:0 < b) (e:q*(b:Rat)=(t:Rat)):(lo t b,hi t b)=nm q:=by
 refine U0 (Jl hb) (F7 ()) ?_;have h:=Jj t b;have hb':(b:Rat)≠0:=λz=>by have:=yz.mp z;lia
 have h2:((lo t b:Int):Rat)*(b:Rat)=(t:Rat)*((hi t b:Int):Rat):=by rw[<- aY,h,aY]
 rw[<- e] at h2;have h3:(q*((hi t b:Int):Rat) - ((lo t b:Int):Rat))*(b:Rat)=0:=by grind
 rcases AI.mp h3 with h4 | h4
 ·grind
 ·exact absurd h4 hb'
def Fr (M V:Nat) (q:Rat):Prop:=∃z:Int,q*(M:Rat)=(z:Rat)/\z.natAbs<=V*M
theorem Fr.mono (h:Fr M V q) (l:V<=V'):Fr M V' q:=by obtain z|e|b:=h;exact #[z,e,ag b (ax _ l)]
theorem Fr.scale (h:Fr M V q) (k:Nat):Fr (M*k) V q:=by
 obtain z|e|b:=h;refine #[z*k,?_,?_]
 ·rw[fP,aY,<- e,aW,Rat.mul_assoc]
 ·rw[dH,cJ,<- dm];exact ax _ b
theorem Fr.scaleL (h:Fr M V q) (k:Nat):Fr (k*M) V q:=by rw[cv];exact h.scale k
theorem Fr.dvd (h:Fr M V q) (d:M∣N):Fr N V q:=by obtain k|rfl:=d;exact h.scale k
theorem Fr.add (h:Fr M V p) (h':Fr M W q):Fr M (V+W) (p+q):=by
 obtain z|e|b:=h;obtain z'|e'|b':=h';refine #[z+z',by rw[AK,<- e,<- e',Rat.add_mul],?_];rw[C9];have:=Int.natAbs_add_le z z'
 lia
theorem Fr.neg (h:Fr M V q):Fr M V (-q):=by
 obtain z|e|b:=h;exact #[-z,by rw[dE,<- e,Rat.neg_mul],by rw[lh];exact b]
theorem Fr.mul (h:Fr M V p) (h':Fr N W q):Fr (M*N) (V*W) (p*q):=by
 obtain z|e|b:=h;obtain z'|e'|b':=h';refine #[z*z',?_,?_]
 ·rw[fP,aY,<- e,<- e'];grind
 ·rw[dH]
  calc z.natAbs*z'.natAbs<=(V*M)*(W*N):=aL b b'
   _=V*W*(M*N):=by rw[dm,Nat.mul_left_comm M,<- dm]
theorem Fr.zero:Fr M V 0:=#[0,by simp,by simp]
theorem Fr.int {i:Int} (h:i.natAbs<=V):Fr M V (i:Rat):=#[i*M,by rw[aY,aW],by rw[dH,cJ];exact ax _ h]
theorem Fr.one (h:1<=V):Fr M V 1:=Fr.int (i:=1) h
theorem Fr.den (h:Fr M V q):(q.den:Int)∣(M:Int):=by
 obtain z|e|b:=h
 have h1:q.num*(M:Int)=z*(q.den:Int):=by
  apply eT.mp;rw[aY,aY,<- e,rJ,aW,aW];grind
 have h2:(q.den:Int)∣q.num*(M:Int):=#[z,by rw[h1,mN]];exact rV (by rw[mO];exact Jc q) h2
theorem Fr.den_le (h:Fr M V q) (hM:0 < M):q.den<=M:=nG hM (yC.mp h.den)
theorem Fr.num_le (h:Fr M V q) (hM:0 < M):q.num.natAbs<=V*M:=by
 have hd:=h.den;obtain z|e|b:=h;obtain k|hk:=yC.mp hd;have hk0:k≠0:=λz=>by rw[z,Nat.mul_zero] at hk;lia
 have h1:z=q.num*(k:Int):=by
  apply eT.mp;rw[aY,<- e,rJ,aW,hk,fP];grind
 rw[h1] at b;exact ag (pY ()) b
theorem Fr.own (q:Rat) (h:q.num.natAbs<=V):Fr q.den V q:=#[q.num,(rJ q).symm,ag h (cN _ q.den_pos)]
theorem Fr.sz (h:Fr M V q) (hM:0 < M) (h1:M<=2^k) (h2:V<=2^j):Sz (j+k+1) (nm q).1/\Sz (k+1) (nm q).2:=by
 constructor
 ·show q.num.natAbs < 2^(j+k+1)
  have h3:=h.num_le hM;have h4:V*M<=2^j*2^k:=aL h2 h1;rw[eF,aV];have:=Nat.two_pow_pos (j+k);rw[aV] at this
  lia
 ·show (q.den:Int).natAbs < 2^(k+1)
  have h3:=h.den_le hM;rw[cJ,eF];have:=Nat.two_pow_pos k
  lia
theorem Fr.sum {M V:Nat}:∀{l:List Rat},(∀x∈l,Fr M V x)->Fr M (l.9*V) l.sum
 | [],_=>by simp;exact Fr.zero
 | x :: r,h=>by
  rw[List.sum_cons,bx,eD,jN];exact (h x (.head _)).add (Fr.sum λy hy=>h y (.tail _ hy))
def cA (xs ys:List Rat):Rat:=(List.zipWith (λx y=>x*y) xs ys).sum
theorem Fr.dot (h:∀x∈xs,Fr M V x) (h':∀y∈ys,Fr N W y):Fr (M*N) (xs.9*(V*W)) (cA xs ys):=by
 have q:=Fr.sum (M:=M*N) (V:=V*W) (l:=List.zipWith (λx y=>x*y) xs ys) λz hz=>by
  obtain i|hi|e:=bM hz;rw[k9] at e;rw[<- e];exact (h _ (aM _)).mul (h' _ (aM _))
 exact q.mono (ax _ (by rw[cV];lia))
theorem xW (xs ys:List Rat):cA xs ys=cA ys xs:=by
 unfold cA;rw[List.zipWith_comm];congr 2;funext a b;exact cP ..
theorem yY:∀{bs:List Int} {m M:Int},0 < m->m∣M->(∀b∈bs,0 < b/\b∣M)->xO bs m∣M
 | [],_,_,_,h,_=>h
 | b :: r,m,M,hm,h,hb=>by
  have b1:=hb b d7;refine yY (bs:=r) (wH hm b1.1) ?_ λc hc=>hb c (cw _ hc)
  have gp:0 < g m b:=Aw ();have e1:=Aq m b;have e2:=xR m b;obtain u|hu:=h;obtain v|hv:=b1.2
  have h3:lo m b*u=hi m b*v:=by
   apply RT (show g m b≠0 by lia)
   calc lo m b*u*g m b=lo m b*g m b*u:=by rw[nK,mN u,<- nK]
    _=m*u:=by rw[e1]
    _=M:=hu.symm
    _=b*v:=hv
    _=hi m b*g m b*v:=by rw[e2]
    _=hi m b*v*g m b:=by rw[nK,mN (g m b),<- nK]
  have h4:hi m b∣lo m b*u:=#[v,h3];have h5:hi m b∣u:=rV (by rw[mO];exact F7 ()) h4;obtain w|hw:=h5;refine #[w,?_];show M=m*hi m b*w
  rw[hu,hw,nK]
theorem Ee (hb:0 < b) (d:a∣b) (h:Sz k b):Sz k a:=h.le (nG () (iO.mpr d))
end Nm
namespace Nm
def Dr (W:Nat) (x:Rat):Prop:=x.num.natAbs<=W/\x.den<=W
def wd:List Nat->Nat
 | []=>1
 | a :: r=>a*wd r
theorem xH:∀{l:List Nat},(∀a∈l,0 < a)->0 < wd l
 | [],_=>Nat.one_pos
 | a :: r,h=>bQ (h a (.head _)) (xH λb hb=>h b (.tail _ hb))
theorem xI:∀{l:List Nat} {a:Nat},a∈l->a∣wd l
 | b :: r,a,h=>by
  rcases aI.mp h with rfl | h
  ·exact pA ..
  ·exact nH (xI h) (eX ..)
theorem Aa {k:Nat}:∀{l:List Nat},(∀a∈l,a<=2^k)->wd l<=2^(k*l.9)
 | [],_=>by simp [wd]
 | a :: r,h=>by
  rw[bx,Nat.mul_succ,aV,cv (2^(k*r.9))];exact aL (h a (.head _)) (Aa λb hb=>h b (.tail _ hb))
def GF (M V:Nat) (rows:LR9):Prop:=∀xs∈rows,∀x∈xs,Fr M V x
def TZ (c n i:Nat) (rows:LR9):Prop:=∃M,0 < M/\M<=2^(i*(c*n+2))/\GF M (2^(20+2*i)) rows
theorem To:TZ c n 0 []:=#[1,(),by simp,λ_ h=>nomatch h]
theorem Tq (c n i:Nat):(i+1)*(c*n+2)=i*(c*n+2)+(c*n+2):=eD ..
theorem Qs (h:TZ c n i rows) (hl:xs.9=n) (hd:∀x∈xs,Dr (2^c) x) (hc:c<=20):TZ c n (i+1) (rows++[xs]):=by
 obtain M|h0|h1|h2:=h
 have dp:0 < wd (xs.map (·.den)):=xH λa ha=>by
  obtain x|_|rfl:=aA.mp ha;exact x.den_pos
 have dl:wd (xs.map (·.den))<=2^(c*n):=by
  have:=Aa (k:=c) (l:=xs.map (·.den)) λa ha=>by
   obtain x|hx|rfl:=aA.mp ha;exact (hd x hx).2
  rwa [af,hl] at this
 refine #[M*wd (xs.map (·.den)),bQ h0 dp,?_,λys hy x hx=>?_]
 ·rw[Tq,aV];exact aL h1 (ag dl (ai () ()))
 ·rcases ay.mp hy with hy | hy
  ·exact ((h2 ys hy x hx).scale _).mono (ai () ())
  ·have e:ys=xs:=by simpa using hy
   subst e;have f:Fr x.den (2^c) x:=Fr.own x (hd x hx).1;have g:=(f.dvd (xI (aA.mpr #[x,hx,rfl]))).scaleL M;exact g.mono (ai () ())
def cu (rows:LR9) (w:Nat):LR9:=(List.range w).map λj=>rows.map λxs=>xs.getD j 0
def dJ (one other:LR9) (w:Nat):LR9:=one.map λxs=>(cu other w).map λys=>cA ys xs
theorem dC:(cu rows w).9=w:=by simp [cu]
theorem jW:∀ys∈cu rows w,ys.9=rows.9:=λys hy=>by
 obtain j|_|rfl:=aA.mp hy;exact af ..
theorem getD_map {α:Type} {l:List α} {f:α->Rat} (h:i < l.9):(l.map f).getD i 0=f l[i]:=by
 rw[aa,aD,ae h];rfl
theorem KU (h:∀xs∈rows,xs.9=w):cu (cu rows w) rows.9=rows:=by
 apply eG
 ·exact dC
 ·intro i h1 h2;have e:(cu (cu rows w) rows.9)[i]=(cu rows w).map λxs=>xs.getD i 0:=by simp [cu]
  rw[e];have hw:=h rows[i] (aM h2);apply eG
  ·rw[af,dC,hw]
  ·intro j h3 h4;rw[iE];have e2:(cu rows w)[j]'(by rw[dC];lia)=rows.map λxs=>xs.getD j 0:=by simp [cu]
   rw[e2,getD_map h2,aa,ae h4];rfl
end Nm
namespace L2
open PySem PySem.Spec PyProof.Rows Nm
theorem c8.sqt {K:FG9} (u:c8 b H H') (B:ig H b) (h:sL K H a xs):sL K H' a xs:=by
 rcases h with (h | ⟨o,h⟩) | h
 ·exact .inl (.inl (u.tup B h))
 ·exact .inl (.inr #[o,u.other (λz=>by obtain _|_|_|_|_|e|_:=B;rw[z,e] at h;cases h) h])
 ·exact .inr h
theorem MK {K:FG9} (h:sL K H a xs) (hl:H l=some (.lst ys)):sL K (upd H l o) a xs:=by
 rcases h with (h | ⟨o,h⟩) | h
 ·exact .inl (.inl (by rw[bo λz=>by rw[z,hl] at h;cases h];exact h))
 ·exact .inl (.inr #[o,by rw[bo λz=>by rw[z,hl] at h;cases h];exact h])
 ·exact .inr h
def bW (K:FG9) (H:Hp) (q:Rat) (x:V):Prop:=JV K H x (nm q)
section
variable {K:FG9} {H H':Hp} {q:Rat} {x:V} {b l p:Addr} {qs:List Rat}
theorem bW.same (h:bW K H q x) (e:aH H H'):bW K H' q x:=e.num h
theorem bW.upto (h:bW K H q x) (u:c8 b H H') (B:ig H b):bW K H' q x:=by obtain p|e|s:=h;exact #[p,e,u.sqt B s]
theorem bW.updL (h:bW K H q x) (hl:H l=some (.lst ys)):bW K (upd H l o) q x:=by obtain p|e|s:=h;exact #[p,e,MK s hl]
theorem bW.mk (h:H r=some (.tup [.int a,.int c])) (e:(a,c)=nm q):bW K H q (.ref r):=#[r,rfl,by rw[<- e];exact sL.of h]
def cS (K:FG9) (H:Hp) (p:Addr) (qs:List Rat):Prop:=∃xs,H p=some (.lst xs)/\Paired (bW K H) qs xs
theorem cS.same (h:cS K H p qs) (e:aH H H'):cS K H' p qs:=by obtain xs|g|r:=h;exact #[xs,e _ _ g,Paired.imp' (λ_ _ z=>z.same e) r]
theorem cS.upto (h:cS K H p qs) (u:c8 b H H') (B:ig H b) (n:p≠b):cS K H' p qs:=by obtain xs|g|r:=h;exact #[xs,u.other n g,Paired.imp' (λ_ _ z=>z.upto u B) r]
theorem cS.updL (h:cS K H p qs) (hl:H l=some (.lst ys)) (n:p≠l):cS K (upd H l o) p qs:=by obtain xs|g|r:=h;exact #[xs,by rw[bo n];exact g,Paired.imp' (λ_ _ z=>z.updL hl) r]
theorem yo {α β γ:Type} {F:α->β->Prop} {f:γ->α}:∀{l:List γ} {l2:List β},Paired (λc x=>F (f c) x) l l2->Paired F (l.map f) l2
 | _,_,.nil=>.nil
 | _,_,.cons r t=>.cons r (yo t)
theorem cS.rowK (h:cS K H p qs):Ic K H p (qs.map nm):=by obtain xs|g|r:=h;exact #[xs,g,yo (F:=λn x=>JV K H x n) r]
def cW (K:FG9) (H0 H:Hp) (qs:List Rat) (x:V):Prop:=∃q,x=V.ref q/\H0 q=none/\cS K H q qs
def bp (K:FG9) (H0 H:Hp) (p:Addr) (rows:LR9):Prop:=∃xs,H p=some (.lst xs)/\Paired (cW K H0 H) rows xs/\V.ref p∉xs
theorem iH {rows:LR9} (h:∃H2,H2 p=none/\Paired (cW K H0 H2) rows ys):V.ref p∉ys:=λhm=>by
 obtain H2|e|pr:=h;obtain qs|_|q|z|_|xs|g|_:=cZ pr hm;cases z;rw[e] at g;cases g
variable {H0:Hp} {rows:LR9}
theorem cW.same (h:cW K H0 H qs x) (e:aH H H'):cW K H0 H' qs x:=by obtain q|a|b|c:=h;exact #[q,a,b,c.same e]
theorem cW.upto (h:cW K H0 H qs x) (u:c8 b H H') (B:ig H b) (nb:H0 b≠none):cW K H0 H' qs x:=by obtain q|a|c|d:=h;exact #[q,a,c,d.upto u B λz=>nb (by rw[<- z];exact c)]
theorem cW.weak (h:cW K H0 H qs x) (e:aH H1 H0):cW K H1 H qs x:=by obtain q|a|b|c:=h;exact #[q,a,e.none b,c]
theorem bp.same (h:bp K H0 H p rows) (e:aH H H'):bp K H0 H' p rows:=by obtain xs|g|r|n:=h;exact #[xs,e _ _ g,Paired.imp' (λ_ _ z=>z.same e) r,n]
theorem bp.upto (h:bp K H0 H p rows) (u:c8 b H H') (B:ig H b) (n:p≠b) (nb:H0 b≠none):bp K H0 H' p rows:=by obtain xs|g|r|nn:=h;exact #[xs,u.other n g,Paired.imp' (λ_ _ z=>z.upto u B nb) r,nn]
theorem bp.weak (h:bp K H0 H p rows) (e:aH H1 H0):bp K H1 H p rows:=by obtain xs|g|r|n:=h;exact #[xs,g,Paired.imp' (λ_ _ z=>z.weak e) r,n]
end
def Gh:Kind Rat:=U1.via nm (λ_ _ e=>NF e) (λK H x q=>bW K H q x) id
def CH:Kind (List Rat):=Tf Gh
def xQ:Kind (LR9):=Tf CH
theorem cS.kind {K:FG9} (h:cS K H p qs):CH.R K H (.ref p) qs:=by obtain xs|g|q:=h;exact #[p,xs,rfl,bE.of g,q]
theorem bp.kind {K:FG9} (h:bp K H0 H p rows):xQ.R K H (.ref p) rows:=by obtain xs|g|q|_:=h;exact #[p,xs,rfl,bE.of g,Paired.imp' (λ_ _ #[q,a,_,c]=>by rw[a];exact c.kind) q]
def mU (x:Rat):Prop:=Sz 4000 (nm x).1/\Sz 4000 (nm x).2
def Fits (l:List Rat):Prop:=∃M V:Nat,0 < M/\M<=2^900/\V<=2^900/\∀x∈l,Fr M V x
theorem Fits.szn (h:Fits l) (hx:x∈l):mU x:=by
 obtain M|V|h0|h1|h2|h3:=h;obtain a|b:=(h3 x hx).sz h0 h1 h2;exact #[a.mono (),b.mono ()]
theorem Fits.ok (h:Fits l) (hx:x∈l):Ie (nm x):=#[jR x,Jc x,(h.szn hx).1.mono (),(h.szn hx).2.mono ()]
theorem Jq {M V:Nat} (h0:0 < M) (h1:M<=2^1800) (h2:V<=2^1810) (h:Fr M V x):mU x:=by
 obtain a|b:=h.sz h0 h1 h2;exact #[a.mono (),b.mono ()]
inductive sV (K:FG9) (f:Rat->Rat->Rat) (vs:List V) (H:Hp) (Q:VK) (E9:XK):Prop
 | mk (u v:V) (x y:Rat):vs=[u,v]->bW K H x u->bW K H y v->mU x->mU y->(∀r H',aH H H'->bW K H' (f x y) (.ref r)->Q (.ref r) H')->sV K f vs H Q E9
section
variable {K:FG9}
theorem IV (hf:∀x y:Rat,(f x y)*(((nm x).2*(nm y).2:Int):Rat)=((F (nm x).1 (nm x).2 (nm y).1 (nm y).2:Int):Rat)) (h:sV K f vs H Q E):Kd K F vs H Q E:=by
 obtain u|v|x|y|rfl|⟨p,rfl,hp⟩|⟨q,rfl,hq⟩|⟨s1,s2⟩|⟨s3,s4⟩|k:=h;refine #[p,q,_,_,_,_,rfl,hp,hq,jR x,jR y,s1,s2,s3,s4,λr H' s g=>k r H' s (bW.mk g ?_)];exact oi (lC (jR x) (jR y)) (hf x y)
theorem rK (x:Rat):(((nm x).1:Int):Rat)=x*(((nm x).2:Int):Rat):=by
 show (x.num:Rat)=x*(((x.den:Nat):Int):Rat)
 rw[rJ,aW]
theorem KH (h:sV K (λx y=>x+y) vs H Q E):Kd K RK vs H Q E:=IV (λx y=>by
 unfold RK;rw[AK,aY,aY,aY,rK,rK];grind) h
theorem J5 (h:sV K (λx y=>x - y) vs H Q E):Kd K Oh vs H Q E:=IV (λx y=>by
 unfold Oh;rw[AJ,aY,aY,aY,rK,rK];grind) h
theorem Km (h:sV K (λx y=>x*y) vs H Q E):Kd K Og vs H Q E:=IV (λx y=>by
 unfold Og;rw[aY,aY,rK,rK];grind) h
end
def JS (M:Int) (ns:List (Int×Int)):Prop:=0 < M/\Sz 4400 M/\∀n∈ns,0 < n.2/\n.2∣M/\Sz 4400 n.1
theorem JS.bot (h:JS M ns):0 < jk ns/\Sz 4400 (jk ns):=by
 have hb:∀b∈ns.map (·.2),0 < b/\b∣M:=λb hb=>by
  obtain n|hn|rfl:=aA.mp hb;exact #[(h.2.2 n hn).1,(h.2.2 n hn).2.1]
 exact #[As () λb q=>(hb b q).1,Ee h.1 (yY () (Int.one_dvd _) hb) h.2.1]
inductive MO (K:FG9) (vs:List V) (H:Hp) (Q:VK) (E9:XK):Prop
 | mk (p:Addr) (bs:List Int) (M:Int):vs=[.ref p]->bE K H p (bs.map V.int)->0 < M->Sz 4400 M->((∀b∈bs,0 < b/\b∣M))->Q (.int (xO bs 1)) H->MO K vs H Q E9
inductive MP (K:FG9) (vs:List V) (H:Hp) (Q:VK) (E9:XK):Prop
 | mk (p:Addr) (ns:List (Int×Int)) (M:Int):vs=[.ref p]->Ic K H p ns->ns.9<=1000->JS M ns->(∀H',aH H H'->Q (.int (jk ns)) H')->MP K vs H Q E9
inductive Fg (K:FG9) (vs:List V) (H:Hp) (Q:VK) (E9:XK):Prop
 | mk (p:Addr) (ns:List (Int×Int)) (M:Int) (B:Int):vs=[.ref p,.int B]->Ic K H p ns->ns.9<=1000->JS M ns->0 < B->Sz 4400 B->(∀r H',H r=none->aH H H'->H' r=some (.lst ((ia ns B).map V.int))->Q (.ref r) H')->Fg K vs H Q E9
theorem E7 (h:JS M ns) (hB:0 < B) (sB:Sz 4400 B) (ht:t∈ia ns B):Sz 8800 t:=by
 obtain n|hn|rfl:=aA.mp ht;have hp:=h.2.2 n hn
 have sq:Sz 4400 (B / n.2):=sB.le (by
  rw[T7 ()];exact Nat.div_le_self ..)
 exact (hp.2.2.mul sq).mono ()
theorem sP (h:(nm x).2∣B):(((nm x).1*(B / (nm x).2):Int):Rat)=x*(B:Rat):=by
 obtain k|rfl:=h;have hp:=jR x;rw[Int.mul_ediv_cancel_left _ (),aY,aY,rK];grind
theorem Gk {B C:Int}:∀{xs ys:List Rat},(∀x∈xs,(nm x).2∣B)->(∀y∈ys,(nm y).2∣C)->(((List.zipWith (λx y=>x*y) (ia (xs.map nm) B) (ia (ys.map nm) C)).sum:Int):Rat)=cA xs ys*((B:Rat)*(C:Rat))
 | [],ys,_,_=>by simp [ia,cA]
 | x :: xs,[],_,_=>by simp [ia,cA]
 | x :: xs,y :: ys,h1,h2=>by
  have ih:=Gk (B:=B) (C:=C) (xs:=xs) (ys:=ys) (λz hz=>h1 z (.tail _ hz)) (λz hz=>h2 z (.tail _ hz));have e1:=sP (h1 x (.head _));have e2:=sP (h2 y (.head _));have e3:(List.zipWith (λx y=>x*y) (ia ((x :: xs).map nm) B) (ia ((y :: ys).map nm) C)).sum=((nm x).1*(B / (nm x).2))*((nm y).1*(C / (nm y).2))+(List.zipWith (λx y=>x*y) (ia (xs.map nm) B) (ia (ys.map nm) C)).sum:=rfl;have e4:cA (x :: xs) (y :: ys)=x*y+cA xs ys:=rfl;rw[e3,e4,AK,aY,ih,e1,e2];grind
theorem Qx (h1:0 < jk (xs.map nm)) (h2:0 < jk (ys.map nm)):(lo (Oq (xs.map nm) (ys.map nm)) (jk (xs.map nm)*jk (ys.map nm)),hi (Oq (xs.map nm) (ys.map nm)) (jk (xs.map nm)*jk (ys.map nm)))=nm (cA xs ys):=by
 refine oi (lC h1 h2) ?_;unfold Oq;rw[Gk (λx hx=>uC (aA.mpr #[x,hx,rfl])) (λx hx=>uC (aA.mpr #[x,hx,rfl])),aY]
inductive Ff (K:FG9) (vs:List V) (H:Hp) (Q:VK) (E9:XK):Prop
 | mk (p:Addr) (w:Nat) (H0:Hp) (rows:LR9):vs=[.ref p,.int w]->bp K H0 H p rows->rows.9<=1000->w<=1000->(∀xs∈rows,xs.9=w)->(∀r H',H r=none->aH H H'->bp K H H' r (cu rows w)->Q (.ref r) H')->Ff K vs H Q E9
def RV (m:Nat) (a:Int):List Rat:=(List.range m).map λ(i:Nat)=>if ((i:Nat):Int)=a then 1 else 0
inductive Fe (K:FG9) (vs:List V) (H:Hp) (Q:VK) (E9:XK):Prop
 | mk (m:Nat) (a:Int):vs=[.int m,.int a]->m<=1000->(∀r H',H r=none->aH H H'->cS K H' r (RV m a)->Q (.ref r) H')->Fe K vs H Q E9
inductive zF (K:FG9) (vs:List V) (H:Hp) (Q:VK) (E9:XK):Prop
 | mk (b:Addr) (w:Nat):vs=[.ref b,.int w]->ig H b->1<=w->w<=1000000->(∀r x H',Dr (max w 6) x->bW K H' x (.ref r)->ig H' b->c8 b H H'->Q (.ref r) H')->zF K vs H Q E9
inductive Fx (K:FG9) (vs:List V) (H:Hp) (Q:VK) (E9:XK):Prop
 | mk (b:Addr) (m w:Nat):vs=[.ref b,.int m,.int w]->ig H b->m<=1000->1<=w->w<=1000000->(∀r xs H',H r=none->cS K H' r xs->xs.9=m->(∀x∈xs,Dr (max w 6) x)->ig H' b->c8 b H H'->Q (.ref r) H')->Fx K vs H Q E9
inductive Fj (K:FG9) (vs:List V) (H:Hp) (Q:VK) (E9:XK):Prop
 | mk (p q:Addr) (xs ys:List Rat):vs=[.ref p,.ref q]->cS K H p xs->cS K H q ys->ys.9=xs.9->xs.9<=1000->(∀x∈xs,mU x)->(∀y∈ys,mU y)->(∀r H',H r=none->aH H H'->cS K H' r (List.zipWith (λx y=>x+y) xs ys)->Q (.ref r) H')->Fj K vs H Q E9
inductive MQ (K:FG9) (vs:List V) (H:Hp) (Q:VK) (E9:XK):Prop
 | mk (u:V) (q:Addr) (c:Rat) (ys:List Rat):vs=[u,.ref q]->bW K H c u->mU c->cS K H q ys->ys.9<=1000->(∀y∈ys,mU y)->(∀r H',H r=none->aH H H'->cS K H' r (ys.map λy=>c*y)->Q (.ref r) H')->MQ K vs H Q E9
inductive zJ (K:FG9) (vs:List V) (H:Hp) (Q:VK) (E9:XK):Prop
 | mk (p:Addr) (H0:Hp) (rows:LR9):vs=[.ref p]->bp K H0 H p rows->rows.9<=1000->(∀xs∈rows,xs.9<=1000)->(∀r H',H r=none->aH H H'->bp K H H' r rows->Q (.ref r) H')->zJ K vs H Q E9
section
variable {K:FG9} {g:TG}
theorem dn {F:Hp->α->V->Prop} (G:Hp->β->V->Prop) (f:α->β) (hx:H a=some (.lst xs)) (pf:Paired (F H) as xs) (hl:as.9<=1000)
  (hF:∀{H H' c x},F H c x->aH H H'->F H' c x) (hG:∀{H H' c x},G H c x->aH H H'->G H' c x)
  (hs:∀(i:Nat) c x H' NY NN,as[i]?=some c->aH H H'->F H' c x->(∀y H2,aH H' H2->G H2 (f c) y->NY y H2)->sR σ₀ g tf te x H' NY NN)
  (hd:∀ys H' p,H p=none->aH H H'->H' p=some (.lst ys)->Paired (G H') (as.map f) ys->(∃H2,H2 p=none/\Paired (G H2) (as.map f) ys)->Q (.ref p) H'):uK (QW K a) σ₀ g tf te Q H:=by
 have lx:=pf.9;refine eB (K:=K) (xs:=xs) (λi ys H'=>aH H H'/\Paired (G H') ((as.take i).map f) ys) j8 #[aH.refl _,.nil] (λi ys H' _ #[s,_]=>bE.of (s _ _ hx)) ?_ ?_
 ·rintro i x ys H' hx' hlen ⟨s,pr⟩;obtain c|ec|hc:=cF pf hx';refine hs i c x H' _ _ ec s (hF hc s) λy H2 s2 gy=>#[s.trans s2,?_]
  rw[take_snoc ec,bR];exact bV (Paired.imp' (λ_ _ z=>hG z s2) pr) (.cons gy .nil)
 ·rintro ys H' hy ⟨s,pr⟩ p hp;rw[aF ()] at pr;exact hd ys _ p (s.none hp) (s.trans (aH.new hp)) aG (Paired.imp' (λ_ _ z=>hG z (aH.new hp)) pr) #[H',hp,pr]
theorem fD (G:Hp->β->V->Prop) (f:Nat->β) (hl:n<=1000) (hG:∀{H H' c x},G H c x->aH H H'->G H' c x)
  (hs:∀(i:Nat) H' NY NN,i < n->aH H H'->(∀y H2,aH H' H2->G H2 (f i) y->NY y H2)->sR σ₀ g tf te (.int i) H' NY NN)
  (hd:∀ys H' p,H p=none->aH H H'->H' p=some (.lst ys)->Paired (G H') ((List.range n).map f) ys->(∃H2,H2 p=none/\Paired (G H2) ((List.range n).map f) ys)->Q (.ref p) H'):uK (Io 0 n) σ₀ g tf te Q H:=by
 refine rW (λi ys H'=>aH H H'/\Paired (G H') ((List.range i).map f) ys) j8 #[aH.refl _,.nil] ?_ ?_
 ·rintro i ys H' hi hlen ⟨s,pr⟩;rw[zi];refine hs i H' _ _ hi s λy H2 s2 gy=>#[s.trans s2,?_]
  rw[sN,bR];exact bV (Paired.imp' (λ_ _ z=>hG z s2) pr) (.cons gy .nil)
 ·rintro ys H' hy ⟨s,pr⟩ p hp;exact hd ys _ p (s.none hp) (s.trans (aH.new hp)) aG (Paired.imp' (λ_ _ z=>hG z (aH.new hp)) pr) #[H',hp,pr]
theorem uZ (G:Hp->β->V->Prop) (C:β->Prop) (hB:ig H b) (hl:n<=1000) (hG:∀{H' H'' c x},G H' c x->c8 b H' H''->ig H' b->G H'' c x)
  (hs:∀(i:Nat) H' NY NN,i < n->c8 b H H'->ig H' b->(∀y c H2,c8 b H' H2->ig H2 b->C c->G H2 c y->NY y H2)->sR σ₀ g tf te (.int i) H' NY NN)
  (hd:∀ys cs H' p,H p=none->c8 b H H'->ig H' b->H' p=some (.lst ys)->cs.9=n->(∀c∈cs,C c)->Paired (G H') cs ys->(∃H2,H2 p=none/\Paired (G H2) cs ys)->Q (.ref p) H'):uK (Io 0 n) σ₀ g tf te Q H:=by
 refine rW (λi ys H'=>c8 b H H'/\ig H' b/\∃cs,cs.9=i/\(∀c∈cs,C c)/\Paired (G H') cs ys) j8 #[(aH.refl _).upto,hB,[],rfl,(λ_ z=>nomatch z),.nil] ?_ ?_
 ·rintro i ys H' hi hlen ⟨u,B,cs,lc,hc,pr⟩;rw[zi];refine hs i H' _ _ hi u B λy c H2 u2 B2 cc gy=>#[u.trans u2,B2,cs++[c],by simp [lc],za hc cc,bV (Paired.imp' (λ_ _ z=>hG z u2 B) pr) (.cons gy .nil)]
 ·rintro ys H' hy ⟨u,B,cs,lc,hc,pr⟩ p hp;have s:aH H' (upd H' p (.lst ys)):=aH.new hp;exact hd ys cs _ p (u.none B hp) (u.same s) (B.same s) aG lc hc (Paired.imp' (λ_ _ z=>hG z s.upto B) pr) #[H',hp,pr]
end
theorem fH {g:TG} {tb:TS} {D:Ends} (Pv:Nat->St->Hp->Prop) (h0:Pv 0 σ H)
  (hs:∀(i:Nat) σ H,i < n->Pv i σ H->g (.int i) σ H λσ2 H2=>tb { D with nx:=Pv (i+1),ct:=Pv (i+1),bk:=D.nx } σ2 H2) (hd:∀σ H,Pv n σ H->D.nx σ H) :
  ∃W:Nat->Nat->St->Hp->Prop,(∃m,W 0 m σ H)/\∀i m σ H,W i m σ H →
   ((Io 0 n).stop i H/\D.nx σ H)\/((Io 0 n).go i H/\∃N:St->Hp->Prop,(∀σ' H',N σ' H'->∃m',m' < m/\W (i+1) m' σ' H')/\∀x H',(Io 0 n).yld i H x H'->g x σ H' λσ2 H2=>tb { D with nx:=N,ct:=N,bk:=D.nx } σ2 H2) :=
 CL (lo:=0) Pv h0 (λi σ H hi p=>by rw[zi];exact hs i σ H hi p) hd
theorem ow:qG X (.type "int") (λxs H Q=>∃b:Bool,xs=[.bl b]/\Q (.int (if b=true then 1 else 0)) H):=by
 intro pins s σ H xs us Q I r h;obtain b|rfl|q:=h;obtain u|rfl|ru:=vals1 r;cases ru;exact call_int_bool #[.int _,H,I.tok _,#[_,rfl],q]
theorem p7 (K:FG9) (hK:X.K=K):qG X (.builtin "len") (λxs H Q=>∃p ys,xs=[.ref p]/\(bE K H p ys\/sL K H p ys)/\Q (.int ys.9) H):=by subst hK;exact be
theorem Nl {st:Stmt}:PS X st (λ_ _ _=>False):=λ_ _ _ _ _ _ h=>h.elim
theorem NO {t b:Int} (hb:0 < b) (h1:t.natAbs<=W) (h2:b.natAbs<=W):∃q:Rat,(lo t b,hi t b)=nm q/\Dr W q/\q*(b:Rat)=(t:Rat):=by
 have hb':(b:Rat)≠0:=λz=>by have:=yz.mp z;lia
 have e:(t:Rat) / (b:Rat)*(b:Rat)=t:=Rat.div_mul_cancel hb';have h:=oi hb e;refine #[_,h,#[?_,?_],e]
 ·have:=congrArg Prod.fst h;have z:=lo_le (t:=t) (b:=b) ();show ((nm ((t:Rat) / (b:Rat))).1).natAbs<=W
  rw[<- this];exact ag z h1
 ·have:=congrArg Prod.snd h;have z:=RH (t:=t) (b:=b) ();have hd:(((t:Rat) / (b:Rat)).den:Int)=hi t b:=this.symm;have hp:=Jl (t:=t) hb
  lia
theorem Lx {K:FG9} (h:Paired (bW K H) qs xs) (hj:j < qs.9):∃v,Il xs (j:Int)=some v/\bW K H (qs.getD j 0) v:=by
 have hl:=h.9;refine #[xs[j]'(),dq (by simp),?_];have:=lO h (i:=j) hj ();rwa [aa,ae hj]
theorem CN {xs ys:List Rat} (h1:i < xs.9) (h2:i < ys.9):cA (xs.take (i+1)) (ys.take (i+1))=cA (xs.take i) (ys.take i)+xs.getD i 0*ys.getD i 0:=by
 have e1:xs[i]?=some (xs.getD i 0):=by rw[aa,ae h1];rfl
 have e2:ys[i]?=some (ys.getD i 0):=by rw[aa,ae h2];rfl
 unfold cA;rw[take_snoc e1,take_snoc e2,List.zipWith_append (by simp;lia),List.sum_append];simp [mJ]
theorem getD_mem {xs:List Rat} (h:i < xs.9):xs.getD i 0∈xs:=by
 rw[aa,ae h];exact aM h
theorem BP {xs ys:List Rat} (h:ys.9=xs.9):List.zipWith (λx y=>x+y) xs ys=(List.range xs.9).map λi=>xs.getD i 0+ys.getD i 0:=by
 apply fG;intro i;rw[cR,aD];by_cases hi:i < xs.9
 ·rw[eI hi,ae hi,ae (show i < ys.9 by lia)];simp [aa,ae hi,ae (show i < ys.9 by lia)]
 ·rw[aQ (show (List.range xs.9).9<=i by simp;lia),aQ (show xs.9<=i by lia)];rfl
theorem cW.updL {K:FG9} (h:cW K H0 H qs x) (hl:H l=some (.lst ys)) (nl:H0 l≠none):cW K H0 (upd H l o) qs x:=by obtain q|a|b|c:=h;exact #[q,a,b,c.updL hl λz=>nl (by rw[<- z];exact b)]
theorem ig.at (B:ig H b):H b≠none:=by obtain _|_|_|_|_|e|_:=B;rw[e];simp
theorem Inner.at (B:ig H b) (i:Inner H b q):H q≠none:=by
 obtain q'|i'|xs|e:=B.inner;rw[<- Inner.inj i' i,e];simp
theorem dM {F:α->β->Prop} {l1:List α} {l2:List β} (h:Paired F l1 l2) (hi:i < l1.9):∃x y,l1[i]?=some x/\l2[i]?=some y/\x∈l1/\F x y:=by
 have hl:=h.9;exact #[l1[i],l2[i]'(),by simp,by simp,aM _,lO h hi ()]
theorem EA (h1:-(2^64) < i) (h2:i < 2^64):jl i j:=.inl (.inl #[h1,h2])
theorem KD (h1:-(2^64) < j) (h2:j < 2^64):jl i j:=.inl (.inr #[h1,h2])
def TY (K : FG9) (l : Addr) : It :=
  #[λi H => ∃ xs x, bE K H l xs /\ xs[i]? = some x,
   λi H v H' => ∃ p x, v = .ref p /\ H p = none /\ H' = upd H p (.tup [.int i, x]) /\ ∀ xs, bE K H l xs → xs[i]? = some x,
   λi H => ∃ xs, bE K H l xs /\ xs.9 ≤ i]
def tnE (e it l:Addr) (i:Nat) (h:Heap):Prop:=(∃old,IsEnum h e it i old)/\h.IsListIter it l i
theorem KY {P:Program} {w:World} {K:FG9} {elts:List Expr} {kk:Nat} {tpos:Pos} (e it l:Addr) (hei:e≠it):Turn P w K (.Tuple elts kk tpos) (TY K l) [e,it] e (tnE e it l) where
 mem:=by simp
 obj:=λi h st b hb=>by
  obtain ⟨old,he⟩|⟨o1,g1,c1,d1⟩:=st;simp only[aI,bw,or_false] at hb;rcases hb with rfl | rfl
  ·exact #[_,he,λv q=>nomatch q]
  ·exact #[o1,g1,λv q=>by rw[d1] at q;cases q]
 keep:=λi h h' st k=>by
  obtain ⟨old,he⟩|h1:=st;exact #[#[old,k e (by simp) _ he],h1.at λo q=>k it (by simp) o q]
 item:=by
  intro X hP hw hK hc i pins s σ H E I hf st hg;subst hP hw hK;obtain ⟨old,he⟩|h1:=st;obtain xs|x|qx|ex:=hg;obtain us|rx|px|_:=I.list qx;obtain u|eu|ru:=rx.get ex;refine wpAny_pyNext_enum_item he h1 px.isList (x:=u) (by simpa using eu) hei λh' a1 a2 a3 a4 hk=>?_
  refine #[_,rfl,wpAny_letOwnedTupleGo_enum a1 λh'' he'' hs=>?_];have hT0:H s.6=none:=I.hok.fresh (ak _);have ene:s.6≠e:=KO (Heap.lt_size he)
  have up:∀b o,b∉[e,it]->s.heap.get? b=some o->h''.get? b=some o:=λb o hb q=>by
   simp only[aI,bw,or_false,not_or] at hb;exact (hs.2 b hb.1).trans (hk b o hb.1 hb.2 q)
  have tup:h''.get? s.6=some { cls:=.type "tuple",data:=.seq [.int i s.toks,u].toArray }:=(hs.2 _ ene).trans a3;have I1:Inv X pins σ H { s with heap:=h'',toks:=s.toks+1 }:=I.moved (g':=s.gens) (d':=s.drawn) (t':=s.toks+1) (ch:=[e,it]) hf up I.bare;have fT:md X pins H s.6:=I.fpOk (ak _) hT0;have I2:=I1.track (o:=.tup [.int i,x]) fT #[kd rfl,[.int i s.toks,u],.cons #[_,rfl] (.cons ru .nil),#[_,tup,rfl,_,rfl]];refine #[.ref s.6,_,I2,rfl,#[_,x,rfl,hT0,rfl,λxs' q=>by rw[I.list_inj q qx];exact ex],?_,λb hb=>?_]
  ·exact #[#[_,by simpa using he''],a2.at λo q=>(hs.2 _ hei.symm).trans q]
  ·rw[bo]
   ·exact (hf b hb).1
   ·obtain o1|g1|_:=h1;simp only[aI,bw,or_false] at hb;rcases hb with rfl | rfl
    ·exact ene.symm
    ·exact cI (Heap.lt_size g1)
 done:=by
  intro X hP hw hK hc i pins s σ H E I hf st hg;subst hP hw hK;obtain ⟨old,he⟩|h1:=st;obtain xs|qx|hend:=hg;obtain us|rx|px|_:=I.list qx;have lx:=rx.9;refine wpAny_pyNext_enum_end (I.ok.hd hc) he h1 px.isList (by simp;lia) λh' hk=>#[rfl,?_]
  exact I.moved (g':=s.gens) (d':=s.drawn) (t':=s.toks) (ch:=[e,it]) hf (λb o hb q=>hk b o (λz=>hb (by simp [z])) q) I.bare
 self:=λ_ _ _ _ _ st h=>let ⟨⟨_,he⟩,_⟩:=st;wpAny_pyIter_enum he h
section
variable {X:Cx}
def RE (K:FG9) (ta:TA):TI:=λσ H R=>ta σ H λvs H1=>∃l,vs=[.ref l]/\(∃xs,bE K H1 l xs)/\R (TY K l) H1
theorem DN {a:Expr} {ta:TA} {p pos tpos:Pos} {elts:List Expr} {kk:Nat} (hg:Gl X "enumerate") (hm:X.mg "enumerate"=none) (ha:PA X [a] ta) (hs:starEach [a] X.env=[(false,eval a X.env)]:=by rfl) :
  PI X (.Tuple elts kk tpos) (.Call (.Name "enumerate" p) [a] [] pos) (RE X.K ta):=by
 intro pins s σ H R I h;refine Call_ (lZ I hg hm boot_enumerate (PyProof.Rows.callWith_type1 (iG (ha pos pins s σ H _ I h) λus s1 #[vs,H1,I1,r1,q1]=>?_) (by rw[hs];rfl) rfl));obtain l|e|⟨xs,qx⟩|q:=q1;subst e;obtain u|rfl|ru:=vals1 r1;cases ru;obtain us|rx|px|_:=I1.list qx;refine call_enumerate_list px.isList λh' a1 a2 a3 hk=>wpAny_pyIter_enum a1 ?_
 have I2:Inv X pins σ H1 { s1 with heap:=h' }:=I1.kept (t':=s1.toks) hk;refine #[_,[s1.6+1,s1.6],_,_,H1,rfl,I2,KY (s1.6+1) s1.heap.objs.size l (Nat.succ_ne_self _),#[#[_,a1],a2],λb hb=>?_,q]
 have hb':s1.6<=b:=by
  simp only[aI,bw,or_false] at hb;rcases hb with rfl | rfl <;> first | exact kY _ | exact ak _
 exact I1.fpOk hb' (I1.hok.fresh hb')
end
theorem Nh {K:FG9} (h:ta σ H λvs H1=>∃l,vs=[.ref l]/\(∃xs,bE K H1 l xs)/\R (TY K l) H1):RE K ta σ H R:=h
theorem Od {K:FG9} {g:TG} {tb:TS} {D:Ends} (Pv:Nat->St->Hp->Prop) (h0:Pv 0 σ H) (hl:∀i σ H,i<=xs.9->Pv i σ H->bE K H l xs)
  (hs:∀i x σ H p,xs[i]?=some x->Pv i σ H->H p=none->g (.ref p) σ (upd H p (.tup [.int i,x])) λσ2 H2=>tb { D with nx:=Pv (i+1),ct:=Pv (i+1),bk:=D.nx } σ2 H2) (hd:∀σ H,Pv xs.9 σ H->D.nx σ H) :
  ∃W:Nat->Nat->St->Hp->Prop,(∃m,W 0 m σ H)/\∀i m σ H,W i m σ H →
   ((TY K l).stop i H/\D.nx σ H)\/((TY K l).go i H/\∃N:St->Hp->Prop,(∀σ' H',N σ' H'->∃m',m' < m/\W (i+1) m' σ' H')/\∀x H',(TY K l).yld i H x H'->g x σ H' λσ2 H2=>tb { D with nx:=N,ct:=N,bk:=D.nx } σ2 H2):=by
 refine #[λi m σ H=>m=xs.9 - i/\i<=xs.9/\Pv i σ H,#[xs.9,by simp,br _,h0],?_];rintro i m σ H ⟨rfl,hi,p⟩;have q1:=hl i σ H hi p;by_cases hlt:i < xs.9
 ·refine .inr #[#[xs,xs[i],q1,by simp [hlt]],Pv (i+1),λσ' H' p'=>#[xs.9 - (i+1),(),rfl,hlt,p'],λx H' y=>?_];obtain r|x'|rfl|hr|rfl|e1:=y;exact hs i x' σ _ r (e1 xs q1) p hr
 ·have e:i=xs.9:=()
  subst e;exact .inl #[#[xs,q1,ak _],hd σ H p]
section
variable {X:Cx}
theorem DO (K:FG9) {e:Expr} {f:Str} {pos:Pos} {ta:TE} (he:PE X e ta) (hb:attributeBase e f X.env (eval e X.env)=eval e X.env) (hK:X.K=K:=by rfl):PE X (.Attribute e f pos) (RZ K ta f):=by subst hK;exact gN he hb
end
theorem SI {K:FG9} (h:ta σ H λx H1=>∃a C dx fs v,x=.ref a/\H1 a=some (.ins C dx fs)/\Mn K C/\kS K C f/\fs.lookup f=some v/\Q v H1):RZ K ta f σ H Q:=h
theorem Pu {K:FG9} (h:tv σ H λy H1=>ta σ H1 λx H2=>∃a C dx fs,x=.ref a/\H2 a=some (.ins C dx fs)/\Mn K C/\kS K C f/\fs.9 < 1000 /\
 D.nx σ (upd H2 a (.ins C dx (cX f y fs)))):UD K ta tv f D σ H:=h
theorem PB (h:ta σ H λx H1=>∃a dx fs,x=.ref a/\H1 a=some (.ins C dx fs)/\fs.lookup m=none /\
 t σ H1 λvs H2=>sp (x :: vs) H2 Q E):Q3 C m sp [] E ta t σ H Q:=by
 have e:(λ(x:V) H1=>∃a dx fs,x=.ref a/\H1 a=some (.ins C dx fs)/\fs.lookup m=none/\t σ H1 λvs H2=>sp (x :: (vs++[])) H2 Q E)=λx H1=>∃a dx fs,x=.ref a/\H1 a=some (.ins C dx fs)/\fs.lookup m=none/\t σ H1 λvs H2=>sp (x :: vs) H2 Q E:=by
  funext x H1;simp only[oo]
 show ta σ H (λ(x:V) H1=>∃a dx fs,x=.ref a/\H1 a=some (.ins C dx fs)/\fs.lookup m=none/\t σ H1 λvs H2=>sp (x :: (vs++[])) H2 Q E)
 rw[e];exact h
theorem PC (h:t σ H λvs H1=>∀x dx,H1 x=none->H1 dx=none->dx≠x →
 sp (.ref x :: vs) (upd (upd H1 dx (.own x)) x (.ins C dx [])) (λv H2=>v=.non/\Q (.ref x) H2) E):Q4 C sp [] E t σ H Q:=by
 have e:(λvs (H1:Hp)=>∀x dx,H1 x=none->H1 dx=none->dx≠x->sp (.ref x :: (vs++[])) (upd (upd H1 dx (.own x)) x (.ins C dx [])) (λv H2=>v=.non/\Q (.ref x) H2) E)=λvs H1=>∀x dx,H1 x=none->H1 dx=none->dx≠x->sp (.ref x :: vs) (upd (upd H1 dx (.own x)) x (.ins C dx [])) (λv H2=>v=.non/\Q (.ref x) H2) E:=by
  funext vs H1;simp only[oo]
 show t σ H (λvs (H1:Hp)=>∀x dx,H1 x=none->H1 dx=none->dx≠x->sp (.ref x :: (vs++[])) (upd (upd H1 dx (.own x)) x (.ins C dx [])) (λv H2=>v=.non/\Q (.ref x) H2) E)
 rw[e];exact h
def EW (x:Addr) (H H':Hp):Prop:=∀b o,H b=some o->b≠x->H' b=some o
theorem EW.upd:EW x H (L2.upd H x o):=λb u h n=>by rw[bo n];exact h
def vC (H:Hp) (x:Addr):Prop:=∃C dx fs,H x=some (.ins C dx fs)
section
variable {K:FG9}
theorem bW.exc (h:bW K H q v) (e:EW x H H') (hx:vC H x):bW K H' q v:=by
 obtain C|dx|fs|hx:=hx;obtain r|er|s:=h;refine #[r,er,?_];rcases s with (h | ⟨o,h⟩) | h
 ·exact .inl (.inl (e _ _ h λz=>by rw[z,hx] at h;cases h))
 ·exact .inl (.inr #[o,e _ _ h λz=>by rw[z,hx] at h;cases h])
 ·exact .inr h
theorem cS.exc (h:cS K H p qs) (e:EW x H H') (hx:vC H x):cS K H' p qs:=by
 obtain xs|g|r:=h;have hx':=hx;obtain C|dx|fs|hx:=hx;exact #[xs,e _ _ g (λz=>by rw[z,hx] at g;cases g),Paired.imp' (λ_ _ z=>z.exc e hx') r]
theorem cW.exc (h:cW K H0 H qs v) (e:EW x H H') (hx:vC H x):cW K H0 H' qs v:=by obtain q|a|b|c:=h;exact #[q,a,b,c.exc e hx]
theorem bp.exc (h:bp K H0 H p rows) (e:EW x H H') (hx:vC H x):bp K H0 H' p rows:=by
 obtain xs|g|r|n:=h;have hx':=hx;obtain C|dx|fs|hx:=hx;exact #[xs,e _ _ g (λz=>by rw[z,hx] at g;cases g),Paired.imp' (λ_ _ z=>z.exc e hx') r,n]
end
def so (a b c:Addr) (n i o:Nat):List (Str×V):=cX "outs" (.int o) (cX "look" (.ref c) (cX "ins" (.int i) (cX "put" (.ref b) (cX "states" (.int n) (cX "move" (.ref a) [])))))
theorem JY:(so a b c n i o).lookup ("ins":Str)=some (.int i):=by
 unfold so;rw[bT,if_neg (by decide +kernel),bT,if_neg (by decide +kernel),bT,if_pos rfl]
theorem yT:(so a b c n i o).lookup ("put":Str)=some (.ref b):=by
 unfold so;rw[bT,if_neg (by decide +kernel),bT,if_neg (by decide +kernel),bT,if_neg (by decide +kernel),bT,if_pos rfl]
theorem gX:(so a b c n i o).lookup ("states":Str)=some (.int n):=by
 unfold so;rw[bT,if_neg (by decide +kernel),bT,if_neg (by decide +kernel),bT,if_neg (by decide +kernel),bT,if_neg (by decide +kernel),bT,if_pos rfl]
theorem zx:(so a b c n i o).lookup ("move":Str)=some (.ref a):=by
 unfold so;rw[bT,if_neg (by decide +kernel),bT,if_neg (by decide +kernel),bT,if_neg (by decide +kernel),bT,if_neg (by decide +kernel),bT,if_neg (by decide +kernel),bT,if_pos rfl]
theorem R9 {m:Str} (h1:¬m="outs") (h2:¬m="look") (h3:¬m="ins") (h4:¬m="put") (h5:¬m="states") (h6:¬m="move"):(so a b c n i o).lookup m=none:=by
 unfold so;rw[bT,if_neg h1,bT,if_neg h2,bT,if_neg h3,bT,if_neg h4,bT,if_neg h5,bT,if_neg h6];rfl
theorem K2:(so a b c n i o).lookup ("moved":Str)=none:=R9 (by decide +kernel) (by decide +kernel) (by decide +kernel) (by decide +kernel) (by decide +kernel) (by decide +kernel)
theorem fK {k:Str} {v:V}:∀{l:List (Str×V)},(cX k v l).9<=l.9+1
 | []=>ak _
 | (x,y) :: r=>by
  unfold cX
  split
  ·simp
  ·have:=fK (k:=k) (v:=v) (l:=r);simp only[bx]
   lia
structure fv (mv pt lk:LR9):Prop where
 n8:mv.9<=8
 i4:pt.9<=4
 o4:lk.9<=4
 mw:∀xs∈mv,xs.9=mv.9
 pw:∀xs∈pt,xs.9=mv.9
 lw:∀xs∈lk,xs.9=mv.9
def C7 (mv pt lk:LR9):Prop:=∃M V:Nat,0 < M/\M<=2^800/\V<=2^400/\GF M V mv/\GF M V pt/\GF M V lk
def j9 (K:FG9) (H0 H:Hp) (C p:Addr) (mv pt lk:LR9):Prop:=∃dx a b c,H p=some (.ins C dx (so a b c mv.9 pt.9 lk.9))/\H0 a=none/\H0 b=none/\H0 c=none/\bp K H0 H a mv/\bp K H0 H b pt/\bp K H0 H c lk
section
variable {K:FG9}
theorem j9.same (h:j9 K H0 H C p mv pt lk) (e:aH H H'):j9 K H0 H' C p mv pt lk:=by obtain dx|a|b|c|g|n1|n2|n3|g1|g2|g3:=h;exact #[dx,a,b,c,e _ _ g,n1,n2,n3,g1.same e,g2.same e,g3.same e]
theorem j9.upto (h:j9 K H0 H C p mv pt lk) (u:c8 b H H') (B:ig H b) (nb:H0 b≠none):j9 K H0 H' C p mv pt lk:=by
 obtain dx|a|b'|c|g|n1|n2|n3|g1|g2|g3:=h;refine #[dx,a,b',c,u.other (λz=>by obtain _|_|_|_|_|e|_:=B;rw[z,e] at g;cases g) g,n1,n2,n3,g1.upto u B (λz=>nb (by rw[<- z];exact n1)) nb,g2.upto u B (λz=>nb (by rw[<- z];exact n2)) nb,g3.upto u B (λz=>nb (by rw[<- z];exact n3)) nb]
theorem j9.weak (h:j9 K H0 H C p mv pt lk) (e:aH H1 H0):j9 K H1 H C p mv pt lk:=by obtain dx|a|b|c|g|n1|n2|n3|g1|g2|g3:=h;exact #[dx,a,b,c,g,e.none n1,e.none n2,e.none n3,g1.weak e,g2.weak e,g3.weak e]
theorem C7.fits (h:C7 mv pt lk) (hl:∀x∈l,(∃xs∈mv,x∈xs)\/(∃xs∈pt,x∈xs)\/(∃xs∈lk,x∈xs)\/x=0):Fits l:=by
 obtain M|V|h0|h1|h2|h3|h4|h5:=h;refine #[M,V,h0,ag h1 (ai () ()),ag h2 (ai () ()),λx hx=>?_];rcases hl x hx with ⟨xs,a,b⟩ | ⟨xs,a,b⟩ | ⟨xs,a,b⟩ | rfl
 ·exact h3 xs a x b
 ·exact h4 xs a x b
 ·exact h5 xs a x b
 ·exact Fr.zero
end
def K3:Sp:=λvs H Q _=>∃i:Int,vs=[.int i]/\Q (.bl true) H
def K6 (K:FG9):Sp:=λvs H Q _=>∃x n,vs=[x]/\JV K H x n/\Ie n/\∀H',aH H H'->Q (.bl true) H'
inductive J8 (vs:List V) (H:Hp) (Q:VK) (E9:XK):Prop
 | mk (p:Addr) (xs:List V) (a m:Int):vs=[.ref p,.int a,.int m]->H p=some (.lst xs)->(xs.9:Int)<=m->Q .non H->J8  vs H Q E9
inductive Kc (K:FG9) (vs:List V) (H:Hp) (Q:VK) (E9:XK):Prop
 | mk (p:Addr) (H0:Hp) (rows:LR9) (w:Nat):vs=[.ref p,.int w]->bp K H0 H p rows->rows.9<=1000->w<=1000->((∀xs∈rows,xs.9=w/\∀x∈xs,Ie (nm x)))->(∀r H',H r=none->aH H H'->bp K H H' r rows->Q (.ref r) H')->Kc K vs H Q E9
def Ua (rows:LR9):Prop:=∀xs∈rows,∀x∈xs,Ie (nm x)
inductive J9 (K:FG9) (C:Addr) (vs:List V) (H:Hp) (Q:VK) (E9:XK):Prop
 | mk (x dx p q r:Addr) (Hb H0 H1 H2:Hp) (mv pt lk:LR9):vs=[.ref x,.ref p,.ref q,.ref r]->Hb x=none->Hb dx=none->dx≠x->H=upd (upd Hb dx (.own x)) x (.ins C dx [])->bp K H0 Hb p mv->bp K H1 Hb q pt->bp K H2 Hb r lk->fv mv pt lk->Ua mv->Ua pt->Ua lk->(∀H',aH Hb H'->j9 K Hb H' C x mv pt lk->Q .non H')->J9 K C vs H Q E9
def iV (mv pt:LR9) (st pu:List Rat):List Rat:=List.zipWith (λline col=>cA (line++col) (st++pu)) mv (cu pt mv.9)
theorem C7.ok (h:C7 mv pt lk):Ua mv/\Ua pt/\Ua lk :=
 #[λxs hx x hx'=>(h.fits (l:=xs) λy hy=>.inl #[xs,hx,hy]).ok hx',λxs hx x hx'=>(h.fits (l:=xs) λy hy=>.inr (.inl #[xs,hx,hy])).ok hx',λxs hx x hx'=>(h.fits (l:=xs) λy hy=>.inr (.inr (.inl #[xs,hx,hy]))).ok hx']
def ie (K:FG9) (A:Addr->Prop) (H:Hp) (n:Nat) (C:Rat->Prop) (x:V):Prop:=∃q qs,x=V.ref q/\A q/\cS K H q qs/\qs.9=n/\∀y∈qs,C y
section
variable {K:FG9} {A A':Addr->Prop} {H H' H0:Hp} {n:Nat} {C C':Rat->Prop} {x v:V} {q b l p:Addr} {xs zs:List V} {y:Rat} {o:HO}
theorem ie.same (h:ie K A H n C x) (e:aH H H'):ie K A H' n C x:=by obtain q|qs|a|c|r|z:=h;exact #[q,qs,a,c,r.same e,z]
theorem ie.upto (h:ie K A H n C x) (u:c8 b H H') (B:ig H b) (nb:¬A b):ie K A H' n C x:=by obtain q|qs|a|c|r|z:=h;exact #[q,qs,a,c,r.upto u B (λe=>nb (by rw[<- e];exact c)),z]
theorem ie.other (h:ie K A H n C x) (hl:H l=some (.lst zs)) (nl:¬A l):ie K A (upd H l o) n C x:=by obtain q|qs|a|c|r|z:=h;exact #[q,qs,a,c,r.updL hl (λe=>nl (by rw[<- e];exact c)),z]
theorem ie.weak (h:ie K A H n C x) (w:∀q,A q->A' q) (wc:∀y,C y->C' y):ie K A' H n C' x:=by obtain q|qs|a|c|r|l|z:=h;exact #[q,qs,a,w q c,r,l,λy hy=>wc y (z y hy)]
theorem lM {α β:Type} {F:α->β->Prop} {a:α} {b:β} (h:F a b):∀{l1:List α} {l2:List β} (j:Nat),Paired F l1 l2->Paired F (l1.set j a) (l2.set j b)
 | _,_,_,.nil=>.nil
 | _,_,0,.cons _ t=>.cons h t
 | _,_,j+1,.cons r t=>.cons r (lM h j t)
theorem ie.put (h:ie K A H n C x) (hq:H q=some (.lst zs)) (hv:bW K H y v) (hc:C y) (j:Nat):ie K A (upd H q (.lst (zs.set j v))) n C x:=by
 obtain q1|qs|rfl|a|⟨zs1,g1,pr⟩|l1|c1:=h;by_cases e:q1=q
 ·subst e;rw[hq] at g1;cases g1;refine #[q1,qs.set j y,rfl,a,#[_,aG,lM (hv.updL hq) j (Paired.imp' (λ_ _ z=>z.updL hq) pr)],by rw[df];exact l1,λz hz=>?_];rcases cG hz with hz | rfl
  ·exact c1 z hz
  ·exact hc
 ·exact #[q1,qs,rfl,a,#[zs1,by rw[bo e];exact g1,Paired.imp' (λ_ _ z=>z.updL hq) pr],l1,c1]
theorem ie.at (h:ie K A H n C x):∃q zs qs,x=V.ref q/\A q/\H q=some (.lst zs)/\zs.9=n/\Paired (bW K H) qs zs/\qs.9=n/\∀y∈qs,C y:=by obtain q|qs|a|c|⟨zs,g,pr⟩|l|z:=h;exact #[q,zs,qs,a,c,g,by rw[<- pr.9];exact l,pr,l,z]
end
theorem uA {i:Int} (h:i.natAbs<=W) (hW:1<=W):Dr W (i:Rat):=#[h,hW]
def Vs (K:FG9) (A:Addr->Prop) (H:Hp) (n:Nat) (C:Rat->Prop) (p:Addr) (m:Nat):Prop:=∃us,H p=some (.lst us)/\us.9=m/\¬A p/\∀x∈us,ie K A H n C x
structure Ig (A:Addr->Prop) (m p l b q0:Addr):Prop where
 am:¬A m
 ap:¬A p
 al:¬A l
 ab:¬A b
 aq:¬A q0
 mb:m≠b
 pb:p≠b
 lb:l≠b
 mp:m≠p
 ml:m≠l
 mq:m≠q0
theorem Kv {M:Nat} {z:Int} (h:z.natAbs<=2):Fr 1 2 (z:Rat):=Fr.int h
theorem Ed {z:Int} (hz:z.natAbs<=2) (ha:Fr M W a) (hc:Fr M W c):Fr M (3*W) (a+(z:Rat)*c):=by
 have h:=(Kv (M:=M) hz).mul hc;rw[xa] at h;exact (ha.add h).mono ()
theorem Dn {z:Int} (h:z.natAbs<=1000):mU (z:Rat):=Jq (M:=1) (V:=1000) () (bJ) (ag (show 1000<=2^10 by decide) (ai () ())) (Fr.int h)
theorem zv {z:Int} (hz:z.natAbs<=2) (hc:Fr M W c) (h0:0 < M) (h1:M<=2^800) (hW:W<=2^140):mU ((z:Rat)*c):=by
 have h:=(Kv (M:=M) hz).mul hc;rw[xa] at h;refine Jq h0 (ag h1 (ai () ())) (ag (aO 2 hW) ?_) h;rw[show 2*2^140=2^141 by rw[eF,cv]];exact ai () ()
def jy (A:Addr->Prop) (b m:Addr) (H H':Hp):Prop:=∀c u,H c=some u->c≠b->¬A c->c≠m->H' c=some u
theorem jy.same (h:jy A b m H H1) (s:aH H1 H2):jy A b m H H2:=λc u e n1 n2 n3=>s _ _ (h c u e n1 n2 n3)
theorem jy.upto (h:jy A b m H H1) (s:c8 b H1 H2):jy A b m H H2:=λc u e n1 n2 n3=>s.1 _ _ (h c u e n1 n2 n3) n1
theorem jy.upd (h:jy A b m H H1) (hq:A q\/q=m):jy A b m H (L2.upd H1 q o):=λc u e n1 n2 n3=>by
 rw[bo]
 ·exact h c u e n1 n2 n3
 ·rintro rfl;rcases hq with hq | hq
  ·exact n2 hq
  ·exact n3 hq
theorem jy.new (h:jy A b m H H1) (hA:∀q,H q=none->A q) (B:ig H1 b) (hm:H1 m≠none) (hr:H1 r=none):A r:=by
 by_cases z:A r
 ·exact z
 ·cases e:H r with
  | none=>exact hA r e
  | some u =>
   have:=h r u e (λy=>B.at (by rw[<- y];exact hr)) z (λy=>hm (by rw[<- y];exact hr));rw[hr] at this;cases this
structure KN (K:FG9) (A:Addr->Prop) (n:Nat) (C:Rat->Prop) (r p b q0:Addr) (us:List V) (H0 H:Hp):Prop where
 gr:H r=some (.lst us)
 ru:∀x∈us,ie K A H n C x
 rp:ie K A H n C (.ref p)
 bag:ig H b
 inn:Inner H b q0
 up:c8 b H0 H
section
variable {K:FG9}
theorem KN.same (h:KN K A n C r p b q0 us H0 H) (e:aH H H'):KN K A n C r p b q0 us H0 H':=#[e _ _ h.gr,λx hx=>(h.ru x hx).same e,h.rp.same e,h.bag.same e,(e.upto (p:=b)).2 _ h.inn,h.up.same e]
theorem KN.upto (h:KN K A n C r p b q0 us H0 H) (u:c8 b H H') (B:ig H' b) (nb:¬A b) (rb:r≠b):KN K A n C r p b q0 us H0 H':=#[u.other rb h.gr,λx hx=>(h.ru x hx).upto u h.bag nb,h.rp.upto u h.bag nb,B,u.2 _ h.inn,h.up.trans u]
theorem KN.put (h:KN K A n C r p b q0 us H0 H) (ap:A p) (nr:¬A r) (nb:¬A b) (nq:¬A q0) (hp:H0 p=none) (hv:bW K H y v) (hc:C y) (j:Nat):∃zs,H p=some (.lst zs)/\zs.9=n/\KN K A n C r p b q0 us H0 (upd H p (.lst (zs.set j v))):=by
 obtain q|zs|qs|e|a|g|l|_:=h.rp.at;cases e;have ne:∀{z},¬A z->z≠p:=λh e=>h (by rw[e];exact ap)
 exact #[zs,g,l,by rw[bo (ne nr)];exact h.gr,λx hx=>(h.ru x hx).put g hv hc j,h.rp.put g hv hc j,h.bag.upd h.inn (ne nb).symm (ne nq).symm,h.inn.upd (ne nb).symm,h.up.after hp]
end
theorem zX {K:FG9} (h:∀x∈us,ie K A H n C x):∃rows:LR9,Paired (λqs x=>∃q,x=V.ref q/\A q/\cS K H q qs) rows us/\rows.9=us.9/\∀qs∈rows,qs.9=n/\∀y∈qs,C y:=by
 induction us with
 | nil=>exact #[[],.nil,rfl,λ_ z=>nomatch z]
 | cons u us ih =>
  obtain rows|pr|l|hr:=ih λx hx=>h x (.tail _ hx)
  obtain q|qs|e|a|r|l1|c:=h u (.head _);refine #[qs :: rows,.cons #[q,e,a,r] pr,by simp [l],λzs hz=>?_];rcases aI.mp hz with rfl | hz
  ·exact #[l1,c]
  ·exact hr zs hz
theorem II {K:FG9} {rows:LR9} (pr:Paired (λqs x=>∃q,x=V.ref q/\A q/\cS K H q qs) rows us) (h:∀qs∈rows,qs.9=n/\∀y∈qs,C y):∀x∈us,ie K A H n C x:=λx hx=>by
 obtain qs|hq|q|e|a|r:=cZ pr hx;exact #[q,qs,e,a,r,(h qs hq).1,(h qs hq).2]
theorem uW {n:Nat}:∀{rows:LR9},(∀xs∈rows,xs.9=n)->rows.flatten.9=rows.9*n
 | [],_=>by simp
 | xs :: rows,h=>by
  rw[i8,ar,h xs (.head _),uW λys hy=>h ys (.tail _ hy),bx,eD,jN]
theorem Pn {rows:LR9} (h:∀qs∈rows,qs.9=n/\∀y∈qs,Dr (2^c) y):∃M:Nat,0 < M/\M<=2^(c*(rows.9*n))/\∀qs∈rows,∀y∈qs,Fr M (2^c) y:=by
 have fl:rows.flatten.9=rows.9*n:=uW λys hy=>(h ys hy).1
 have hm:∀a∈rows.flatten.map (·.den),0 < a/\a<=2^c:=λa ha=>by
  obtain y|hy|rfl:=aA.mp ha;obtain qs|hq|hy:=jz.mp hy;exact #[y.den_pos,((h qs hq).2 y hy).2]
 refine #[wd (rows.flatten.map (·.den)),xH λa ha=>(hm a ha).1,?_,λqs hq y hy=>?_]
 ·have:=Aa (k:=c) (l:=rows.flatten.map (·.den)) λa ha=>(hm a ha).2
  rwa [af,fl] at this
 ·exact (Fr.own y ((h qs hq).2 y hy).1).dvd (xI (aA.mpr #[y,jz.mpr #[qs,hq,hy],rfl]))
theorem l9 {K:FG9} (h:Vs K A H n C p m) (w:∀q,A q->H0 q=none):∃rows,bp K H0 H p rows/\rows.9=m/\∀qs∈rows,qs.9=n/\∀y∈qs,C y:=by
 obtain us|g|l|a|r:=h;obtain rows|pr|lr|hr:=zX r;refine #[rows,#[us,g,Paired.imp' (λ_ _ #[q,e,aq,rq]=>#[q,e,w q aq,rq]) pr,λhm=>?_],by rw[lr,l],hr];obtain q|_|e|aq|_:=r _ hm;cases e;exact a aq
theorem jy.trans (h:jy A b m H H1) (h':jy A b m H1 H2):jy A b m H H2:=λc u e n1 n2 n3=>h' c u (h c u e n1 n2 n3) n1 n2 n3
theorem M6 {K:FG9} {rows:LR9} (pr:Paired (cW K H0 H) rows us) (h:∀qs∈rows,qs.9=n/\∀y∈qs,C y) (w:∀q,V.ref q∈us->H0 q=none->H q≠none->A q):∀x∈us,ie K A H n C x:=λx hx=>by
 obtain qs|hq|q|e|a|r:=cZ pr hx;subst e;exact #[q,qs,rfl,w q hx a (by obtain _|g|_:=r;rw[g];simp),r,(h qs hq).1,(h qs hq).2]
def K4:Sp:=λvs H Q _=>∃b,vs=[.ref b]/\ig H b/\∀r (n i o w:Nat) H',H' r=some (.tup [.int n,.int i,.int o,.int w])->n<=5->i<=4->o<=4->(w=4\/w=9\/(w=1000000/\n<=2))->(n=5->i<=2/\o<=2)->ig H' b->c8 b H H'->Q (.ref r) H'
def gL (K:FG9) (H0 H:Hp) (r:Addr) (mv pt lk:LR9):Prop:=∃m p l,H r=some (.tup [.ref m,.ref p,.ref l])/\H0 m=none/\H0 p=none/\H0 l=none/\bp K H0 H m mv/\bp K H0 H p pt/\bp K H0 H l lk
section
variable {K:FG9}
theorem gL.same (h:gL K H0 H r mv pt lk) (e:aH H H'):gL K H0 H' r mv pt lk:=by obtain m|p|l|g|n1|n2|n3|g1|g2|g3:=h;exact #[m,p,l,e _ _ g,n1,n2,n3,g1.same e,g2.same e,g3.same e]
theorem gL.upto (h:gL K H0 H r mv pt lk) (u:c8 b H H') (B:ig H b) (nb:H0 b≠none):gL K H0 H' r mv pt lk:=by
 obtain m|p|l|g|n1|n2|n3|g1|g2|g3:=h;exact #[m,p,l,u.tup B g,n1,n2,n3,g1.upto u B (λz=>nb (by rw[<- z];exact n1)) nb,g2.upto u B (λz=>nb (by rw[<- z];exact n2)) nb,g3.upto u B (λz=>nb (by rw[<- z];exact n3)) nb]
theorem gL.weak (h:gL K H0 H r mv pt lk) (e:∀q,H0 q=none->H1 q=none):gL K H1 H r mv pt lk:=by
 obtain m|p|l|g|n1|n2|n3|⟨x1,y1,z1,w1⟩|⟨x2,y2,z2,w2⟩|⟨x3,y3,z3,w3⟩:=h;exact #[m,p,l,g,e _ n1,e _ n2,e _ n3,#[x1,y1,Paired.imp' (λ_ _ #[q,a,b,c]=>#[q,a,e _ b,c]) z1,w1],#[x2,y2,Paired.imp' (λ_ _ #[q,a,b,c]=>#[q,a,e _ b,c]) z2,w2],#[x3,y3,Paired.imp' (λ_ _ #[q,a,b,c]=>#[q,a,e _ b,c]) z3,w3]]
end
inductive zB (K:FG9) (C:Addr) (vs:List V) (H:Hp) (Q:VK) (E9:XK):Prop
 | mk (r:Addr) (H0:Hp) (mv pt lk:LR9):vs=[.ref r]->gL K H0 H r mv pt lk->fv mv pt lk->C7 mv pt lk->(∀x H',H x=none->aH H H'->j9 K H H' C x mv pt lk->Q (.ref x) H')->zB K C vs H Q E9
def nextK (mv pt:LR9) (st pu:List Rat) (k:Nat):List Rat:=List.zipWith (λline col=>cA (line++col.take k) (st++pu.take k)) mv (cu pt mv.9)
theorem jZ {st pu:List Rat}:(nextK mv pt st pu k).9=mv.9:=by unfold nextK;rw[cV,dC];lia
theorem uQ {st pu:List Rat} (h1:pt.9<=k) (h2:pu.9<=k):nextK mv pt st pu k=iV mv pt st pu:=by
 unfold nextK iV;apply fG;intro i;rw[cR,cR];cases e1:mv[i]? with
 | none=>rfl
 | some line =>
  cases e2:(cu pt mv.9)[i]? with
  | none=>rfl
  | some col =>
   have:=jW col (av e2);show some _=some _
   rw[aF (),aF h2]
theorem yS (h:i < w):(cu rows w)[i]?=some (rows.map λxs=>xs.getD i 0):=by
 unfold cu;rw[aD,eI h];rfl
theorem Jd {st pu:List Rat}:nextK mv pt st pu 0=mv.map λxs=>cA xs st:=by
 unfold nextK;apply fG;intro i;rw[cR,aD];by_cases hi:i < mv.9
 ·rw[yS hi,ae hi];simp
 ·rw[aQ ()];rfl
theorem Ap {st pu:List Rat} (hi:i < mv.9):(nextK mv pt st pu k).getD i 0=cA (mv[i]++(pt.map λxs=>xs.getD i 0).take k) (st++pu.take k):=by
 rw[aa];unfold nextK;rw[cR,ae hi,yS hi];rfl
theorem kO (h:as.9=xs.9):cA (as++bs) (xs++ys)=cA as xs+cA bs ys:=by
 unfold cA;rw[List.zipWith_append h,List.sum_append]
theorem Je {st pu:List Rat} (hm:∀xs∈mv,xs.9=st.9) (h1:k < pt.9) (h2:k < pu.9) (hw:(pt[k]).9=mv.9) :
  List.zipWith (λx y=>x+y) (nextK mv pt st pu k) ((pt[k]).map λy=>pu[k]*y)=nextK mv pt st pu (k+1):=by
 have l1:((pt[k]).map λy=>pu[k]*y).9=mv.9:=by rw[af,hw]
 rw[BP (by rw[l1,jZ])];apply fG;intro i;rw[aD,jZ];by_cases hi:i < mv.9
 ·have e0:(nextK mv pt st pu (k+1))[i]?=some ((nextK mv pt st pu (k+1)).getD i 0):=by
   rw[aa,ae (by rw[jZ];exact hi)];rfl
  rw[eI hi,e0,Ap hi];have ll:=hm mv[i] (aM hi);have ec:(pt.map λxs=>xs.getD i 0)[k]?=some ((pt[k]).getD i 0):=by rw[aD,ae h1];rfl
  have ep:pu[k]?=some pu[k]:=ae h2
  have e3:((pt[k]).map λy=>pu[k]*y).getD i 0=pu[k]*(pt[k]).getD i 0:=by
   rw[getD_map (by rw[hw];exact hi),aa,ae (by rw[hw];exact hi)];rfl
  show some ((nextK mv pt st pu k).getD i 0+((pt[k]).map λy=>pu[k]*y).getD i 0)=some _
  rw[Ap hi,e3,take_snoc ec,take_snoc ep,kO ll,kO ll,kO (by rw[bY,bY,af];lia)];have:cA [(pt[k]).getD i 0] [pu[k]]=(pt[k]).getD i 0*pu[k]:=by simp [cA,mJ]
  rw[this];congr 1;grind
 ·rw[aQ (by simpa using hi),aQ (by rw[jZ];lia)];rfl
theorem j9.weakN {K:FG9} (h:j9 K H0 H C p mv pt lk) (e:∀q,H0 q=none->H1 q=none):j9 K H1 H C p mv pt lk:=by
 obtain dx|a|b|c|g|n1|n2|n3|⟨x1,y1,z1,w1⟩|⟨x2,y2,z2,w2⟩|⟨x3,y3,z3,w3⟩:=h;exact #[dx,a,b,c,g,e _ n1,e _ n2,e _ n3,#[x1,y1,Paired.imp' (λ_ _ #[q,a,b,c]=>#[q,a,e _ b,c]) z1,w1],#[x2,y2,Paired.imp' (λ_ _ #[q,a,b,c]=>#[q,a,e _ b,c]) z2,w2],#[x3,y3,Paired.imp' (λ_ _ #[q,a,b,c]=>#[q,a,e _ b,c]) z3,w3]]
theorem Ls {st pu:List Rat}:(iV mv pt st pu).9=mv.9:=by unfold iV;rw[cV,dC];lia
def mW (k j:Nat) (l:List Rat):Prop:=∃M V:Nat,0 < M/\M<=2^k/\V<=2^j/\∀x∈l,Fr M V x
theorem Qt {M V:Nat} (h0:0 < M) (h1:M<=2^2000) (h2:V<=2^1950) (h:Fr M V x):mU x:=by
 obtain a|b:=h.sz h0 h1 h2;exact #[a.mono (),b.mono ()]
section
variable {k j k' j':Nat} {l xs ys:List Rat} {x y:Rat}
theorem mW.szn (h:mW k j l) (hx:x∈l) (hk:k+j<=3950:=by decide):mU x:=by
 obtain M|V|h0|h1|h2|h3:=h;obtain a|b:=(h3 x hx).sz h0 h1 h2;exact #[a.mono (),b.mono ()]
theorem mW.rowM (h:mW k j l) (hk:k+j<=4200:=by decide):∃M,JS M (l.map nm):=by
 obtain M|V|h0|h1|h2|h3:=h;refine #[M,(),?_,λn hn=>?_]
 ·show ((M:Nat):Int).natAbs < 2^4400
  rw[cJ];exact bO h1 (eV () ())
 ·obtain x|hx|rfl:=aA.mp hn;obtain a|_:=(h3 x hx).sz h0 h1 h2;exact #[jR x,(h3 x hx).den,a.mono ()]
theorem mW.one (h:mW k j l) (hx:x∈l):mW k j [x]:=by
 obtain M|V|h0|h1|h2|h3:=h;exact #[M,V,h0,h1,h2,λy hy=>by rw[aS.mp hy];exact h3 x hx]
theorem Om (h:mW k j xs) (h':mW k' j' ys) (hl:xs.9<=1000) (i:Nat) (hk:(k+k')+(j+j')<=3930:=by decide):mU (cA (xs.take i) (ys.take i)):=by
 obtain M|V|h0|h1|h2|h3:=h;obtain N|W|k0|k1|k2|k3:=h'
 have e:1000*(V*W)<=2^(10+(j+j')):=by
  rw[aV 2 10];exact aL () (ag (aL h2 k2) (by rw[<- aV];exact ak _))
 obtain a|b:=((Fr.dot (λx hx=>h3 x (cH hx)) (λy hy=>k3 y (cH hy))).mono (ax _ (show (xs.take i).9<=1000 by rw[bY];lia))).sz (bQ h0 k0) (ag (aL h1 k1) (by rw[<- aV];exact ak _)) e;exact #[a.mono (),b.mono ()]
theorem NG (hx:mW k j [x]) (hy:mW k' j' [y]) (hk:(k+k')+(j+j')<=3930:=by decide):mU (x*y):=by
 obtain M|V|h0|h1|h2|h3:=hx;obtain N|W|k0|k1|k2|k3:=hy;obtain a|b:=((h3 x (.head _)).mul (k3 y (.head _))).sz (bQ h0 k0) (ag (aL h1 k1) (by rw[<- aV];exact ak _)) (ag (aL h2 k2) (by rw[<- aV];exact ak _));exact #[a.mono (),b.mono ()]
def jV (xs ys:List Rat):Prop:=∃k j k' j':Nat,mW k j xs/\mW k' j' ys/\(k+k')+(j+j')<=3930
theorem jV.sys (h:mW 400 120 xs) (h':mW 1500 1800 ys):jV xs ys:=#[_,_,_,_,h,h',()]
end
def KJ (mv pt lk:LR9):Prop:=∃M V:Nat,0 < M/\M<=2^400/\V<=2^120/\GF M V mv/\GF M V pt/\GF M V lk
theorem KJ.fits (h:KJ mv pt lk) (hl:∀x∈l,(∃xs∈mv,x∈xs)\/(∃xs∈pt,x∈xs)\/(∃xs∈lk,x∈xs)\/x=0):mW 400 120 l:=by
 obtain M|V|h0|h1|h2|g1|g2|g3:=h;refine #[M,V,h0,h1,h2,λx hx=>?_];rcases hl x hx with ⟨xs,a,b⟩ | ⟨xs,a,b⟩ | ⟨xs,a,b⟩ | rfl
 ·exact g1 xs a x b
 ·exact g2 xs a x b
 ·exact g3 xs a x b
 ·exact Fr.zero
theorem KJ.sf (h:KJ mv pt lk):C7 mv pt lk:=by obtain M|V|a|b|c|d:=h;exact #[M,V,a,ag b (ai () ()),ag c (ai () ()),d]
inductive Dq (K:FG9) (vs:List V) (H:Hp) (Q:VK) (E9:XK):Prop
 | mk (p q:Addr) (xs ys:List Rat):vs=[.ref p,.ref q]->cS K H p xs->cS K H q ys->ys.9=xs.9->xs.9<=1000->jV xs ys->(∀r H',aH H H'->bW K H' (cA xs ys) (.ref r)->Q (.ref r) H')->Dq K vs H Q E9
inductive Dp (K:FG9) (vs:List V) (H:Hp) (Q:VK) (E9:XK):Prop
 | mk (p q:Addr) (H0:Hp) (rows:LR9) (ys:List Rat):vs=[.ref p,.ref q]->bp K H0 H p rows->cS K H q ys->rows.9<=1000->ys.9<=1000->((∀xs∈rows,xs.9=ys.9/\jV xs ys))->(∀r H',H r=none->aH H H'->cS K H' r (rows.map λxs=>cA xs ys)->Q (.ref r) H')->Dp K vs H Q E9
inductive Cj (K:FG9) (C:Addr) (vs:List V) (H:Hp) (Q:VK) (E9:XK):Prop
 | mk (x p q:Addr) (H0:Hp) (mv pt lk:LR9) (st pu:List Rat):vs=[.ref x,.ref p,.ref q]->j9 K H0 H C x mv pt lk->fv mv pt lk->KJ mv pt lk->cS K H p st->cS K H q pu->st.9=mv.9->pu.9=pt.9->mW 1500 1800 (st++pu)->(∀r H',H r=none->aH H H'->cS K H' r (iV mv pt st pu)->Q (.ref r) H')->Cj K C vs H Q E9
def qJ (mv pt:LR9) (st:List Rat) (pus:LR9) (k:Nat):List Rat:=(pus.take k).foldl (iV mv pt) st
def o7 (mv pt:LR9) (st:List Rat) (pus:LR9):LR9:=(List.range (pus.9+1)).map (qJ mv pt st pus)
section
variable {mv pt lk pus:LR9} {st:List Rat} {k:Nat}
theorem sT (h:pus[k]?=some pu):qJ mv pt st pus (k+1)=iV mv pt (qJ mv pt st pus k) pu:=by
 unfold qJ;rw[take_snoc h,List.foldl_append];rfl
theorem qM (h:st.9=mv.9):∀{k:Nat},k<=pus.9->(qJ mv pt st pus k).9=mv.9
 | 0,_=>h
 | k+1,hk=>by rw[sT (ae (show k < pus.9 by lia)),Ls]
theorem vT:(o7 mv pt st pus).9=pus.9+1:=by unfold o7;rw[af,cz]
theorem uY (h:k<=pus.9):(o7 mv pt st pus)[k]?=some (qJ mv pt st pus k):=by
 unfold o7;rw[aD,eI ()];rfl
def EX (mv pt:LR9) (st:List Rat) (pus:LR9):Prop:=∀k,k<=pus.9->∃N W:Nat,0 < N/\N<=2^1500/\W<=2^1800/\(∀x∈qJ mv pt st pus k,Fr N W x)/\∀xs∈pus,∀x∈xs,Fr N W x
theorem EX.both (h:EX mv pt st pus) (hk:k<=pus.9) (hp:pu∈pus):mW 1500 1800 (qJ mv pt st pus k++pu):=by
 obtain N|W|a|b|c|d|e:=h k hk;exact #[N,W,a,b,c,λx hx=>(ay.mp hx).elim (d x) (e pu hp x)]
theorem EX.state (h:EX mv pt st pus) (hk:k<=pus.9):mW 1500 1800 (qJ mv pt st pus k):=by
 obtain N|W|a|b|c|d|e:=h k hk;exact #[N,W,a,b,c,d]
theorem yR (h:GF M W rows):GF M W (cu rows w):=λys hy y hy'=>by
 obtain j|_|rfl:=aA.mp hy;obtain xs|hx|rfl:=aA.mp hy';rw[aa];cases e:xs[j]? with
 | none=>exact Fr.zero
 | some z=>exact h xs hx z (av e)
end
def yd (K:FG9) (H:Hp) (l:Addr) (H':Hp) (xs:List Rat) (x:V):Prop:=∃q,x=.ref q/\H q=none/\q≠l/\cS K H' q xs
section
variable {K:FG9} {H H' H2:Hp} {l:Addr} {xs:List Rat} {x:V}
theorem yd.same (h:yd K H l H' xs x) (e:aH H' H2):yd K H l H2 xs x:=by obtain q|a|b|c|d:=h;exact #[q,a,b,c,d.same e]
theorem yd.upd {ys:List V} {o:HO} (h:yd K H l H' xs x) (hl:H' l=some (.lst ys)):yd K H l (upd H' l o) xs x:=by obtain q|a|b|c|d:=h;exact #[q,a,b,c,d.updL hl c]
theorem yd.rowF (h:yd K H l H' xs x):cW K H H' xs x:=by obtain q|a|b|_|d:=h;exact #[q,a,b,d]
theorem La (e:aH H H') (n:H l=none):aH H (upd H' l o):=λb u h=>by
 rw[bo (λz=>by rw[z,n] at h;cases h)];exact e b u h
theorem zY:∀{rows:LR9} {ys:List V},Paired (yd K H l H') rows ys->V.ref l∉ys
 | _,_,.nil=>by simp
 | _,_,.cons ⟨q,a,_,c,_⟩ r=>by
  intro hm;rcases aI.mp hm with e | hm
  ·rw[a] at e;cases e;exact c rfl
  ·exact zY r hm
end
inductive zI (K:FG9) (C:Addr) (vs:List V) (H:Hp) (Q:VK) (E9:XK):Prop
 | mk (x s p:Addr) (H0 H1:Hp) (mv pt lk pus:LR9) (st:List Rat):vs=[.ref x,.ref s,.ref p]->j9 K H0 H C x mv pt lk->fv mv pt lk->KJ mv pt lk->cS K H s st->st.9=mv.9->bp K H1 H p pus->pus.9<=100->(∀xs∈pus,xs.9=pt.9)->EX mv pt st pus->(∀r H',H r=none->aH H H'->bp K H H' r (o7 mv pt st pus)->Q (.ref r) H')->zI K C vs H Q E9
theorem CM {l:List Rat} (h:∀x∈l,Dr (2^c) x) (hc:c<=20):∃B:Nat,0 < B/\B<=2^(c*l.9+2)/\∀x∈l,Fr B (2^22) x:=by
 obtain M|h0|h1|h2:=Qs (c:=c) (n:=l.9) (i:=0) (rows:=[]) To rfl h hc;refine #[M,h0,?_,h2 l (by simp)];rw[Nat.zero_add,xa] at h1;exact h1
theorem Gj {i:Nat}:∀{pus:LR9},(∀xs∈pus,xs.9=i)->pus.flatten.9=pus.9*i
 | [],_=>by simp
 | x :: r,h=>by
  rw[i8,ar,h x (.head _),Gj (λxs hx=>h xs (.tail _ hx)),bx,eD]
  lia
theorem UB {i:Int} (h:i=0\/i=1):Fr 1 1 (i:Rat):=Fr.int (by rcases h with rfl | rfl <;> decide)
theorem pV {α β:Type} {F:α->β->Prop}:∀{l1:List α} {l2:List β} (_:Paired F l1 l2) (k:Nat),Paired F (l1.drop k) (l2.drop k)
 | _,_,h,0=>h
 | _,_,.nil,_+1=>.nil
 | _,_,.cons _ r,k+1=>pV r k
theorem QE {t n:Nat} (h:t+n<=xs.9):sJ xs (some (t:Int)) (some ((t:Int)+(n:Int)))=(xs.drop t).take n:=by
 unfold sJ;rw[show ((t:Int)+(n:Int))=((t+n:Nat):Int) by lia,HT.v7,HT.v7,j6 (show t<=xs.9 by lia),j6 h,Vu]
end L2
namespace L2
abbrev iW:=Nat->Rat
def yE (F:List iW->Rat) (r:Nat):List iW->List iW->Rat->Rat
 | _,[],_=>0
 | pre,v :: post,s=>s*v r*F (pre++post)+yE F r (pre++[v]) post (-s)
def jB:List Nat->List iW->Rat
 | [],[]=>1
 | [],_ :: _=>0
 | r :: rs,vs=>yE (λws=>jB rs ws) r [] vs 1
theorem Eg:jB [] (a++x :: b)=0:=by
 cases a <;> rfl
theorem D9 {F:List iW->Rat} {r:Nat} {f g h:iW} {x y:Rat} (hF:∀a b,F (a++h :: b)=x*F (a++f :: b)+y*F (a++g :: b)):∀(b p q:List iW) (s:Rat),yE F r (p++h :: q) b s=x*yE F r (p++f :: q) b s+y*yE F r (p++g :: q) b s
 | [],p,q,s=>by simp only[yE,fE,mJ]
 | v :: b,p,q,s=>by
  have i1:=hF p (q++b);have i2:=D9 (r:=r) hF b p (q++[v]) (-s);simp only[yE,dc,gF] at i1 i2 ⊢;rw[i1,i2];grind
theorem Ko {F:List iW->Rat} {r:Nat} {f g h:iW} {x y:Rat} (hF:∀a b,F (a++h :: b)=x*F (a++f :: b)+y*F (a++g :: b)) (hr:h r=x*f r+y*g r):∀(a pre b:List iW) (s:Rat),yE F r pre (a++h :: b) s=x*yE F r pre (a++f :: b) s+y*yE F r pre (a++g :: b) s
 | [],pre,b,s=>by
  have i2:=D9 (r:=r) hF b pre [] (-s);simp only[yE,dF] at i2 ⊢;rw[i2,hr];grind
 | v :: a,pre,b,s=>by
  have i1:=hF (pre++a) b;have i2:=Ko hF hr a (pre++[v]) b (-s);simp only[yE,dc,gF] at i1 i2 ⊢;rw[i1,i2];grind
theorem uy {f g h:iW} {x y:Rat}:∀{rs:List Nat},(∀r∈rs,h r=x*f r+y*g r)->∀a b,jB rs (a++h :: b)=x*jB rs (a++f :: b)+y*jB rs (a++g :: b)
 | [],_,a,b=>by rw[Eg,Eg,Eg];grind
 | r :: rs,hr,a,b=>Ko (λa b=>uy (λr' h'=>hr r' (.tail _ h')) a b) (hr r (.head _)) a [] b 1
theorem Ol (hr:∀r∈rs,h r=f r) (a b:List iW):jB rs (a++h :: b)=jB rs (a++f :: b):=by
 rw[uy (f:=f) (g:=f) (x:=1) (y:=0) (λr h'=>by rw[hr r h'];grind) a b];grind
theorem Ky (hr:∀r∈rs,h r=0) (a b:List iW):jB rs (a++h :: b)=0:=by
 rw[uy (f:=h) (g:=h) (x:=0) (y:=0) (λr h'=>by rw[hr r h'];grind) a b];grind
theorem Kp {F:List iW->Rat} {r:Nat} {x:iW} (hF:∀a b,F (a++x :: x :: b)=0):∀(b p q:List iW) (s:Rat),yE F r (p++x :: x :: q) b s=0
 | [],p,q,s=>rfl
 | v :: b,p,q,s=>by
  have i1:=hF p (q++b);have i2:=Kp (r:=r) hF b p (q++[v]) (-s);simp only[yE,dc,gF] at i1 i2 ⊢;rw[i1,i2];grind
theorem Kq {F:List iW->Rat} {r:Nat} {x:iW} (hF:∀a b,F (a++x :: x :: b)=0):∀(a pre b:List iW) (s:Rat),yE F r pre (a++x :: x :: b) s=0
 | [],pre,b,s=>by
  have i2:=Kp (r:=r) hF b pre [] (- -s);simp only[yE,dF,dc,gF] at i2 ⊢;rw[i2];grind
 | v :: a,pre,b,s=>by
  have i1:=hF (pre++a) b;have i2:=Kq (r:=r) hF a (pre++[v]) b (-s);simp only[yE,dc,gF] at i1 i2 ⊢;rw[i1,i2];grind
theorem Az {x:iW}:∀{rs:List Nat} (a b:List iW),jB rs (a++x :: x :: b)=0
 | [],a,b=>Eg
 | r :: rs,a,b=>Kq (λa b=>Az a b) a [] b 1
theorem Qv (a b:List iW):jB rs (a++x :: y :: b)=- jB rs (a++y :: x :: b):=by
 have hr:∀r∈rs,(λr=>1*x r+1*y r) r=1*x r+1*y r:=λ_ _=>rfl
 have h0:=Az (x:=λr=>1*x r+1*y r) (rs:=rs) a b;have h1:=uy hr a ((λr=>1*x r+1*y r) :: b);have h2:=uy hr (a++[x]) b;have h3:=uy hr (a++[y]) b;have h4:=Az (x:=x) (rs:=rs) a b;have h5:=Az (x:=y) (rs:=rs) a b;simp only[dc,gF,dF] at h0 h1 h2 h3 h4 h5;rw[h1,h2,h3,h4,h5] at h0;grind
theorem Ei {x:iW} {rs:List Nat}:∀(b a c:List iW),jB rs (a++x :: (b++x :: c))=0
 | [],a,c=>Az a c
 | y :: b,a,c=>by
  have:=Ei (x:=x) (rs:=rs) b (a++[y]) c;simp only[dc,gF,dF] at this;rw[gF,Qv,this];rfl
def bD:Nat->(Nat->Rat)->Rat
 | 0,_=>0
 | k+1,f=>bD k f+f k
theorem aP {f g:Nat->Rat}:∀{k:Nat},(∀j,j < k->f j=g j)->bD k f=bD k g
 | 0,_=>rfl
 | k+1,h=>by
  show bD k f+f k=bD k g+g k
  rw[aP λj hj=>h j (),h k ()]
theorem oA {f g:Nat->Rat}:∀{k:Nat},bD k (λj=>f j+g j)=bD k f+bD k g
 | 0=>by show (0:Rat)=0+0;grind
 | k+1=>by
  show bD k (λj=>f j+g j)+_=(bD k f+f k)+(bD k g+g k)
  rw[oA];grind
theorem cL {f:Nat->Rat} {c:Rat}:∀{k:Nat},bD k (λj=>c*f j)=c*bD k f
 | 0=>by show (0:Rat)=c*0;grind
 | k+1=>by
  show bD k (λj=>c*f j)+_=c*(bD k f+f k)
  rw[cL];grind
theorem dh {f:Nat->Rat}:∀{k:Nat},(∀j,j < k->f j=0)->bD k f=0
 | 0,_=>rfl
 | k+1,h=>by
  show bD k f+f k=0
  rw[dh λj hj=>h j (),h k ()];grind
theorem fJ {f:Nat->Rat} {i:Nat}:∀{k:Nat},i < k->(∀j,j < k->j≠i->f j=0)->bD k f=f i
 | k+1,hi,h=>by
  show bD k f+f k=f i
  by_cases e:i=k
  ·subst e;rw[dh λj hj=>h j () ()];grind
  ·rw[fJ () λj hj=>h j (),h k () (λz=>e z.symm)];grind
theorem eU {f:Nat->Nat->Rat} {m:Nat}:∀{k:Nat},bD k (λi=>bD m (f i))=bD m (λj=>bD k λi=>f i j)
 | 0=>(dh λ_ _=>rfl).symm
 | k+1=>by
  show bD k (λi=>bD m (f i))+bD m (f k)=bD m (λj=>bD k (λi=>f i j)+f k j)
  rw[eU,oA]
theorem Ef {rs:List Nat} {W:iW} {v:Nat->iW} {c:Nat->Rat} (a b:List iW):∀{k:Nat} {W:iW},(∀r∈rs,W r=bD k λj=>c j*v j r)->jB rs (a++W :: b)=bD k λj=>c j*jB rs (a++v j :: b)
 | 0,W,h=>Ky h a b
 | k+1,W,h=>by
  rw[uy (f:=λr=>bD k λj=>c j*v j r) (g:=v k) (x:=1) (y:=c k) (λr hr=>by rw[h r hr];show bD k _+_=_;grind) a b,Ef a b (k:=k) (W:=λr=>bD k λj=>c j*v j r) λr _=>rfl];show _=bD k _+_
  grind
end L2
namespace L2
open Nm
def kX (f:Nat->Nat):Nat->List Nat
 | 0=>[]
 | k+1=>f k :: kX f k
def jm (v:Nat->iW):Nat->List iW
 | 0=>[]
 | k+1=>v k :: jm v k
def Ik (v:Nat->iW) (i:Nat):Nat->List iW
 | 0=>[]
 | k+1=>if k<=i then [] else v k :: Ik v i k
theorem rk {f:Nat->Nat}:∀{k:Nat},(kX f k).9=k
 | 0=>rfl
 | k+1=>by show (kX f k).9+1=_;rw[rk]
theorem cw_len {v:Nat->iW}:∀{k:Nat},(jm v k).9=k
 | 0=>rfl
 | k+1=>by show (jm v k).9+1=_;rw[cw_len]
theorem nE {f:Nat->Nat} {r:Nat}:∀{k:Nat},r∈kX f k->∃t,t < k/\r=f t
 | k+1,h=>by
  rcases aI.mp h with h | h
  ·exact #[k,(),h]
  ·obtain t|a|b:=nE h;exact #[t,(),b]
theorem FL {f g:Nat->Nat}:∀{k:Nat},(∀j,j < k->f j=g j)->kX f k=kX g k
 | 0,_=>rfl
 | k+1,h=>by
  show f k :: kX f k=g k :: kX g k
  rw[h k (),FL λj hj=>h j ()]
theorem cw_congr {f g:Nat->iW}:∀{k:Nat},(∀j,j < k->f j=g j)->jm f k=jm g k
 | 0,_=>rfl
 | k+1,h=>by
  show f k :: jm f k=g k :: jm g k
  rw[h k (),cw_congr λj hj=>h j ()]
theorem cw_mem {v:Nat->iW} {j:Nat}:∀{k:Nat},j < k->v j∈jm v k
 | k+1,h=>by
  by_cases e:j=k
  ·subst e;exact .head _
  ·exact .tail _ (cw_mem ())
theorem cw_in {v:Nat->iW} {x:iW}:∀{k:Nat},x∈jm v k->∃t,t < k/\x=v t
 | k+1,h=>by
  rcases aI.mp h with h | h
  ·exact #[k,(),h]
  ·obtain t|a|b:=cw_in h;exact #[t,(),b]
theorem Oy {v:Nat->iW} {i j:Nat} (h1:i < j):∀{k:Nat},j < k->v j∈Ik v i k
 | k+1,h=>by
  show v j∈if k<=i then [] else v k :: Ik v i k
  rw[if_neg ()];by_cases e:j=k
  ·subst e;exact .head _
  ·exact .tail _ (Oy h1 ())
theorem CO {v:Nat->iW} {i:Nat} {x:iW}:∀{k:Nat},x∈Ik v i k->∃t,t < k/\x=v t
 | k+1,h=>by
  have h:x∈if k<=i then [] else v k :: Ik v i k:=h
  split at h
  ·cases h
  ·rcases aI.mp h with h | h
   ·exact #[k,(),h]
   ·obtain t|a|b:=CO h;exact #[t,(),b]
theorem cw_split {v:Nat->iW} {i:Nat}:∀{k:Nat},i < k->jm v k=Ik v i k++v i :: jm v i
 | k+1,h=>by
  show v k :: jm v k=(if k<=i then [] else v k :: Ik v i k)++_
  by_cases e:i=k
  ·subst e;rw[if_pos (ak _)];rfl
  ·rw[if_neg (),cw_split (k:=k) (i:=i) ()];rfl
theorem uX {c:Nat->Rat} (hi:i < k) (hW:∀r∈rs,W r=bD k λj=>c j*v j r):jB rs (Ik v i k++W :: jm v i)=c i*jB rs (jm v k):=by
 rw[Ef (v:=v) (c:=c) (W:=W) _ _ hW,fJ hi λj hj ne=>?_,cw_split hi];rcases cB j i with h | h
 ·obtain s|t|e:=Iq (cw_mem (v:=v) h);rw[e,Ei];grind
 ·obtain s|t|e:=Iq (Oy (v:=v) (show i < j by lia) hj);have:=Ei (x:=v j) (rs:=rs) t s (jm v i);rw[e,dc,gF,this];grind
theorem Tx {c:Nat->Rat} (hW:∀r∈rs,W r=bD k λj=>c j*v j r):jB rs (W :: jm v k)=0:=by
 have:=Ef (v:=v) (c:=c) (W:=W) [] (jm v k) hW;rw[dF] at this;rw[this];refine dh λj hj=>?_
 obtain s|t|e:=Iq (cw_mem (v:=v) hj);have:=Ei (x:=v j) (rs:=rs) s [] t;rw[dF] at this;rw[e,dF,this];grind
theorem LC {c:Nat->Rat} (hi:i∉rs) (h1:W i=bD k (λj=>c j*v j i)+s) (hW:∀r∈rs,W r=bD k λj=>c j*v j r):jB (i :: rs) (W :: jm v k)=s*jB rs (jm v k):=by
 have e:=uy (rs:=i :: rs) (h:=W) (f:=λr=>bD k λj=>c j*v j r) (g:=λr=>if r=i then 1 else 0) (x:=1) (y:=s) (λr hr=>by
  rcases aI.mp hr with rfl | hr
  ·rw[h1,if_pos rfl];grind
  ·rw[hW r hr,if_neg (λz=>hi (by rw[<- z];exact hr))];grind) [] (jm v k)
 rw[dF,dF,dF,Tx (c:=c) λr _=>rfl] at e
 have e2:jB (i :: rs) ((λr=>if r=i then (1:Rat) else 0) :: jm v k)=jB rs (jm v k):=by
  show 1*(if i=i then (1:Rat) else 0)*jB rs ([]++jm v k)+yE (λws=>jB rs ws) i ([]++[λr=>if r=i then (1:Rat) else 0]) (jm v k) (-1)=_
  have hF:∀a b,(λws=>jB rs ws) (a++(λr=>if r=i then (1:Rat) else 0) :: b)=0*(λws=>jB rs ws) (a++(λr=>if r=i then (1:Rat) else 0) :: b)+0*(λws=>jB rs ws) (a++(λr=>if r=i then (1:Rat) else 0) :: b):=λa b=>by
   have:=Ky (h:=λr=>if r=i then (1:Rat) else 0) (rs:=rs) (λr hr=>if_neg λz=>hi (by rw[<- z];exact hr)) a b
   dsimp only
   rw[this];grind
  have:=D9 (r:=i) hF (jm v k) [] [] (-1);rw[this,if_pos rfl,dF];grind
 rw[e2] at e;rw[e];grind
theorem NM {F:List iW->Rat} {r B W:Nat}:∀{post pre:List iW} {s:Rat},(∀ws,(∀w∈ws,w∈pre++post)->ws.9+1=(pre++post).9->Fr 1 B (F ws))->(∀w∈post,Fr 1 W (w r))->Fr 1 1 s->Fr 1 (post.9*(W*B)) (yE F r pre post s)
 | [],pre,s,_,_,_=>by show Fr 1 _ 0;exact Fr.zero
 | v :: post,pre,s,hF,hw,hs=>by
  have t1:Fr 1 (W*B) (s*v r*F (pre++post)):=by
   have:=(hs.mul (hw v (.head _))).mul (hF (pre++post) (λw h=>by
    rcases ay.mp h with h | h
    ·exact fb _ h
    ·exact bL _ (.tail _ h)) (by simp only[ar,bx];lia))
   simpa using this
  have t2:=NM (F:=F) (r:=r) (B:=B) (W:=W) (post:=post) (pre:=pre++[v]) (s:=-s) (λws h h'=>hF ws (λw hw=>by simpa using h w hw) (by simpa using h')) (λw h=>hw w (.tail _ h)) (by simpa using hs.neg);exact (t1.add t2).mono (by rw[bx,eD];lia)
theorem Ay {W N:Nat}:∀{rs:List Nat} {vs:List iW},vs.9<=N->(∀v∈vs,∀r∈rs,Fr 1 W (v r))->Fr 1 ((N*W)^rs.9) (jB rs vs)
 | [],[],_,_=>by show Fr 1 1 1;exact (Fr.int (i:=1) ())
 | [],_ :: _,_,_=>by show Fr 1 _ 0;exact Fr.zero
 | r :: rs,vs,hl,h=>by
  have:=NM (F:=λws=>jB rs ws) (r:=r) (B:=(N*W)^rs.9) (W:=W) (post:=vs) (pre:=[]) (s:=1) (λws h1 h2=>Ay (by rw[dF] at h2;lia) λv hv r' hr'=>h v (by simpa using h1 v hv) r' (.tail _ hr')) (λw hw=>h w hw r (.head _)) (Fr.int (i:=1) ());refine this.mono ?_;rw[bx,eF,cv ((N*W)^rs.9),dm N];exact ax _ hl
structure AH (a:Nat->Nat->Rat) (m k:Nat) (pm p:Nat->Nat) (l:Nat->Nat->Rat) (d:Rat):Prop where
 inj:∀i j,i < m->j < m->pm i=pm j->i=j
 rng:∀i,i < m->pm i < m
 km:k<=m
 d0:d≠0
 det:d=jB (kX pm k) (jm (λj r=>a r (p j)) k)
 eqs:∀i,i < m->∀c,d*a (pm i) c=bD k (λj=>a (pm i) (p j)*l j c)+if i < k then 0 else l i c
 unit:∀i,i < m->∀j,j < k->l i (p j)=if i=j then d else 0
section
variable {a l:Nat->Nat->Rat} {m k:Nat} {pm p:Nat->Nat} {d:Rat}
theorem AH.start (h:∀i,i < m->pm i=i):AH a m 0 pm p a 1 where
 inj i j hi hj e:=by rw[h i hi,h j hj] at e;exact e
 rng i hi:=by rw[h i hi];exact hi
 km:=br _
 d0:=()
 det:=rfl
 eqs i hi c:=by
  rw[h i hi,if_neg ()];show 1*a i c=0+a i c
  grind
 unit i _ j hj:=absurd hj ()
theorem AH.coef (B:AH a m k pm p l d) (hi:i < m):a (pm i) c=bD k (λj=>(l j c / d)*a (pm i) (p j))+if i < k then 0 else l i c / d:=by
 have h:=B.eqs i hi c;have d0:=B.d0
 have e:bD k (λj=>(l j c / d)*a (pm i) (p j))=(1 / d)*bD k (λj=>a (pm i) (p j)*l j c):=by
  rw[<- cL];exact aP λj _=>by grind
 rw[e]
 split at h
 ·rw[if_pos (by assumption)];grind
 ·rw[if_neg (by assumption)];grind
theorem AH.old (B:AH a m k pm p l d) (hi:i < k):l i c=jB (kX pm k) (Ik (λj r=>a r (p j)) i k++(λr=>a r c) :: jm (λj r=>a r (p j)) i):=by
 have km:=B.km;have d0:=B.d0;rw[uX (v:=λj r=>a r (p j)) (c:=λj=>l j c / d) hi λr hr=>?_,<- B.det]
 ·grind
 ·obtain t|ht|rfl:=nE hr;have:=B.coef (i:=t) (c:=c) ();rw[if_pos ht] at this;rw[this];grind
theorem AH.new (B:AH a m k pm p l d) (h1:k<=i) (hi:i < m):l i c=jB (pm i :: kX pm k) ((λr=>a r c) :: jm (λj r=>a r (p j)) k):=by
 have km:=B.km;have d0:=B.d0
 have hn:pm i∉kX pm k:=λhm=>by
  obtain t|ht|e:=nE hm;have:=B.inj i t hi () e
  lia
 have e1:a (pm i) c=bD k (λj=>(l j c / d)*a (pm i) (p j))+l i c / d:=by
  have:=B.coef (i:=i) (c:=c) hi;rwa [if_neg ()] at this
 have e2:∀r∈kX pm k,a r c=bD k (λj=>(l j c / d)*a r (p j)):=λr hr=>by
  obtain t|ht|rfl:=nE hr;have:=B.coef (i:=t) (c:=c) ();rw[if_pos ht] at this;rw[this];grind
 rw[LC (v:=λj r=>a r (p j)) (c:=λj=>l j c / d) (W:=λr=>a r c) (s:=l i c / d) hn e1 e2,<- B.det];grind
theorem AH.fr (B:AH a m k pm p l d) (hN:k < N) (hW:1<=W) (ha:∀i,i < m->∀c,Fr 1 W (a i c)) (hi:i < m):Fr 1 ((N*W)^(k+1)) (l i c):=by
 have km:=B.km;have mono:∀t,t<=k+1->(N*W)^t<=(N*W)^(k+1):=λt ht=>ai (bQ () hW) ht
 have ha':∀r∈kX pm k,∀c,Fr 1 W (a r c):=λr hr c=>by
  obtain t|ht|rfl:=nE hr;exact ha _ (B.rng t ()) c
 by_cases h:i < k
 ·rw[B.old h];refine (Ay (W:=W) (N:=N) ?_ ?_).mono (mono _ (by rw[rk];lia))
  ·have:=congrArg List.length (cw_split (v:=λj r=>a r (p j)) h);rw[ar,bx,cw_len] at this;rw[ar,bx]
   lia
  ·intro v hv r hr;rcases ay.mp hv with hv | hv
   ·obtain t|_|rfl:=CO hv;exact ha' r hr _
   ·rcases aI.mp hv with rfl | hv
    ·exact ha' r hr _
    ·obtain t|_|rfl:=cw_in hv;exact ha' r hr _
 ·rw[B.new () hi];refine (Ay (W:=W) (N:=N) ?_ ?_).mono (mono _ (by rw[bx,rk];lia))
  ·rw[bx,cw_len]
   lia
  ·intro v hv r hr
   have hr':∀c,Fr 1 W (a r c):=λc=>by
    rcases aI.mp hr with rfl | hr
    ·exact ha _ (B.rng i hi) c
    ·exact ha' r hr c
   rcases aI.mp hv with rfl | hv
   ·exact hr' _
   ·obtain t|_|rfl:=cw_in hv;exact hr' _
theorem AH.dfr (B:AH a m k pm p l d) (hN:k<=N) (ha:∀i,i < m->∀c,Fr 1 W (a i c)):Fr 1 ((N*W)^k) d:=by
 have km:=B.km;rw[B.det]
 have:=Ay (W:=W) (N:=N) (rs:=kX pm k) (vs:=jm (λj r=>a r (p j)) k) (by rw[cw_len];exact hN) λv hv r hr=>by
  obtain t|ht|rfl:=nE hr;obtain t'|_|rfl:=cw_in hv;exact ha _ (B.rng t ()) _
 rwa [rk] at this
def xk (k t i:Nat):Nat:=if i=k then t else if i=t then k else i
theorem vW (hk:k < m) (ht:t < m) (hi:i < m):xk k t i < m:=by
 unfold xk
 split
 ·exact ht
 ·split
  ·exact hk
  ·exact hi
theorem Sb (h:xk k t i=xk k t j):i=j:=by
 unfold xk at h
 split at h <;> split at h <;> (try split at h) <;> (try split at h) <;> lia
theorem xg (h:k<=t) (hi:i < k):xk k t i=i:=by
 unfold xk;rw[if_neg (),if_neg ()]
theorem yU (h:k<=t) (hi:k<=i):k<=xk k t i:=by
 unfold xk
 split
 ·exact h
 ·split <;> lia
theorem AH.swap (B:AH a m k pm p l d) {t:Nat} (h:k<=t) (ht:t < m):AH a m k (λi=>pm (xk k t i)) p (λi=>l (xk k t i)) d where
 inj i j hi hj e:=Sb (B.inj _ _ (vW () ht hi) (vW () ht hj) e)
 rng i hi:=B.rng _ (vW () ht hi)
 km:=B.km
 d0:=B.d0
 det:=by rw[B.det,FL (f:=pm) (g:=λi=>pm (xk k t i)) λj hj=>by rw[xg h hj]]
 eqs i hi c:=by
  have e:=B.eqs (xk k t i) (vW () ht hi) c;have e1:bD k (λj=>a (pm (xk k t i)) (p j)*l (xk k t j) c)=bD k (λj=>a (pm (xk k t i)) (p j)*l j c):=aP λj hj=>by rw[xg h hj]
  rw[e1];by_cases hk:i < k
  ·rw[xg h hk] at e ⊢;exact e
  ·rw[if_neg hk];rw[if_neg (by have:=yU h (show k<=i by lia);lia)] at e;exact e
 unit i hi j hj:=by
  rw[B.unit _ (vW () ht hi) j hj];by_cases hk:i < k
  ·rw[xg h hk]
  ·have:=yU h (show k<=i by lia);rw[if_neg (),if_neg ()]
theorem AH.step (B:AH a m k pm p l d) {c0:Nat} (hk:k < m) (h0:l k c0≠0):AH a m (k+1) pm (λj=>if j=k then c0 else p j) (λi c=>if i=k then l k c else (l k c0*l i c - l i c0*l k c) / d) (l k c0) where
 inj:=B.inj
 rng:=B.rng
 km:=hk
 d0:=h0
 det:=by
  rw[B.new (ak _) hk];show _=jB (pm k :: kX pm k) ((λr=>a r (if k=k then c0 else p k)) :: jm _ k)
  rw[if_pos rfl];congr 2;exact cw_congr λj hj=>by rw[if_neg (show j≠k by lia)]
 eqs i hi c:=by
  have d0:=B.d0;have e1:=B.eqs i hi c;have e2:=B.eqs i hi c0;show l k c0*a (pm i) c=(bD k _+_)+_
  have s1:bD k (λj=>a (pm i) (if j=k then c0 else p j)*(if j=k then l k c else (l k c0*l j c - l j c0*l k c) / d))=(l k c0 / d)*bD k (λj=>a (pm i) (p j)*l j c)+(- l k c / d)*bD k (λj=>a (pm i) (p j)*l j c0):=by
   rw[<- cL,<- cL,<- oA];refine aP λj hj=>?_
   rw[if_neg (show j≠k by lia),if_neg (show j≠k by lia)];grind
  rw[s1];simp only[if_true];generalize bD k (λj=>a (pm i) (p j)*l j c)=S1 at e1 ⊢;generalize bD k (λj=>a (pm i) (p j)*l j c0)=S2 at e2 ⊢;rcases fF i k with h | h | h
  ·rw[if_pos h] at e1 e2;rw[if_pos ()];grind
  ·subst h;rw[if_neg ()] at e1 e2;rw[if_pos ()];grind
  ·rw[if_neg ()] at e1 e2;rw[if_neg (),if_neg ()];grind
 unit i hi j hj:=by
  have d0:=B.d0;by_cases e:j=k
  ·subst e;simp only[if_true];by_cases ei:i=j
   ·rw[if_pos ei,if_pos ei]
   ·rw[if_neg ei,if_neg ei];grind
  ·have hj':j < k:=()
   rw[if_neg e];by_cases ei:i=k
   ·rw[if_pos ei,B.unit k hk j hj',if_neg (),if_neg ()]
   ·rw[if_neg ei,B.unit i hi j hj',B.unit k hk j hj',if_neg (show k≠j by lia)]
    split
    ·grind
    ·grind
end
def fI (m:Nat) (a:Nat->Nat->Rat) (x:Nat->Rat):Prop:=∃w:Nat->Rat,∀c,x c=bD m λt=>w t*a t c
theorem fI.row (hi:i < m):fI m a (a i):=#[λt=>if t=i then 1 else 0,λc=>by
 rw[fJ hi λj _ ne=>by dsimp only;rw[if_neg ne];grind]
 dsimp only
 rw[if_pos rfl];grind]
theorem fI.lin (α β:Rat) (hx:fI m a x) (hy:fI m a y):fI m a λc=>α*x c+β*y c:=by
 obtain w|hw:=hx;obtain v|hv:=hy;refine #[λt=>α*w t+β*v t,λc=>?_]
 dsimp only
 rw[hw c,hv c,<- cL,<- cL,<- oA];exact aP λj _=>by grind
theorem fI.congr (h:∀c,x c=y c) (hx:fI m a x):fI m a y:=by obtain w|hw:=hx;exact #[w,λc=>by rw[<- h c];exact hw c]
theorem fI.trans (h:∀t,t < m'->fI m a (b t)) (hx:fI m' b x):fI m a x:=by
 obtain v|hv:=hx
 have h2:∀t,∃w:Nat->Rat,t < m'->∀c,b t c=bD m λs=>w s*a s c:=λt=>by
  by_cases ht:t < m'
  ·obtain w|hw:=h t ht;exact #[w,λ_=>hw]
  ·exact #[λ_=>0,λz=>absurd z ht]
 have hc:=Classical.axiomOfChoice h2;obtain w|hw:=hc;refine #[λs=>bD m' λt=>v t*w t s,λc=>?_];rw[hv c];have e1:bD m' (λt=>v t*b t c)=bD m' (λt=>bD m λs=>v t*(w t s*a s c)):=aP λt ht=>by rw[hw t ht c,<- cL]
 rw[e1,eU];refine aP λs _=>?_
 have:bD m' (λt=>v t*w t s)*a s c=a s c*bD m' (λt=>v t*w t s):=cP ..;rw[this,<- cL];exact aP λt _=>by grind
theorem fI.zero (h:∀c,x c=0):fI m a x:=#[λ_=>0,λc=>by rw[h c,dh λ_ _=>by grind]]
structure EU (m n:Nat) (a:Nat->Nat->Rat) (k:Nat) (p:Nat->Nat) (R:Nat->Nat->Rat):Prop where
 inc:∀i j,i < j->j < k->p i < p j
 low:∀j,j < k->p j < n
 unit:∀i,i < k->∀j,j < k->R i (p j)=if i=j then 1 else 0
 lead:∀i,i < k->∀c,c < p i->R i c=0
 span:∀i,i < m->fI k R (a i)
 back:∀i,i < k->fI m a (R i)
section
variable {m m' k k' n:Nat} {a a' R R':Nat->Nat->Rat} {p p':Nat->Nat} {x:Nat->Rat}
theorem EU.coef (h:EU m n a k p R) (hx:fI k R x) (c:Nat):x c=bD k λj=>x (p j)*R j c:=by
 obtain w|hw:=hx;rw[hw c];refine aP λj hj=>?_
 rw[hw (p j),fJ hj λt ht ne=>by rw[h.unit t ht j hj,if_neg ne];grind,h.unit j hj j hj,if_pos rfl];grind
theorem EU.lead_in (h:EU m n a k p R) (hx:fI k R x) (h1:x c≠0) (h0:∀c',c' < c->x c'=0):∃j,j < k/\p j=c:=by
 refine Classical.byContradiction λhn=>h1 ?_
 rw[h.coef hx c];refine dh λj hj=>?_
 rcases fF (p j) c with z | z | z
 ·rw[h0 _ z];grind
 ·exact absurd #[j,hj,z] hn
 ·rw[h.lead j hj c z];grind
theorem inc_le (h1:∀i j,i < j->j < k->p i < p j) (h2:∀i j,i < j->j < k'->p' i < p' j) (hs:∀j,j < k'->∃i,i < k/\p i=p' j):∀{j:Nat},j < k'->∀{i:Nat},i < k->p i=p' j->j<=i
 | 0,_,_,_,_=>br _
 | j+1,hj,i,hi,e=>by
  obtain i0|hi0|e0:=hs j ();have:=inc_le h1 h2 hs (j:=j) () hi0 e0;have lt:=h2 j (j+1) () hj;rcases fF i0 i with z | z | z
  ·lia
  ·subst z;lia
  ·have:=h1 i i0 z hi0;lia
theorem NT (h1:∀i j,i < j->j < k->p i < p j) (h:i<=j) (hj:j < k):p i<=p j:=by
 rcases cB i j with z | z
 ·exact cC (h1 i j z hj)
 ·have:i=j:=()
  rw[this];exact ak _
theorem Ku (h1:∀i j,i < j->j < k->p i < p j) (h2:∀i j,i < j->j < k'->p' i < p' j) (hs:∀j,j < k'->∃i,i < k/\p i=p' j):k'<=k/\∀j,j < k'->p j<=p' j:=by
 refine #[?_,λj hj=>?_]
 ·rcases iI k' with z | z
  ·lia
  ·obtain i|hi|e:=hs (k' - 1) ();have:=inc_le h1 h2 hs (j:=k' - 1) () hi e
   lia
 ·obtain i|hi|e:=hs j hj;rw[<- e];exact NT h1 (inc_le h1 h2 hs hj hi e) hi
theorem EU.uniq (h:EU m n a k p R) (h':EU m' n a' k' p' R') (s1:∀i,i < m->fI m' a' (a i)) (s2:∀i,i < m'->fI m a (a' i)):k=k'/\(∀j,j < k->p j=p' j)/\∀i,i < k->∀c,R i c=R' i c:=by
 have x1:∀i,i < k->fI k' R' (R i):=λi hi=>fI.trans (λt ht=>h'.span t ht) (fI.trans s1 (h.back i hi))
 have x2:∀i,i < k'->fI k R (R' i):=λi hi=>fI.trans (λt ht=>h.span t ht) (fI.trans s2 (h'.back i hi))
 have y1:∀j,j < k->∃i,i < k'/\p' i=p j:=λj hj=>h'.lead_in (x1 j hj) (by rw[h.unit j hj j hj,if_pos rfl];decide) (h.lead j hj)
 have y2:∀j,j < k'->∃i,i < k/\p i=p' j:=λj hj=>h.lead_in (x2 j hj) (by rw[h'.unit j hj j hj,if_pos rfl];decide) (h'.lead j hj)
 obtain z1|w1:=Ku h'.inc h.inc y1;obtain z2|w2:=Ku h.inc h'.inc y2;have ek:k=k':=OR z1 z2;subst ek;have ep:∀j,j < k->p j=p' j:=λj hj=>OR (w2 j hj) (w1 j hj)
 refine #[rfl,ep,λi hi c=>?_];rw[h.coef (x2 i hi) c,fJ hi λj hj ne=>by rw[ep j hj,h'.unit i hi j hj,if_neg (λz=>ne z.symm)];grind,ep i hi,h'.unit i hi i hi,if_pos rfl];grind
end
structure p9 (a:Nat->Nat->Rat) (m k P:Nat) (p:Nat->Nat) (l:Nat->Nat->Rat) (d:Rat):Prop where
 km:k<=m
 d0:d≠0
 unit:∀i,i < m->∀j,j < k->l i (p j)=if i=j then d else 0
 inc:∀i j,i < j->j < k->p i < p j
 low:∀j,j < k->p j < P
 zero:∀i,k<=i->i < m->∀c,c < P->l i c=0
 lead:∀j,j < k->∀c,c < p j->l j c=0
 there:∀i,i < m->fI m l (a i)
 back:∀i,i < m->fI m a (l i)
section
variable {m k n P:Nat} {a l l':Nat->Nat->Rat} {p:Nat->Nat} {d d':Rat}
theorem p9.start:p9 a m 0 0 p a 1 where
 km:=br _
 d0:=()
 unit _ _ j hj:=absurd hj ()
 inc _ j _ hj:=absurd hj ()
 low j hj:=absurd hj ()
 zero _ _ _ c hc:=absurd hc ()
 lead j hj:=absurd hj ()
 there i hi:=fI.row hi
 back i hi:=fI.row hi
theorem p9.skip (E:p9 a m k P p l d) (h:∀i,k<=i->i < m->l i P=0):p9 a m k (P+1) p l d :=
 #[E.km,E.d0,E.unit,E.inc,λj hj=>Nat.lt_succ_of_lt (E.low j hj),λi h1 h2 c hc=>by
  by_cases e:c=P
  ·rw[e];exact h i h1 h2
  ·exact E.zero i h1 h2 c (),E.lead,E.there,E.back]
theorem Uy:xk k t (xk k t i)=i:=by
 unfold xk
 split
 ·split <;> (try split) <;> lia
 ·split
  ·rw[if_pos rfl];lia
  ·rfl
theorem p9.swap (E:p9 a m k P p l d) {t:Nat} (h:k<=t) (ht:t < m):p9 a m k P p (λi=>l (xk k t i)) d where
 km:=E.km
 d0:=E.d0
 unit i hi j hj:=by
  rw[E.unit _ (vW () ht hi) j hj];by_cases hk:i < k
  ·rw[xg h hk]
  ·have:=yU h (show k<=i by lia);rw[if_neg (),if_neg ()]
 inc:=E.inc
 low:=E.low
 zero i h1 h2 c hc:=E.zero _ (yU h h1) (vW () ht h2) c hc
 lead j hj c hc:=by rw[xg h hj];exact E.lead j hj c hc
 there i hi:=fI.trans (λs hs=>fI.congr (λc=>by rw[Uy]) (fI.row (a:=λi=>l (xk k t i)) (i:=xk k t s) (vW () ht hs))) (E.there i hi)
 back i hi:=E.back _ (vW () ht hi)
theorem p9.step (E:p9 a m k P p l d) (hk:k < m) (h0:d'≠0) (unit':∀i,i < m->∀j,j < k+1->l' i (if j=k then P else p j)=if i=j then d' else 0)
  (hl:∀i,i < m->∃β γ:Rat,β≠0/\(i=k->γ=0)/\∀c,l' i c=β*l i c+γ*l k c):p9 a m (k+1) (P+1) (λj=>if j=k then P else p j) l' d' where
 km:=hk
 d0:=h0
 unit:=unit'
 inc i j hij hj:=by
  by_cases e:j=k
  ·rw[if_pos e,if_neg ()];exact E.low i ()
  ·rw[if_neg e,if_neg ()];exact E.inc i j hij ()
 low j hj:=by
  by_cases e:j=k
  ·rw[if_pos e];lia
  ·rw[if_neg e];exact Nat.lt_succ_of_lt (E.low j ())
 zero i h1 h2 c hc:=by
  by_cases e:c=P
  ·have:=unit' i h2 k ();rw[if_pos rfl,if_neg ()] at this;rw[e];exact this
  ·obtain β|γ|_|_|q:=hl i h2;rw[q c,E.zero i () h2 c (),E.zero k (ak _) hk c ()];grind
 lead j hj c hc:=by
  have km:=E.km;obtain β|γ|_|_|q:=hl j ();by_cases e:j=k
  ·rw[if_pos e] at hc;rw[q c,e,E.zero k (ak _) hk c hc];grind
  ·rw[if_neg e] at hc;have:=E.low j ();rw[q c,E.lead j () c hc,E.zero k (ak _) hk c ()];grind
 there i hi:=by
  refine fI.trans (λs hs=>?_) (E.there i hi);obtain β|γ|b0|_|q:=hl s hs;obtain βk|γk|bk0|gk|qk:=hl k hk;have g0:=gk rfl;refine fI.congr (λc=>?_) (fI.lin (1 / β) (-(γ / β) / βk) (fI.row (a:=l') hs) (fI.row (a:=l') hk));rw[q c,qk c,g0];grind
 back i hi:=by
  obtain β|γ|_|_|q:=hl i hi;exact fI.congr (λc=>(q c).symm) (fI.lin β γ (E.back i hi) (E.back k hk))
theorem p9.done (E:p9 a m k n p l d) (ha:∀i,i < m->∀c,n<=c->a i c=0):EU m n a k p (λi c=>l i c / d) where
 inc:=E.inc
 low:=E.low
 unit i hi j hj:=by
  have d0:=E.d0;have km:=E.km;rw[E.unit i () j hj]
  split
  ·grind
  ·grind
 lead i hi c hc:=by
  rw[E.lead i hi c hc];grind
 span i hi:=by
  have d0:=E.d0;refine fI.trans (λs hs=>?_) (E.there i hi);by_cases z:s < k
  ·refine fI.congr (λc=>?_) (fI.lin d 0 (fI.row (a:=λi c=>l i c / d) z) (fI.row (a:=λi c=>l i c / d) z));grind
  ·refine fI.zero λc=>?_
   by_cases hc:c < n
   ·exact E.zero s () hs c hc
   ·obtain w|hw:=E.back s hs;rw[hw c,dh λt ht=>by rw[ha t ht c ()];grind]
 back i hi:=by
  have km:=E.km;have d0:=E.d0;refine fI.congr (λc=>?_) (fI.lin (1 / d) 0 (E.back i ()) (E.back i ()));grind
end
def gD (ls:List (List Int)) (i c:Nat):Rat:=(((ls.getD i []).getD c 0:Int):Rat)
def ck (rows:LR9) (i c:Nat):Rat:=(rows.getD i []).getD c 0
def qL (ls:List (List Int)) (k t:Nat):List (List Int):=(ls.set k (ls.getD t [])).set t (ls.getD k [])
def Hs (ls:List (List Int)) (k c:Nat) (b:Int):List (List Int):=(ls.map λzs=>List.zipWith (λx y=>((ls.getD k []).getD c 0*x - zs.getD c 0*y).fdiv b) zs (ls.getD k [])).set k (ls.getD k [])
section
variable {b d:Int}
theorem uv {α:Type} {l:List α} {x e:α} (hi:i < l.9):(l.set i x).getD j e=if j=i then x else l.getD j e:=by
 rw[aa,aa,List.getElem?_set];by_cases h:j=i
 ·subst h;rw[if_pos rfl,if_pos hi,if_pos rfl];rfl
 ·rw[if_neg (λz=>h z.symm),if_neg h]
theorem xh:(qL ls k t).9=ls.9:=by unfold qL;rw[df,df]
theorem OB:(Hs ls k c b).9=ls.9:=by unfold Hs;rw[df,af]
theorem getD_in {α:Type} {l:List α} {e:α} (h:i < l.9):l.getD i e∈l:=by
 rw[aa,ae h];exact aM h
theorem JZ (w:∀zs∈ls,zs.9=n) (hk:k < ls.9) (ht:t < ls.9):∀zs∈qL ls k t,zs.9=n:=λzs hz=>by
 unfold qL at hz;rcases cG hz with h | h
 ·rcases cG h with h | h
  ·exact w zs h
  ·rw[h];exact w _ (getD_in ht)
 ·rw[h];exact w _ (getD_in hk)
theorem KE (w:∀zs∈ls,zs.9=n) (hk:k < ls.9):∀zs∈Hs ls k c b,zs.9=n:=λzs hz=>by
 unfold Hs at hz;rcases cG hz with h | h
 ·obtain y|hy|rfl:=aA.mp h;rw[cV,w y hy,w _ (getD_in hk)]
  lia
 ·rw[h];exact w _ (getD_in hk)
theorem wL (hk:k < ls.9) (ht:t < ls.9) (i c:Nat):gD (qL ls k t) i c=gD ls (xk k t i) c:=by
 unfold gD qL xk;rw[uv (by rw[df];exact ht),uv hk];by_cases h1:i=t
 ·rw[if_pos h1];by_cases h2:i=k
  ·rw[if_pos h2,<- h1,<- h2]
  ·rw[if_neg h2,if_pos h1]
 ·rw[if_neg h1];by_cases h2:i=k
  ·rw[if_pos h2,if_pos h2]
  ·rw[if_neg h2,if_neg h2,if_neg h1]
theorem xV (w:∀zs∈ls,zs.9=n) (hc:n<=c):gD ls i c=0:=by
 unfold gD;by_cases h:i < ls.9
 ·have:=w _ (getD_in (e:=[]) h);rw[aa (l:=ls.getD i []),aQ ()];rfl
 ·rw[aa (l:=ls),aQ ()];rfl
theorem qE {x:Int} (h:(x:Rat)=0):x=0:=by
 have:(x:Rat)=((0:Int):Rat):=h;exact eT.mp this
theorem Js {x b:Int} (hb:b≠0) (hq:∃z:Int,q=(z:Rat)) (e:(x:Rat)=(b:Rat)*q):((x.fdiv b:Int):Rat)=q:=by
 obtain z|rfl:=hq;rw[<- aY] at e;have:=eT.mp e;rw[this,Int.mul_fdiv_cancel_left _ hb]
theorem y8 (h:Fr 1 W q):∃z:Int,q=(z:Rat):=by
 obtain z|e|_:=h;exact #[z,by rw[<- e];simp]
theorem xT {z:Int} (h:Fr 1 W (z:Rat)):z.natAbs<=W:=by
 obtain y|e|b:=h;have:(z:Rat)=(y:Rat):=by rw[<- e];simp
 rw[eT.mp this];simpa using b
theorem Oe (w:∀zs∈ls,zs.9=n) (hk:k < ls.9) (hb:b≠0) (hi:i < ls.9) (hz:∀c,∃z:Int,(gD ls k P*gD ls i c - gD ls i P*gD ls k c) / (b:Rat)=(z:Rat)) (c:Nat) :
  gD (Hs ls k P b) i c=if i=k then gD ls k c else (gD ls k P*gD ls i c - gD ls i P*gD ls k c) / (b:Rat):=by
 by_cases e:i=k
 ·rw[if_pos e];unfold gD Hs;rw[uv (by rw[af];exact hk),if_pos e]
 ·rw[if_neg e];by_cases hc:c < n
  ·have hb':(b:Rat)≠0:=λz=>hb (qE z)
   have lk:=w _ (getD_in (e:=[]) hk);have li:=w _ (getD_in (e:=[]) hi)
   have e1:gD (Hs ls k P b) i c=(((((ls.getD k []).getD P 0*(ls.getD i []).getD c 0 - (ls.getD i []).getD P 0*(ls.getD k []).getD c 0).fdiv b:Int)):Rat):=by
    unfold Hs;rw[gD,uv (by rw[af];exact hk),if_neg e];rw[aa (l:=List.map _ ls),aD,ae hi];show ((((List.zipWith _ ls[i] (ls.getD k [])).getD c 0:Int)):Rat)=_
    have ei:ls.getD i []=ls[i]:=by rw[aa,ae hi];rfl
    rw[<- ei];rw[aa (l:=List.zipWith _ _ _),cR,aa (l:=ls.getD i []) (i:=c),aa (l:=ls.getD k []) (i:=c),ae (show c < (ls.getD i []).9 by lia),ae (show c < (ls.getD k []).9 by lia)];rfl
   rw[e1];refine Js hb (hz c) ?_;rw[AJ,aY,aY];show _=(b:Rat)*((gD ls k P*gD ls i c - gD ls i P*gD ls k c) / (b:Rat))
   show gD ls k P*gD ls i c - gD ls i P*gD ls k c=_
   grind
  ·rw[xV (KE w hk) (show n<=c by lia),xV w (i:=i) (show n<=c by lia),xV w (i:=k) (show n<=c by lia)];grind
end
section
variable {m k n P:Nat} {a l l2:Nat->Nat->Rat} {pm p p2:Nat->Nat} {d:Rat}
theorem AH.congr (B:AH a m k pm p l d) (hp:∀j,j < k->p2 j=p j) (hl:∀i,i < m->∀c,l2 i c=l i c):AH a m k pm p2 l2 d where
 inj:=B.inj
 rng:=B.rng
 km:=B.km
 d0:=B.d0
 det:=by rw[B.det,cw_congr (f:=λj r=>a r (p j)) (g:=λj r=>a r (p2 j)) λj hj=>by rw[hp j hj]]
 eqs i hi c:=by
  have km:=B.km;rw[B.eqs i hi c,hl i hi c];congr 1;exact aP λj hj=>by rw[hp j hj,hl j () c]
 unit i hi j hj:=by rw[hp j hj,hl i hi];exact B.unit i hi j hj
theorem fI.rows (h:∀i,i < m->∀c,l2 i c=l i c) (hx:fI m l x):fI m l2 x:=by obtain w|hw:=hx;exact #[w,λc=>by rw[hw c];exact aP λt ht=>by rw[h t ht c]]
theorem p9.congr (E:p9 a m k P p l d) (hp:∀j,j < k->p2 j=p j) (hl:∀i,i < m->∀c,l2 i c=l i c):p9 a m k P p2 l2 d where
 km:=E.km
 d0:=E.d0
 unit i hi j hj:=by rw[hp j hj,hl i hi];exact E.unit i hi j hj
 inc i j hij hj:=by rw[hp i (),hp j hj];exact E.inc i j hij hj
 low j hj:=by rw[hp j hj];exact E.low j hj
 zero i h1 h2 c hc:=by rw[hl i h2];exact E.zero i h1 h2 c hc
 lead j hj c hc:=by
  have km:=E.km;rw[hp j hj] at hc;rw[hl j ()];exact E.lead j hj c hc
 there i hi:=(E.there i hi).rows hl
 back i hi:=(E.back i hi).congr λc=>(hl i hi c).symm
theorem p9.kP (E:p9 a m k P p l d):k<=P:=by
 have:∀j,j < k->j<=p j:=by
  intro j
  induction j with
  | zero=>intro _;exact br _
  | succ j ih =>
   intro hj;have:=ih ();have:=E.inc j (j+1) () hj
   lia
 rcases iI k with z | z
 ·lia
 ·have h1:=this (k - 1) ();have h2:=E.low (k - 1) ()
  lia
end
structure C5 (ls0:List (List Int)) (n P:Nat) (ls:List (List Int)) (ps:List Nat) (d:Int):Prop where
 len:ls.9=ls0.9
 wide:∀zs∈ls,zs.9=n
 bar:∃pm,AH (gD ls0) ls0.9 ps.9 pm (λj=>ps.getD j 0) (gD ls) d
 el:p9 (gD ls0) ls0.9 ps.9 P (λj=>ps.getD j 0) (gD ls) d
theorem C5.start (w:∀zs∈ls0,zs.9=n):C5 ls0 n 0 ls0 [] 1:=#[rfl,w,#[λi=>i,AH.start λ_ _=>rfl],p9.start]
theorem C5.d0 (h:C5 ls0 n P ls ps d):d≠0:=λz=>h.el.d0 (by rw[z];rfl)
theorem C5.skip (h:C5 ls0 n P ls ps d) (hz:∀i,ps.9<=i->i < ls.9->gD ls i P=0):C5 ls0 n (P+1) ls ps d:=#[h.len,h.wide,h.bar,h.el.skip λi h1 h2=>hz i h1 (by rw[h.len];exact h2)]
theorem getD_snoc (hj:j < l.9+1):(l++[x]).getD j 0=if j=l.9 then x else l.getD j 0:=by
 rw[aa,aa];by_cases e:j=l.9
 ·rw[if_pos e,e,bc (ak _),gM];rfl
 ·rw[if_neg e,bG ()]
theorem C5.int (h:C5 ls0 n P ls ps d) (hW:1<=W) (h0:∀i,i < ls0.9->∀c,Fr 1 W (gD ls0 i c)) (ht:ps.9<=t) (ht2:t < ls.9) (hne:gD ls t P≠0) :
  ∀i,i < ls.9->i≠ps.9->∀c,∃z:Int,(gD (qL ls ps.9 t) ps.9 P*gD (qL ls ps.9 t) i c - gD (qL ls ps.9 t) i P*gD (qL ls ps.9 t) ps.9 c) / (d:Rat)=(z:Rat):=λi hi ne c=>by
 obtain pm|B:=h.bar;have hl:=h.len;have hk:ps.9 < ls.9:=()
 have B1:=(B.swap ht ()).congr (p2:=λj=>ps.getD j 0) (l2:=gD (qL ls ps.9 t)) (λ_ _=>rfl) (λi _ c=>wL hk ht2 i c)
 have h1:gD (qL ls ps.9 t) ps.9 P≠0:=by
  rw[wL hk ht2];unfold xk;rw[if_pos rfl];exact hne
 have B2:=B1.step (c0:=P) () h1;have:=B2.fr (W:=W) (N:=ps.9+2) () hW h0 (i:=i) (c:=c) ();rw[if_neg ne] at this;exact y8 this
theorem C5.step (h:C5 ls0 n P ls ps d) (hW:1<=W) (h0:∀i,i < ls0.9->∀c,Fr 1 W (gD ls0 i c)) (ht:ps.9<=t) (ht2:t < ls.9) (hne:gD ls t P≠0) :
  C5 ls0 n (P+1) (Hs (qL ls ps.9 t) ps.9 P d) (ps++[P]) (((Hs (qL ls ps.9 t) ps.9 P d).getD ps.9 []).getD P 0):=by
 obtain pm|B:=h.bar;have hl:=h.len;have hk:ps.9 < ls.9:=()
 have hz:=h.int hW h0 ht ht2 hne;have w1:=JZ h.wide hk ht2;have k1:ps.9 < (qL ls ps.9 t).9:=by rw[xh];exact hk
 have B1:=(B.swap ht ()).congr (p2:=λj=>ps.getD j 0) (l2:=gD (qL ls ps.9 t)) (λ_ _=>rfl) (λi _ c=>wL hk ht2 i c);have E1:=(h.el.swap ht ()).congr (p2:=λj=>ps.getD j 0) (l2:=gD (qL ls ps.9 t)) (λ_ _=>rfl) (λi _ c=>wL hk ht2 i c)
 have h1:gD (qL ls ps.9 t) ps.9 P≠0:=by
  rw[wL hk ht2];unfold xk;rw[if_pos rfl];exact hne
 have B2:=B1.step (c0:=P) () h1
 have fc:∀i,i < ls0.9->∀c,gD (Hs (qL ls ps.9 t) ps.9 P d) i c=if i=ps.9 then gD (qL ls ps.9 t) ps.9 c else (gD (qL ls ps.9 t) ps.9 P*gD (qL ls ps.9 t) i c - gD (qL ls ps.9 t) i P*gD (qL ls ps.9 t) ps.9 c) / (d:Rat):=λi hi c=>by
  by_cases e:i=ps.9
  ·rw[if_pos e];unfold gD Hs;rw[uv (by rw[af];exact k1),if_pos e]
  ·have:=Oe w1 k1 h.d0 (i:=i) (by rw[xh];lia) (hz i () e) c;rw[this]
 have ed:(((((Hs (qL ls ps.9 t) ps.9 P d).getD ps.9 []).getD P 0:Int)):Rat)=gD (qL ls ps.9 t) ps.9 P:=by
  have:=fc ps.9 () P;rw[if_pos rfl] at this;exact this
 have lp:(ps++[P]).9=ps.9+1:=by rw[ar];rfl
 have hp:∀j,j < ps.9+1->(ps++[P]).getD j 0=if j=ps.9 then P else ps.getD j 0:=λj hj=>getD_snoc hj
 refine #[by rw[OB,xh];exact hl,KE w1 k1,#[λi=>pm (xk ps.9 t i),?_],?_]
 ·rw[ed,lp];exact B2.congr hp fc
 ·rw[ed,lp];refine p9.congr (E1.step (d':=gD (qL ls ps.9 t) ps.9 P) (l':=λi c=>if i=ps.9 then gD (qL ls ps.9 t) ps.9 c else (gD (qL ls ps.9 t) ps.9 P*gD (qL ls ps.9 t) i c - gD (qL ls ps.9 t) i P*gD (qL ls ps.9 t) ps.9 c) / (d:Rat)) () h1 B2.unit λi hi=>?_) hp fc;have d0:=h.el.d0;by_cases e:i=ps.9
  ·refine #[1,0,(),λ_=>rfl,λc=>?_];rw[if_pos e,e];grind
  ·refine #[gD (qL ls ps.9 t) ps.9 P / (d:Rat),-(gD (qL ls ps.9 t) i P) / (d:Rat),?_,λz=>absurd z e,λc=>?_]
   ·intro z;apply h1;grind
   ·rw[if_neg e];grind
theorem C5.sz (h:C5 ls0 n P ls ps d) (hW:1<=W) (h0:∀i,i < ls0.9->∀c,Fr 1 W (gD ls0 i c)) (hP:P<=n) (hr:min ls0.9 n<=r) (r15:r<=15):(d.natAbs<=(16*W)^r)/\∀zs∈ls,∀z∈zs,z.natAbs<=(16*W)^r:=by
 obtain pm|B:=h.bar;have kP:=h.el.kP;have km:=B.km;have hl:=h.len;have mono:∀{s t:Nat},s<=t->(16*W)^s<=(16*W)^t:=λhs=>ai (bQ () hW) hs
 refine #[ag (xT (B.dfr (W:=W) (N:=16) () h0)) (mono ()),λzs hz z hz'=>?_];obtain i|hi|rfl:=bM hz;obtain c|hc|rfl:=bM hz';have hw:=h.wide _ (aM hi)
 have ez:gD ls i c=(((ls[i])[c]:Int):Rat):=by
  unfold gD;rw[aa (l:=ls),ae hi];show ((ls[i].getD c 0:Int):Rat)=_
  rw[aa,ae hc];rfl
 by_cases hk:i < ps.9
 ·have:Fr 1 ((16*W)^ps.9) (gD ls i c):=by
   have hd:=B.d0;rw[B.old hk]
   have:=Ay (W:=W) (N:=16) (rs:=kX pm ps.9) (vs:=Ik (λj r=>gD ls0 r (ps.getD j 0)) i ps.9++(λr=>gD ls0 r c) :: jm (λj r=>gD ls0 r (ps.getD j 0)) i) (by
    have:=congrArg List.length (cw_split (v:=λj r=>gD ls0 r (ps.getD j 0)) hk);rw[ar,bx,cw_len] at this;rw[ar,bx]
    lia) (by
    intro v hv r hr
    have hr':∀c,Fr 1 W (gD ls0 r c):=λc=>by
     obtain t|ht|rfl:=nE hr;exact h0 _ (B.rng t ()) c
    rcases ay.mp hv with hv | hv
    ·obtain t|_|rfl:=CO hv;exact hr' _
    ·rcases aI.mp hv with rfl | hv
     ·exact hr' _
     ·obtain t|_|rfl:=cw_in hv;exact hr' _)
   rwa [rk] at this
  rw[ez] at this;exact ag (xT this) (mono ())
 ·by_cases hn:ps.9 < n
  ·have:=B.fr (W:=W) (N:=16) () hW h0 (i:=i) (c:=c) ();rw[ez] at this;exact ag (xT this) (mono ())
  ·have:=h.el.zero i () () c ();rw[ez] at this;rw[qE this];exact br _
def Tp (M W:Nat) (q:Rat):Prop:=∃z:Int,q*(M:Rat)=(z:Rat)/\z.natAbs<=W
theorem Tp.of {M V W:Nat} (h:Fr M V q) (hW:V*M<=W):Tp M W q:=by obtain z|a|b:=h;exact #[z,a,ag b hW]
theorem Tp.mono (h:Tp M W q) (hW:W<=W'):Tp M W' q:=by obtain z|a|b:=h;exact #[z,a,ag b hW]
theorem Tp.fr (h:Tp M W q) (h0:0 < M):Fr M W q:=by obtain z|a|b:=h;exact #[z,a,ag b (cN _ h0)]
def C6 (rows:LR9) (n w:Nat):Prop:=∃M W:Nat,0 < M/\M<=2^4300/\1<=W/\W<=2^w/\(∀xs∈rows,∀x∈xs,Tp M W x)/\w<=4300/\min rows.9 n<=15/\min rows.9 n*(w+4)<=8900
def kW (xs:List Rat):List Int:=ia (xs.map nm) (jk (xs.map nm))
theorem sQ:(kW xs).9=xs.9:=by unfold kW ia;rw[af,af]
theorem AD {xs:List Rat}:0 < jk (xs.map nm):=As () λb hb=>by
 obtain n|hn|rfl:=aA.mp hb;obtain x|_|rfl:=aA.mp hn;exact jR x
theorem O3:(((kW xs).getD c 0:Int):Rat)=xs.getD c 0*((jk (xs.map nm):Int):Rat):=by
 unfold kW ia;rw[aa,aa,aD,aD];cases e:xs[c]? with
 | none=>show ((0:Int):Rat)=0*_;rw[jM];rfl
 | some x=>exact sP (uC (aA.mpr #[x,av e,rfl]))
section
variable {xs:List Rat}
theorem E4 (hi:i < rows.9):gD (rows.map kW) i c=((jk ((rows.getD i []).map nm):Int):Rat)*ck rows i c:=by
 unfold gD ck
 have e:(rows.map kW).getD i []=kW (rows.getD i []):=by
  rw[aa,aa,aD,ae hi];rfl
 rw[e,O3,cP]
theorem xU (hw:∀xs∈rows,xs.9=n) (hc:n<=c):ck rows i c=0:=by
 unfold ck;by_cases h:i < rows.9
 ·have:=hw _ (getD_in (e:=[]) h);rw[aa (l:=rows.getD i []),aQ ()];rfl
 ·rw[aa (l:=rows),aQ ()];rfl
theorem Di (i:Nat) (hi:i < rows.9):fI rows.9 (gD (rows.map kW)) (ck rows i):=by
 have h0:((jk ((rows.getD i []).map nm):Int):Rat)≠0:=λz=>by
  have:=AD (xs:=rows.getD i []);have:=qE z
  lia
 refine fI.congr (λc=>?_) (fI.lin (1 / ((jk ((rows.getD i []).map nm):Int):Rat)) 0 (fI.row (a:=gD (rows.map kW)) hi) (fI.row (a:=gD (rows.map kW)) hi));rw[E4 hi];grind
theorem Dg (i:Nat) (hi:i < rows.9):fI rows.9 (ck rows) (gD (rows.map kW) i):=by
 refine fI.congr (λc=>?_) (fI.lin ((jk ((rows.getD i []).map nm):Int):Rat) 0 (fI.row (a:=ck rows) hi) (fI.row (a:=ck rows) hi));rw[E4 hi];grind
theorem zo (h:Tp M W x):(nm x).2∣(M:Int):=by
 obtain z|e|b:=h
 exact Fr.den (V:=z.natAbs) (M:=M) #[z,e,by
  rcases iI M with h | h
  ·subst h;have:(z:Rat)=0:=by rw[<- e];simp
   rw[qE this];simp
  ·exact cN _ h]
theorem Dm (h:Tp M W x) (h0:0 < M) (hB:0 < B) (d1:(nm x).2∣B) (d2:B∣(M:Int)):∃t:Int,x*(B:Rat)=(t:Rat)/\t.natAbs<=W:=by
 obtain z|e|b:=h;obtain s|es:=d2;refine #[(nm x).1*(B / (nm x).2),(sP d1).symm,?_]
 have s0:0 < s:=by
  rcases Int.lt_trichotomy s 0 with h | h | h
  ·have:=vU hB h
   lia
  ·rw[h] at es;lia
  ·exact h
 have e2:(((nm x).1*(B / (nm x).2)*s:Int):Rat)=(z:Rat):=by
  rw[aY,sP d1,<- e,<- aW,es,aY];grind
 have e3:=eT.mp e2;have:((nm x).1*(B / (nm x).2)).natAbs*s.natAbs=z.natAbs:=by rw[<- dH,e3]
 have h1:1<=s.natAbs:=()
 have:=cN ((nm x).1*(B / (nm x).2)).natAbs h1
 lia
theorem KG (h0:0 < M) (h:∀x∈xs,Tp M W x):jk (xs.map nm)∣(M:Int):=yY () (Int.one_dvd _) λb hb=>by
 obtain n|hn|rfl:=aA.mp hb;obtain x|hx|rfl:=aA.mp hn;exact #[jR x,zo (h x hx)]
theorem C6.rowM (F:C6 rows n w) (hx:xs∈rows):∃M,JS M (xs.map nm):=by
 obtain M|W|h0|h1|hW|h2|h3|h4|_:=F;refine #[M,(),?_,λy hy=>?_]
 ·show ((M:Nat):Int).natAbs < 2^4400
  rw[cJ];exact bO h1 (eV () ())
 ·obtain x|hx'|rfl:=aA.mp hy;have t:=h3 xs hx x hx';refine #[jR x,zo t,?_];obtain s|e|b:=Dm t h0 (jR x) (Int.dvd_refl _) (zo t);have e2:(((nm x).1:Int):Rat)=(s:Rat):=by rw[<- e];exact rJ x
  rw[eT.mp e2];exact bO (ag b h2) (eV () ())
theorem C6.ent (F:C6 rows n w):∃W:Nat,1<=W/\W<=2^w/\∀i,i < (rows.map kW).9->∀c,Fr 1 W (gD (rows.map kW) i c):=by
 obtain M|W|h0|h1|hW|h2|h3|h4|_:=F;refine #[W,hW,h2,λi hi c=>?_];rw[af] at hi;have hx:=getD_in (e:=[]) hi;rw[E4 hi];unfold ck;generalize rows.getD i []=xs at hx ⊢;by_cases hc:c < xs.9
 ·have t:=h3 xs hx _ (getD_in (e:=0) hc);obtain s|e|b:=Dm t h0 (AD (xs:=xs)) (uC (aA.mpr #[_,getD_in (e:=0) hc,rfl])) (KG h0 (h3 xs hx));rw[cP,e];exact Fr.int b
 ·rw[aa,aQ ()];show Fr 1 W (_*0)
  rw[fE];exact Fr.zero
end
def bI (rows:LR9) (n:Nat) (R:LR9) (ps:List Nat):Prop:=R.9=ps.9/\(∀xs∈R,xs.9=n)/\EU rows.9 n (ck rows) ps.9 (λj=>ps.getD j 0) (ck R)
structure V7 (rows:LR9) (n w:Nat) (R:LR9) (ps:List Nat) (d:Int) (ls:List (List Int)):Prop where
 rr:bI rows n R ps
 d0:d≠0
 len:ls.9=ps.9
 wide:∀zs∈ls,zs.9=n
 val:∀i c,gD ls i c=(d:Rat)*ck R i c
 dsz:d.natAbs<=2^(min rows.9 n*(w+4))
 zsz:∀zs∈ls,∀z∈zs,z.natAbs<=2^(min rows.9 n*(w+4))
 tp:∀xs∈R,∀x∈xs,Tp d.natAbs (2^(min rows.9 n*(w+4))) x
 km:ps.9<=rows.9
theorem EU.congrR {a R R2:Nat->Nat->Rat} (h:EU m n a k p R) (hr:∀i,i < k->∀c,R2 i c=R i c):EU m n a k p R2 :=
 #[h.inc,h.low,λi hi j hj=>by rw[hr i hi];exact h.unit i hi j hj,λi hi c hc=>by rw[hr i hi];exact h.lead i hi c hc,λi hi=>(h.span i hi).rows hr,λi hi=>(h.back i hi).congr λc=>(hr i hi c).symm]
theorem EU.other (h:EU m n a k p R) (s1:∀i,i < m->fI m' a' (a i)) (s2:∀i,i < m'->fI m a (a' i)):EU m' n a' k p R :=
 #[h.inc,h.low,h.unit,h.lead,λi hi=>fI.trans h.span (s2 i hi),λi hi=>fI.trans s1 (h.back i hi)]
theorem IM (h:W<=2^w):(16*W)^r<=2^(r*(w+4)):=by
 calc (16*W)^r<=(2^(w+4))^r:=jx (by rw[aV];lia) _
  _=2^(r*(w+4)):=by rw[<- sI,cv]
theorem C5.done (h:C5 (rows.map kW) n n ls ps d) (hw:∀xs∈rows,xs.9=n) (F:C6 rows n w) :
  ∃R,V7 rows n w R ps d (ls.take ps.9):=by
 obtain W|hW|W2|ent:=F.ent;obtain _|_|_|_|_|_|_|_|r15|_:=F;have hl:=h.len;have d0:=h.d0;have d0':(d:Rat)≠0:=λz=>d0 (qE z)
 have km:=h.el.km;have hm:(rows.map kW).9=rows.9:=af ..;obtain s1|s2:=h.sz (r:=min rows.9 n) hW ent (ak _) (by rw[hm];exact ak _) r15;have s2':∀zs∈ls,∀z∈zs,z.natAbs<=2^(min rows.9 n*(w+4)):=λzs hz z hz'=>ag (s2 zs hz z hz') (IM W2)
 have er:∀i c,ck ((ls.take ps.9).map λzs=>zs.map λ(z:Int)=>(z:Rat) / (d:Rat)) i c=gD (ls.take ps.9) i c / (d:Rat):=λi c=>by
  unfold ck gD;rw[aa (l:=List.map _ _),aD,aa (l:=List.take _ _)];cases e:(ls.take ps.9)[i]? with
  | none=>show (0:Rat)=((0:Int):Rat) / _;grind
  | some zs =>
   show (zs.map λ(z:Int)=>(z:Rat) / (d:Rat)).getD c 0=((zs.getD c 0:Int):Rat) / (d:Rat)
   rw[aa,aa,aD];cases e2:zs[c]? with
   | none=>show (0:Rat)=((0:Int):Rat) / _;grind
   | some z=>rfl
 have et:∀i,i < ps.9->∀c,gD (ls.take ps.9) i c=gD ls i c:=λi hi c=>by
  unfold gD;rw[aa (l:=List.take _ _),xf hi,<- aa]
 have RR:=(h.el.done λi hi c hc=>xV (n:=n) (λzs hz=>by
  obtain xs|hx|rfl:=aA.mp hz;rw[sQ];exact hw xs hx) hc).congrR (R2:=ck ((ls.take ps.9).map λzs=>zs.map λ(z:Int)=>(z:Rat) / (d:Rat))) λi hi c=>by rw[er,et i hi]
 rw[hm] at RR;refine #[(ls.take ps.9).map λzs=>zs.map λ(z:Int)=>(z:Rat) / (d:Rat),#[by rw[af,bY];lia,λxs hx=>?_,RR.other Dg Di],d0,by rw[bY];lia,λzs hz=>h.wide zs (cH hz),λi c=>?_,ag s1 (IM W2),λzs hz=>s2' zs (cH hz),λxs hx x hx'=>?_,()]
 ·obtain zs|hz|rfl:=aA.mp hx;rw[af];exact h.wide zs (cH hz)
 ·rw[er];grind
 ·obtain zs|hz|rfl:=aA.mp hx;obtain z|hz'|rfl:=aA.mp hx';have b:=s2' zs (cH hz) z hz';rcases Ij d with e | e
  ·refine #[z,?_,b];have:((d.natAbs:Nat):Rat)=(d:Rat):=by rw[<- aW,<- e]
   rw[this];grind
  ·refine #[-z,?_,by rw[lh];exact b];have:((d.natAbs:Nat):Rat)=-(d:Rat):=by rw[<- aW,<- dE];congr 1;lia
   rw[this,dE];grind
theorem Oc (hl:R.9=R'.9) (w1:∀xs∈R,xs.9=n) (w2:∀xs∈R',xs.9=n) (h:∀i,i < R.9->∀c,ck R i c=ck R' i c):R=R':=by
 apply eG hl;intro i h1 h2;apply eG (by rw[w1 _ (aM h1),w2 _ (aM h2)]);intro c h3 h4;have:=h i h1 c;unfold ck at this;rw[aa (l:=R),aa (l:=R'),ae h1,ae h2] at this;have this:(R[i]).getD c 0=(R'[i]).getD c 0:=this;rw[aa,aa,ae h3,ae h4] at this;exact this
theorem bI.uniq (h:bI rows n R ps) (h':bI rows' n R' ps') (s1:∀i,i < rows.9->fI rows'.9 (ck rows') (ck rows i)) (s2:∀i,i < rows'.9->fI rows.9 (ck rows) (ck rows' i)):R=R'/\ps=ps':=by
 obtain l1|w1|r1:=h;obtain l2|w2|r2:=h';obtain ek|ep|eR:=r1.uniq r2 s1 s2;refine #[Oc () w1 w2 λi hi c=>eR i () c,?_];apply eG ek;intro j h1 h2;have:=ep j h1;rw[aa,aa,ae h1,ae h2] at this;exact this
theorem bI.same (h:bI rows n R ps) (h':bI rows n R' ps'):R=R'/\ps=ps':=h.uniq h' (λ_ hi=>fI.row hi) (λ_ hi=>fI.row hi)
open PySem PySem.Spec PyProof.Rows
def KL (l:Addr) (H:Hp) (zs:List Int) (v:V):Prop:=∃q,v=V.ref q/\q≠l/\H q=some (.lst (zs.map V.int))
def uG (l:Addr) (H:Hp) (p:Addr) (ls:List (List Int)):Prop:=p≠l/\∃xs,H p=some (.lst xs)/\Paired (KL l H) ls xs
theorem KL.same (h:KL l H zs v) (e:aH H H'):KL l H' zs v:=by obtain q|a|n|b:=h;exact #[q,a,n,e _ _ b]
theorem KL.upd {l:Addr} {H:Hp} {zs:List Int} {v:V} {o:HO} (h:KL l H zs v):KL l (upd H l o) zs v:=by obtain q|a|n|b:=h;exact #[q,a,n,by rw[bo n];exact b]
theorem uG.upd {l:Addr} {H:Hp} {p:Addr} {ls:List (List Int)} {o:HO} (h:uG l H p ls):uG l (upd H l o) p ls:=by obtain n|xs|a|b:=h;exact #[n,xs,by rw[bo n];exact a,Paired.imp' (λ_ _ z=>z.upd) b]
theorem ne_old {H:Hp} (h:H l≠none) (n:H r=none):r≠l:=λz=>h (by rw[<- z];exact n)
theorem jQ {α β:Type} {F:α->β->Prop}:∀{l1:List α} {l2:List β} (_:Paired F l1 l2) (i:Nat) {x:α} {y:β},F x y->Paired F (l1.set i x) (l2.set i y)
 | _,_,.nil,_,_,_,_=>.nil
 | _,_,.cons _ r,0,_,_,h=>.cons h r
 | _,_,.cons a r,i+1,_,_,h=>.cons a (jQ r i h)
theorem Mv (h:ls[i]?=some zs):gD ls i c=((zs.getD c 0:Int):Rat):=by
 unfold gD;rw[aa (l:=ls),h];rfl
theorem VM:((z:Int):Rat)≠0↔z≠0:=#[λh e=>h (by rw[e];rfl),λh e=>h (qE e)]
theorem zj {zs:List Int} (h:c < zs.9):Il (zs.map V.int) (c:Int)=some (V.int (zs.getD c 0)):=dq (by rw[aD,aa,ae h];rfl)
inductive Cq (vs:List V) (H:Hp) (Q:VK) (E9:XK):Prop
 | mk (l p:Addr) (ls:List (List Int)) (b c:Nat):vs=[.ref p,.int b,.int c]->uG l H p ls->ls.9<=1000->b<=1000->(∀zs∈ls,c < zs.9)->(∀t:Nat,b<=t->t < ls.9->gD ls t c≠0->Q (.int t) H)->((∀t,b<=t->t < ls.9->gD ls t c=0)->Q .non H)->Cq  vs H Q E9
inductive ym (vs:List V) (H:Hp) (Q:VK) (E9:XK):Prop
 | mk (l p:Addr) (ls:List (List Int)) (t k:Nat):vs=[.ref p,.int t,.int k]->H l≠none->uG l H p ls->ls.9<=1000->t < ls.9->k < ls.9->(∀r H',H r=none->aH H H'->uG l H' r (qL ls k t)->Q (.ref r) H')->ym  vs H Q E9
inductive Cr (vs:List V) (H:Hp) (Q:VK) (E9:XK):Prop
 | mk (l p:Addr) (ls:List (List Int)) (k c n:Nat) (b:Int):vs=[.ref p,.int k,.int c,.int b]->H l≠none->uG l H p ls->ls.9<=1000->k < ls.9->(∀zs∈ls,zs.9=n)->n<=1000->c < n->b≠0->Sz 8999 b->(∀zs∈ls,∀z∈zs,Sz 8999 z)->(∀r H',H r=none->aH H H'->uG l H' r (Hs ls k c b)->Q (.ref r) H')->Cr  vs H Q E9
theorem Nq (K:FG9) {X:Cx} {a b:Expr} {ta:TA} {p pos tpos:Pos} {elts:List Expr} {kk:Nat} (hg:Gl X "zip") (hm:X.mg "zip"=none) (ha:PA X [a,b] ta) (hK:X.K=K:=by rfl) (hs:starEach [a,b] X.env=[(false,eval a X.env),(false,eval b X.env)]:=by rfl) (hs2:starEach [b] X.env=[(false,eval b X.env)]:=by rfl) :
  PI X (.Tuple elts kk tpos) (.Call (.Name "zip" p) [a,b] [] pos) (Tj K ta):=by subst hK;exact rz hg hm ha hs hs2
def d5 (ps:List Nat):List V:=ps.map λ(j:Nat)=>V.int (j:Int)
inductive BY (K:FG9) (vs:List V) (H:Hp) (Q:VK) (E9:XK):Prop
 | mk (p:Addr) (n w:Nat) (H0:Hp) (rows:LR9):vs=[.ref p,.int n]->bp K H0 H p rows->rows.9<=100->n<=100->(∀xs∈rows,xs.9=n)->C6 rows n w->(∀t lp qp R ps d ls H',H' t=some (.tup [.ref lp,.ref qp])->H' qp=some (.lst (d5 ps))->uG qp H' lp ls->aH H H'->V7 rows n w R ps d ls->Q (.ref t) H')->BY K vs H Q E9
inductive yk (K:FG9) (vs:List V) (H:Hp) (Q:VK) (E9:XK):Prop
 | mk (p:Addr) (n w:Nat) (H0:Hp) (rows:LR9):vs=[.ref p,.int n]->bp K H0 H p rows->rows.9<=100->n<=100->(∀xs∈rows,xs.9=n)->C6 rows n w->(∀r R ps M H',H r=none->aH H H'->bp K H H' r R->bI rows n R ps->ps.9<=rows.9->0 < M->M<=2^(min rows.9 n*(w+4))->(∀xs∈R,∀x∈xs,Tp M (2^(min rows.9 n*(w+4))) x)->Q (.ref r) H')->yk K vs H Q E9
def OD (rows:LR9) (i:Nat):Rat:=((jk ((rows.getD i []).map nm):Int):Rat)
theorem sS (h:Tp M W x) (h0:0 < M) (h1:M<=2^3995) (h2:W<=2^3995):mU x:=by
 refine #[?_,?_]
 ·obtain s|e|b:=Dm h h0 (jR x) (Int.dvd_refl _) (zo h);have e2:(((nm x).1:Int):Rat)=(s:Rat):=by rw[<- e];exact rJ x
  rw[eT.mp e2];exact bO (ag b h2) (eV () ())
 ·have:=nG h0 (yC.mp (zo h));show ((x.den:Nat):Int).natAbs < _
  rw[cJ];exact bO (ag this h1) (eV () ())
theorem Tp.mul (h:Tp M W x) (h':Tp M' W' y):Tp (M*M') (W*W') (x*y):=by
 obtain z|e|b:=h;obtain z'|e'|b':=h';refine #[z*z',?_,by rw[dH];exact aL b b'];rw[aY,<- e,<- e',fP];grind
inductive zE (K:FG9) (vs:List V) (H:Hp) (Q:VK) (E9:XK):Prop
 | mk (u v:V) (x y:Rat):vs=[u,v]->bW K H x u->bW K H y v->mU x->mU y->y≠0->(∀r H',aH H H'->bW K H' (x / y) (.ref r)->Q (.ref r) H')->zE K vs H Q E9
theorem FR {K:FG9} (h:zE K vs H Q E):O7 K vs H Q E:=by
 obtain u|v|x|y|rfl|⟨p,rfl,hp⟩|⟨q,rfl,hq⟩|⟨s1,s2⟩|⟨s3,s4⟩|y0|k:=h;have n0:(nm y).1≠0:=λz=>y0 (Rat.num_eq_zero.mp z)
 have px:=jR x;have py:=jR y;have e1:=rK x;have e2:=rK y;have dx:(((nm x).2:Int):Rat)≠0:=λz=>by have:=qE z;lia
 have dy:(((nm y).2:Int):Rat)≠0:=λz=>by have:=qE z;lia
 refine #[p,q,_,_,_,_,rfl,hp,hq,px,py,n0,s1,s2,s3,s4,λr H' s g=>k r H' s (bW.mk g ?_)];by_cases hc:(nm y).1 < 0
 ·rw[if_pos hc,if_pos hc];refine oi (by have:=vU px hc;lia) ?_;rw[AJ,AJ,aY,aY,e1,e2];show x / y*(((0:Int):Rat) - _)=((0:Int):Rat) - _
  grind
 ·rw[if_neg hc,if_neg hc];refine oi (lC px ()) ?_;rw[aY,aY,e1,e2];grind
inductive Cm (K:FG9) (vs:List V) (H:Hp) (Q:VK) (E9:XK):Prop
 | mk (p q:Addr) (xs ys:List Rat):vs=[.ref p,.ref q]->cS K H p xs->cS K H q ys->ys.9=xs.9->xs.9<=1000->(∀x∈xs,mU x)->(∀y∈ys,mU y)->(∀r H',H r=none->aH H H'->cS K H' r (List.zipWith (λx y=>x - y) xs ys)->Q (.ref r) H')->Cm K vs H Q E9
inductive Fq (K:FG9) (vs:List V) (H:Hp) (Q:VK) (E9:XK):Prop
 | mk (p:Addr) (n:Nat) (H0:Hp) (R:LR9) (ps:List Nat):vs=[.ref p]->bp K H0 H p R->R.9<=100->n<=100->(∃rows,bI rows n R ps)->(∀r H',H r=none->aH H H'->H' r=some (.lst (d5 ps))->Q (.ref r) H')->Fq K vs H Q E9
theorem xS {K:FG9} {rows:LR9} (pr:Paired (cW K H0 H) rows vs) (s:aH H H') (n:H q=none) (g:H' q=some (.lst vs)):bp K H0 H' q rows :=
 #[vs,g,Paired.imp' (λ_ _ z=>z.same s) pr,λz=>by
  obtain _|_|q'|e|_|_|g'|_:=cZ pr z;cases e;rw[n] at g';cases g']
def RY (K:FG9) (te:TE) (ts:TO):TE:=λσ H Q=>te σ H λx H1=>ts σ H1 λo H2=>o=some (-1)/\∃a xs,x=.ref a/\bE K H2 a xs/\∀p,H2 p=none->Q (.ref p) (upd H2 p (.lst xs.reverse))
theorem xK {e st:Expr} (he:PE X e te) (hst:PO X (some st) ts):PE X (.Subscript e (.Slice none none (some st) p2) pos) (RY X.K te ts):=by
 intro pins s σ H Q I h;refine Subscript_ (iG (he pins s σ H _ I h) λv s1 #[x,H1,I1,r1,q1]=>?_);refine wpAny_Slice ?_;rw[evalPart_none];refine wpAny_pure (wpAny_pure (iG (hst pins s1 σ H1 _ I1 q1) λvs s3 #[o,H3,I3,ps,eo,a,xs,ex,hx,q]=>?_));subst eo ex;cases r1;have I4:Inv X pins σ H3 { s3 with heap:=s3.heap.push { cls:=.type "slice",data:=.fields [.none,.none,vs].toArray } }:=I3.kept (t':=s3.toks) λb ob q=>Heap.get?_push_of_some _ q
 obtain its|r|ht|hz:=I4.list hx;have hlen:=r.9;show wpAny (model X.prog X.w) X.A (subscriptTail e (.Slice none none (some st) p2) (.ref a) (.ref s3.6)) (EP X pins σ Q) X.xe { s3 with heap:=s3.heap.push { cls:=.type "slice",data:=.fields [.none,.none,vs].toArray } }
 refine tail_any (ops:=[.ref a,.ref s3.6]) ht.isList.typeIs slot_list_getitem.lookup ?_ (by with_unfolding_all rfl);refine wpAny_getItem_list_slice ht.isList (Heap.IsSliceOf.new ..) .none .none ps (by simp) ?_ (by rw[aN];lia);rw[PySem.W.krv_pick];refine #[.ref _,_,I4.laid (t':=s3.toks) (o:=.lst xs.reverse) (λb ob q=>Heap.get?_push_of_some _ q) (ak _) ?_,rfl,q _ (I4.hok.fresh (ak _))];exact #[by rw[dS];exact hz,_,0,r.reverse,Heap.get?_push_size _ rfl]
theorem bI.le (h:bI rows n R ps):ps.9<=n:=by
 obtain _|_|rr:=h;rcases cB n ps.9 with z | z
 ·have inc:∀j,j < ps.9->j<=ps.getD j 0:=by
   intro j
   induction j with
   | zero=>intro _;exact br _
   | succ j ih =>
    intro hj;have:=ih ();have:=rr.inc j (j+1) () hj
    lia
  have h1:=inc (ps.9 - 1) ();have h2:=rr.low (ps.9 - 1) ()
  lia
 ·exact z
theorem Tp.zero:Tp M W 0:=#[0,by simp,by simp]
theorem Tp.add (h:Tp M W x) (h':Tp M W' y):Tp M (W+W') (x+y):=by
 obtain z|e|b:=h;obtain z'|e'|b':=h';refine #[z+z',?_,ag (Int.natAbs_add_le _ _) (Nat.add_le_add b b')];rw[AK,<- e,<- e'];grind
theorem Tp.sum {M W:Nat} {f:Nat->Rat}:∀{k:Nat},(∀j,j < k->Tp M W (f j))->Tp M (k*W) (bD k f)
 | 0,_=>Tp.zero
 | k+1,h=>by
  have:=(Tp.sum (k:=k) λj hj=>h j ()).add (h k ());exact this.mono (by rw[eD];exact ak _)
theorem kb {xs:List Rat} (h:∀x∈xs,Tp M W x) (c:Nat):Tp M W (xs.getD c 0):=by
 by_cases hc:c < xs.9
 ·exact h _ (getD_in hc)
 ·rw[aa,aQ ()];exact Tp.zero
theorem Mz (h:∀xs∈R,∀x∈xs,Tp M W x) (i c:Nat):Tp M W (ck R i c):=by
 unfold ck;by_cases hi:i < R.9
 ·exact kb (h _ (getD_in hi)) c
 ·rw[aa (l:=R),aQ ()];exact Tp.zero
theorem Sa (hM:0 < M) (h1:M<=2^4300) (hw:w<=4300) (tp:∀xs∈rows,∀x∈xs,Tp M (2^w) x) (hr:min rows.9 n<=m) (h15:m<=15) (h89:m*(w+4)<=8900):C6 rows n w :=
 #[M,2^w,hM,h1,bJ,ak _,tp,hw,(),ag (ax _ hr) h89]
theorem Ad {α β:Type} {F:α->β->Prop}:∀{l1:List α} {l2:List β},Paired F l1 l2->Paired F l1.reverse l2.reverse
 | _,_,.nil=>.nil
 | _,_,.cons a r=>by rw[gU,gU];exact bV (Ad r) (.cons a .nil)
theorem CV {K:FG9} {g:TG} (Pv:Nat->List V->Hp->Prop) (hz:xs.9<=sizeLine) (h0:Pv 0 [] H) (hl:∀i ys H,i<=xs.9->Pv i ys H->bE K H l xs)
  (hs:∀i x ys H p,xs[i]?=some x->ys.9<=i->Pv i ys H->H p=none->sR σ₀ g tf te (.ref p) (upd H p (.tup [.int i,x])) (λy H'=>Pv (i+1) (ys++[y]) H') (λH'=>Pv (i+1) ys H'))
  (hd:∀ys H,ys.9<=xs.9->Pv xs.9 ys H->∀p,H p=none->Q (.ref p) (upd H p (.lst ys))):uK (TY K l) σ₀ g tf te Q H:=by
 refine #[λi m ys H=>m=xs.9 - i/\i<=xs.9/\ys.9<=i/\Pv i ys H,#[xs.9,by simp,br _,br _,h0],?_];rintro i m ys H ⟨rfl,hi,hy,p⟩;have q1:=hl i ys H hi p;by_cases hlt:i < xs.9
 ·refine .inr #[#[xs,xs[i],q1,by simp [hlt]],(),λy H'=>Pv (i+1) (ys++[y]) H',λH'=>Pv (i+1) ys H',λy H' p'=>#[xs.9 - (i+1),(),rfl,hlt,by rw[ar,a9];lia,p'],λH' p'=>#[xs.9 - (i+1),(),rfl,hlt,(),p'],λx H' y=>?_];obtain r|x'|rfl|hr|rfl|e1:=y;exact hs i x' ys _ r (e1 xs q1) hy p hr
 ·have e:i=xs.9:=()
  subst e;exact .inl #[#[xs,q1,ak _],(),hd ys H hy p]
theorem C0 (hc:X.calm=true):qG X (.builtin "min") (λxs H Q=>∃(p:Addr) (ns:List Int),xs=[.ref p]/\bE X.K H p (ns.map V.int)/\0 < ns.9/\∀M,M∈ns->(∀a,a∈ns->M<=a)->Q (.int M) H):=by
 intro pins s σ H xs us Q I r h;obtain p|ns|rfl|hp|hne|q:=h;obtain u|rfl|ru:=vals1 r;cases ru;obtain its|r2|pl|_:=I.list hp;have hi:=intsAre_of r2;have hl:=pl.isList;obtain xs|e:=hi.allInts.items
 have hns:ns=xs.toList.map (·.1):=by
  rw[<- hi.numsOf,<- nums_intItems,<- e]
 have hsz:0 < xs.7:=by
  have h3:=hne;rw[hns,af,Array.length_toList] at h3;exact h3
 rw[e] at hl;refine min_intList (I.ok.hd hc) hl hsz λv h' tk hv hk=>?_
 obtain t|rfl:=intItems_at hv;obtain h1|h2:=argBest_lt (numAt xs) (xs.7 - 1);refine #[.int _,H,I.kept hk,#[_,rfl],q _ ?_ λa ha=>?_]
 ·rw[hns,numAt_eq];exact getD_in (by rw[af,Array.length_toList];lia)
 ·rw[hns] at ha;obtain j|hj|rfl:=mem_getD ha;rw[af,Array.length_toList] at hj;rw[<- numAt_eq];exact h2 j ()
theorem A0 (K:FG9) (hK:X.K=K):xc X (compareOp .NotIn) (VS K true):=by subst hK;exact DR
theorem Gi {j:Nat}:VC (.int (j:Int)) (d5 ps)=decide (j∈ps):=by
 unfold VC d5;rw[List.any_map,gW,List.any_eq_true,decide_eq_true_iff];constructor
 ·rintro ⟨x,hx,e⟩;have e:((x:Int) == (j:Int))=true:=e;have:(x:Int)=j:=by simpa using e
  have:x=j:=()
  rw[<- this];exact hx
 ·intro h;exact #[j,h,by show ((j:Int) == (j:Int))=true;simp]
theorem CC:(d5 ps).all wM=true:=by
 unfold d5;rw[List.all_map];exact jA.mpr λ_ _=>rfl
theorem wD:(d5 ps).9=ps.9:=af ..
def CJ (ps:List Nat):List Int:=ps.map λ(j:Nat)=>(j:Int)
theorem CB:d5 ps=(CJ ps).map V.int:=by unfold d5 CJ;rw[il];rfl
theorem D6 {i:Nat} (h:(d5 ps)[i]?=some v):∃j,ps[i]?=some j/\v=V.int (j:Int):=by
 unfold d5 at h;rw[aD] at h;cases e:ps[i]? with
 | none=>rw[e] at h;cases h
 | some x=>rw[e] at h;exact #[x,rfl,(cg h).symm]
def Cy (xs:List Rat) (i:Nat):List Nat:=(List.range i).filter λc=>decide (xs.getD c 0≠0)
theorem yV:Cy xs (i+1)=if xs.getD i 0≠0 then Cy xs i++[i] else Cy xs i:=by
 unfold Cy;rw[sN,List.filter_append];by_cases h:xs.getD i 0≠0
 ·rw[if_pos h,Vv (by simpa using h)];rfl
 ·rw[if_neg h,Vw (by simpa using h)];simp
def kN (ps:List Nat) (i:Nat):List Nat:=(List.range i).filter λc=>decide (c∉ps)
theorem Ax:kN ps (i+1)=if i∉ps then kN ps i++[i] else kN ps i:=by
 unfold kN;rw[sN,List.filter_append];by_cases h:i∉ps
 ·rw[if_pos h,Vv (by simpa using h)];rfl
 ·rw[if_neg h,Vw (by simpa using h)];simp
theorem Jr:(kN ps i).9<=i:=by
 unfold kN;exact ag (List.length_filter_le ..) (by rw[cz];exact ak _)
inductive Fp (K:FG9) (vs:List V) (H:Hp) (Q:VK) (E9:XK):Prop
 | mk (p:Addr) (xs:List Rat) (j:Nat):vs=[.ref p]->cS K H p xs->xs.9<=1000->j < xs.9->xs.getD j 0≠0->(∀c,c < j->xs.getD c 0=0)->(∀H',aH H H'->Q (.int (j:Int)) H')->Fp K vs H Q E9
inductive Fv (K:FG9) (vs:List V) (H:Hp) (Q:VK) (E9:XK):Prop
 | mk (p:Addr) (n:Nat) (H0:Hp) (R:LR9) (ps:List Nat):vs=[.ref p,.int n]->bp K H0 H p R->R.9<=100->n<=100->(∃rows,bI rows n R ps)->(∀r H',H r=none->aH H H'->H' r=some (.lst (d5 (kN ps n)))->Q (.ref r) H')->Fv K vs H Q E9
def Kl (R:LR9) (ps:List Nat) (n at_ j:Nat):List Rat:=(List.range n).map λc=>if c=at_ then 1 else bD j λi=>if ps.getD i 0=c then -(ck R i at_) else 0
def Kk (R:LR9) (ps:List Nat) (n at_:Nat):List Rat:=Kl R ps n at_ ps.9
def aU (R:LR9) (ps:List Nat) (n:Nat):LR9:=(kN ps n).map (Kk R ps n)
theorem pX:(Kl R ps n a j).9=n:=by unfold Kl;rw[af,cz]
theorem Rv (h:c < n):(Kl R ps n a j).getD c 0=if c=a then 1 else bD j λi=>if ps.getD i 0=c then -(ck R i a) else 0:=by
 unfold Kl;rw[aa,aD,eI h];rfl
theorem Qq:Kl R ps n a 0=RV n a:=by
 unfold Kl RV;refine ib λc _=>?_
 by_cases e:c=a
 ·subst e;simp
 ·rw[if_neg e];show (0:Rat)=_
  have:¬(c:Int)=(a:Int):=()
  simp [this]
theorem Qr (RR:bI rows n R ps) (hj:j < ps.9) (ha:a∉ps):(Kl R ps n a j).set (ps.getD j 0) (-(ck R j a))=Kl R ps n a (j+1):=by
 obtain _|_|rr:=RR;have low:=rr.low j hj;have pm:ps.getD j 0∈ps:=getD_in hj;apply eG (by rw[df,pX,pX]);intro c h1 h2;rw[pX] at h2;have e1:(Kl R ps n a j)[c]'(by rw[pX];exact h2)=if c=a then 1 else bD j λi=>if ps.getD i 0=c then -(ck R i a) else 0:=by simp only[Kl,iE,oy]
 have e2:(Kl R ps n a (j+1))[c]'(by rw[pX];exact h2)=if c=a then 1 else bD (j+1) λi=>if ps.getD i 0=c then -(ck R i a) else 0:=by simp only[Kl,iE,oy]
 rw[List.getElem_set,e2];have es:bD (j+1) (λi=>if ps.getD i 0=c then -(ck R i a) else 0)=bD j (λi=>if ps.getD i 0=c then -(ck R i a) else 0)+if ps.getD j 0=c then -(ck R j a) else 0:=rfl
 by_cases q:ps.getD j 0=c
 ·rw[if_pos q,if_neg (λz=>ha (by rw[<- z,<- q];exact pm)),es,if_pos q,dh λi hi=>?_,Rat.zero_add];rw[if_neg];intro z;have:=rr.inc i j hi hj
  lia
 ·rw[if_neg q,e1];by_cases z:c=a
  ·rw[if_pos z,if_pos z]
  ·rw[if_neg z,if_neg z,es,if_neg q,mJ]
theorem D5 (hc:c < n) (hp:c∉ps):(Kk R ps n a).getD c 0=if c=a then 1 else 0:=by
 unfold Kk;rw[Rv hc];by_cases e:c=a
 ·rw[if_pos e,if_pos e]
 ·rw[if_neg e,if_neg e,dh λi hi=>?_];rw[if_neg (λz=>hp (by rw[<- z];exact getD_in hi))]
theorem dR:∀{xs ys:List Rat},xs.9=ys.9->cA xs ys=bD xs.9 λc=>xs.getD c 0*ys.getD c 0:=by
 intro xs ys h
 have key:∀k,k<=xs.9->cA (xs.take k) (ys.take k)=bD k λc=>xs.getD c 0*ys.getD c 0:=by
  intro k
  induction k with
  | zero=>intro _;rfl
  | succ k ih =>
   intro hk;rw[CN () (),ih ()];rfl
 have:=key xs.9 (ak _);rwa [aF (ak _),aF ()] at this
theorem Jb (RR:bI rows n R ps) (ha:a < n) (hp:a∉ps) {i:Nat} (hr:rows[i]?=some row) (hw:row.9=n):cA row (Kk R ps n a)=0:=by
 obtain _|_|rr:=RR;have hi:=(aE.mp hr).1;have ef:∀c,ck rows i c=row.getD c 0:=λc=>by unfold ck;rw[aa (l:=rows),hr];rfl
 have co:=rr.coef (rr.span i hi) a;rw[ef] at co;rw[dR (by unfold Kk;rw[pX,hw]),hw]
 have e1:bD n (λc=>row.getD c 0*(Kk R ps n a).getD c 0)=bD n (λc=>(if c=a then row.getD a 0 else 0)+bD ps.9 λj=>if ps.getD j 0=c then row.getD (ps.getD j 0) 0*-(ck R j a) else 0):=by
  refine aP λc hc=>?_
  unfold Kk;rw[Rv hc];by_cases e:c=a
  ·rw[if_pos e,if_pos e,e,dh λj hj=>?_]
   ·grind
   ·rw[if_neg (λz=>hp (by rw[<- z];exact getD_in hj))]
  ·rw[if_neg e,if_neg e,<- cL,Rat.zero_add];refine aP λj _=>?_
   split
   ·rename_i q;rw[q]
   ·grind
 rw[e1,oA,fJ (i:=a) ha (λj _ ne=>if_neg ne),if_pos rfl,<- eU]
 have e2:bD ps.9 (λj=>bD n λc=>if ps.getD j 0=c then row.getD (ps.getD j 0) 0*-(ck R j a) else 0)=bD ps.9 λj=>-1*(ck rows i (ps.getD j 0)*ck R j a):=by
  refine aP λj hj=>?_
  rw[fJ (i:=ps.getD j 0) (rr.low j hj) λc _ ne=>if_neg λz=>ne z.symm,if_pos rfl,ef];grind
 rw[e2,cL,co];grind
theorem Rp (h0:0 < M) (hW:M<=W) (tp:∀xs∈R,∀x∈xs,Tp M W x) (RR:bI rows n R ps):∀x∈Kk R ps n a,Tp M W x:=λx hx=>by
 obtain _|_|rr:=RR;obtain c|hc|rfl:=aA.mp hx
 split
 ·exact #[M,by rw[OM,aW],by simpa using hW]
 ·by_cases hp:∃j,j < ps.9/\ps.getD j 0=c
  ·obtain j|hj|e:=hp;rw[fJ hj λi hi ne=>if_neg λz=>?_,if_pos e]
   ·obtain z|ez|b:=Mz tp j a;exact #[-z,by rw[dE,<- ez];grind,by rw[lh];exact b]
   ·rcases fF i j with q | q | q
    ·have:=rr.inc i j q hj;lia
    ·exact ne q
    ·have:=rr.inc j i q hi;lia
  ·rw[dh λj hj=>if_neg λz=>hp #[j,hj,z]];exact Tp.zero
theorem uV:c∈kN ps n↔c < n/\c∉ps:=by
 unfold kN;rw[j7,kZ,decide_eq_true_iff]
inductive Cg (K:FG9) (vs:List V) (H:Hp) (Q:VK) (E9:XK):Prop
 | mk (p:Addr) (n a:Nat) (H0:Hp) (R:LR9) (ps:List Nat):vs=[.ref p,.int n,.int a]->bp K H0 H p R->R.9<=100->n<=100->(∃rows,bI rows n R ps)->a < n->a∉ps->(∀xs∈R,∀x∈xs,mU x)->(∀r H',H r=none->aH H H'->cS K H' r (Kk R ps n a)->Q (.ref r) H')->Cg K vs H Q E9
theorem MH:mU 0:=sS (M:=1) (W:=1) Tp.zero () bJ bJ
theorem qC (h:xs∈aU R ps n):∃a,a < n/\a∉ps/\xs=Kk R ps n a:=by
 obtain a|ha|rfl:=aA.mp h;obtain h1|h2:=uV.mp ha;exact #[a,h1,h2,rfl]
theorem Ek {q:Rat} (h:q.den<=9):q.den∣2520:=by
 have:=q.den_pos;generalize q.den=d at h this;have:d=1\/d=2\/d=3\/d=4\/d=5\/d=6\/d=7\/d=8\/d=9:=()
 rcases this with rfl | rfl | rfl | rfl | rfl | rfl | rfl | rfl | rfl <;> decide
theorem Ej (h:Dr 9 q) (hM:2520∣M):Fr M 9 q:=(Fr.own q h.1).dvd (nH (Ek h.2) hM)
def dD (rows:LR9) (due:List Rat):LR9:=List.zipWith (λrow d=>row++[d]) rows due
def vZ (R:LR9) (ps:List Nat) (n j:Nat):List Rat:=(List.range n).map λc=>bD j λi=>if ps.getD i 0=c then ck R i n else 0
def ip (R:LR9) (ps:List Nat) (n:Nat):List Rat:=vZ R ps n ps.9
theorem pZ (h:due.9=rows.9):(dD rows due).9=rows.9:=by unfold dD;rw[cV];lia
theorem wK (h:∀xs∈rows,xs.9=n):∀xs∈dD rows due,xs.9=n+1:=λxs hx=>by
 unfold dD at hx;obtain i|hi|rfl:=bM hx;rw[k9,ar,h _ (aM _)];rfl
theorem RB {i:Nat} (h1:rows[i]?=some row) (h2:due[i]?=some d):(dD rows due)[i]?=some (row++[d]):=by
 unfold dD;rw[cR,h1,h2]
theorem yw (hd:due.9=rows.9) (hw:∀xs∈rows,xs.9=n) (hi:i < rows.9):(∀c,c < n->ck (dD rows due) i c=ck rows i c)/\ck (dD rows due) i n=due.getD i 0:=by
 have e1:=ae hi;have e2:=ae (show i < due.9 by lia);have ej:=RB e1 e2;have wi:=hw _ (aM hi);refine #[λc hc=>?_,?_]
 ·unfold ck;rw[aa (l:=dD rows due),ej,aa (l:=rows),e1];show (rows[i]++[due[i]]).getD c 0=(rows[i]).getD c 0
  rw[aa,aa,bG ()]
 ·unfold ck;rw[aa (l:=dD rows due),ej,aa (l:=due),e2];show (rows[i]++[due[i]]).getD n 0=due[i]
  rw[aa,bc (),wi,gM];rfl
theorem lE:(vZ R ps n j).9=n:=by unfold vZ;rw[af,cz]
theorem MS (h:c < n):(vZ R ps n j).getD c 0=bD j λi=>if ps.getD i 0=c then ck R i n else 0:=by
 unfold vZ;rw[aa,aD,eI h];rfl
theorem O9:vZ R ps n 0=List.replicate n 0:=by
 unfold vZ;show (List.range n).map (λ_=>(0:Rat))=_
 rw[sO,cz]
theorem Pc (RR:bI J (n+1) R ps) (hj:j < ps.9):(vZ R ps n j).set (ps.getD j 0) (ck R j n)=vZ R ps n (j+1):=by
 obtain _|_|rr:=RR;apply eG (by rw[df,lE,lE]);intro c h1 h2;rw[lE] at h2;have e1:(vZ R ps n j)[c]'(by rw[lE];exact h2)=bD j λi=>if ps.getD i 0=c then ck R i n else 0:=by simp only[vZ,iE,oy]
 have e2:(vZ R ps n (j+1))[c]'(by rw[lE];exact h2)=bD j (λi=>if ps.getD i 0=c then ck R i n else 0)+if ps.getD j 0=c then ck R j n else 0:=by simp only[vZ,iE,oy];rfl
 rw[List.getElem_set,e2];by_cases q:ps.getD j 0=c
 ·rw[if_pos q,if_pos q,dh λi hi=>?_,Rat.zero_add];rw[if_neg];intro z;have:=rr.inc i j hi hj
  lia
 ·rw[if_neg q,if_neg q,e1,mJ]
theorem Pd (hp:c∉ps):(ip R ps n).getD c 0=0:=by
 by_cases hc:c < n
 ·unfold ip;rw[MS hc,dh λi hi=>?_];rw[if_neg (λz=>hp (by rw[<- z];exact getD_in hi))]
 ·rw[aa,aQ (by unfold ip;rw[lE];lia)];rfl
theorem Iy (hd:due.9=rows.9) (hw:∀xs∈rows,xs.9=n) (RR:bI (dD rows due) (n+1) R ps) (hn:n∉ps) (hr:rows[i]?=some row):cA row (ip R ps n)=due.getD i 0:=by
 obtain _|_|rr:=RR;have hi:=(aE.mp hr).1;have wr:=hw row (av hr);have ef:∀c,ck rows i c=row.getD c 0:=λc=>by unfold ck;rw[aa (l:=rows),hr];rfl
 obtain f1|f2:=yw hd hw hi
 have low:∀j,j < ps.9->ps.getD j 0 < n:=λj hj=>by
  have:=rr.low j hj;have:ps.getD j 0≠n:=λz=>hn (by rw[<- z];exact getD_in hj)
  lia
 have co:=rr.coef (rr.span i (by rw[pZ hd];exact hi)) n;rw[f2] at co;rw[co,dR (by unfold ip;rw[lE,wr]),wr]
 have e1:bD n (λc=>row.getD c 0*(ip R ps n).getD c 0)=bD n (λc=>bD ps.9 λj=>if ps.getD j 0=c then row.getD (ps.getD j 0) 0*ck R j n else 0):=by
  refine aP λc hc=>?_
  unfold ip;rw[MS hc,<- cL];refine aP λj _=>?_
  split
  ·rename_i q;rw[q]
  ·grind
 rw[e1,<- eU];refine aP λj hj=>?_
 rw[fJ (i:=ps.getD j 0) (low j hj) λc _ ne=>if_neg λz=>ne z.symm,if_pos rfl,f1 _ (low j hj),ef]
theorem FC (hd:due.9=rows.9) (hw:∀xs∈rows,xs.9=n) (RR:bI (dD rows due) (n+1) R ps) (hn:n∈ps):∃w:Nat->Rat,(∀c,c < n->bD rows.9 (λi=>w i*ck rows i c)=0)/\bD rows.9 (λi=>w i*due.getD i 0)=1:=by
 obtain _|_|rr:=RR;obtain j|hj|ej:=bM hn;have ejD:ps.getD j 0=n:=by rw[aa,ae hj];exact ej
 obtain w|hw':=rr.back j hj;rw[pZ hd] at hw';refine #[w,λc hc=>?_,?_]
 ·have z:=rr.lead j hj c (by rw[ejD];exact hc);rw[hw' c] at z;rw[<- z];exact aP λi hi=>by rw[(yw hd hw hi).1 c hc]
 ·have u:=rr.unit j hj j hj;rw[if_pos rfl,ejD,hw' n] at u;rw[<- u];exact aP λi hi=>by rw[(yw hd hw hi).2]
theorem Sh (hd:due.9=rows.9) (hw:∀xs∈rows,xs.9=n) (RR:bI (dD rows due) (n+1) R ps) {x:Nat->Rat} (hx:∀i,i < rows.9->bD n (λc=>ck rows i c*x c)=due.getD i 0):n∉ps:=λhn=>by
 obtain w|h1|h2:=FC hd hw RR hn
 have e1:bD rows.9 (λi=>w i*due.getD i 0)=bD rows.9 (λi=>bD n λc=>x c*(w i*ck rows i c)):=aP λi hi=>by
  rw[<- hx i hi,<- cL];exact aP λc _=>by grind
 have e2:bD n (λc=>bD rows.9 λi=>x c*(w i*ck rows i c))=0:=dh λc hc=>by
  rw[cL,h1 c hc];grind
 rw[e1,eU,e2] at h2;exact absurd h2 ()
theorem UA (h0:0 < M) (tp:∀xs∈R,∀x∈xs,Tp M W x) (RR:bI J (n+1) R ps):∀x∈ip R ps n,Tp M W x:=λx hx=>by
 obtain _|_|rr:=RR;obtain c|hc|rfl:=aA.mp hx;by_cases hp:∃j,j < ps.9/\ps.getD j 0=c
 ·obtain j|hj|e:=hp;rw[fJ hj λi hi ne=>if_neg λz=>?_,if_pos e]
  ·exact Mz tp j n
  ·rcases fF i j with q | q | q
   ·have:=rr.inc i j q hj;lia
   ·exact ne q
   ·have:=rr.inc j i q hi;lia
 ·rw[dh λj hj=>if_neg λz=>hp #[j,hj,z]];exact Tp.zero
inductive zC (K:FG9) (vs:List V) (H:Hp) (Q:VK) (E9:XK):Prop
 | mk (p q:Addr) (n w:Nat) (H0:Hp) (rows:LR9) (due:List Rat):vs=[.ref p,.int n,.ref q]->bp K H0 H p rows->cS K H q due->due.9=rows.9->rows.9<=99->n<=99->(∀xs∈rows,xs.9=n)->C6 (dD rows due) (n+1) w->((∀x R ps M H',bI (dD rows due) (n+1) R ps->n∉ps->H x=none->aH H H'->cS K H' x (ip R ps n)->0 < M->M<=2^(min rows.9 (n+1)*(w+4))->(∀y∈ip R ps n,Tp M (2^(min rows.9 (n+1)*(w+4))) y)->Q (.ref x) H')/\(∀R ps H',bI (dD rows due) (n+1) R ps->n∈ps->aH H H'->Q .non H'))->zC K vs H Q E9
def MJ (rows:LR9) (n:Nat) (due:List Rat):LR9:=dD (cu rows n++[due]) (List.replicate n 0++[1])
inductive Ca (K:FG9) (vs:List V) (H:Hp) (Q:VK) (E9:XK):Prop
 | mk (p q:Addr) (n w w':Nat) (H0:Hp) (rows:LR9) (due:List Rat):vs=[.ref p,.int n,.ref q]->bp K H0 H p rows->cS K H q due->due.9=rows.9->rows.9<=90->n<=90->(∀xs∈rows,xs.9=n)->C6 (dD rows due) (n+1) w->C6 (MJ rows n due) (rows.9+1) w'->((∀t x R ps M H',bI (dD rows due) (n+1) R ps->n∉ps->H' t=some (.tup [.str (Str.ofString "yes"),.ref x])->H x=none->aH H H'->cS K H' x (ip R ps n)->0 < M->M<=2^(min rows.9 (n+1)*(w+4))->(∀y∈ip R ps n,Tp M (2^(min rows.9 (n+1)*(w+4))) y)->Q (.ref t) H')/\(∀t x R ps R' ps' M H',bI (dD rows due) (n+1) R ps->n∈ps->bI (MJ rows n due) (rows.9+1) R' ps'->rows.9∉ps'->H' t=some (.tup [.str (Str.ofString "no"),.ref x])->H x=none->aH H H'->cS K H' x (ip R' ps' rows.9)->0 < M->M<=2^(min (n+1) (rows.9+1)*(w'+4))->(∀y∈ip R' ps' rows.9,Tp M (2^(min (n+1) (rows.9+1)*(w'+4))) y)->Q (.ref t) H'))->Ca K vs H Q E9
theorem Lg (hd:due.9=rows.9) (hw:∀xs∈rows,xs.9=n) (RR:bI (dD rows due) (n+1) R ps) (hn:n∈ps) (RR':bI (MJ rows n due) (rows.9+1) R' ps'):rows.9∉ps':=by
 obtain w|h1|h2:=FC hd hw RR hn;have l1:(cu rows n++[due]).9=n+1:=by rw[ar,dC];rfl
 have w1:∀xs∈cu rows n++[due],xs.9=rows.9:=λxs hx=>by
  rcases ay.mp hx with hx | hx
  ·exact jW xs hx
  ·rw[aS.mp hx];exact hd
 refine Sh (x:=w) (by rw[l1,ar,aJ];rfl) w1 RR' λi hi=>?_
 rw[l1] at hi;by_cases e:i < n
 ·have e1:∀c,ck (cu rows n++[due]) i c=ck rows c i:=λc=>by
   unfold ck;rw[aa (l:=cu rows n++[due]),bG (by rw[dC];exact e)];unfold cu;rw[aD,eI e];show (rows.map λxs=>xs.getD i 0).getD c 0=_
   rw[aa,aD,aa (l:=rows)];cases rows[c]? with
   | none=>rfl
   | some y=>rfl
  have e2:(List.replicate n (0:Rat)++[1]).getD i 0=0:=by
   rw[aa,bG (by rw[aJ];exact e),dG,if_pos e];rfl
  rw[e2,<- h1 i e];exact aP λc _=>by rw[e1];grind
 ·have ei:i=n:=()
  subst ei
  have e1:∀c,ck (cu rows i++[due]) i c=due.getD c 0:=λc=>by
   unfold ck;rw[aa (l:=cu rows i++[due]),bc (by rw[dC];exact ak _),dC,gM];rfl
  have e2:(List.replicate i (0:Rat)++[1]).getD i 0=1:=by
   rw[aa,bc (by rw[aJ];exact ak _),aJ,gM];rfl
  rw[e2,<- h2];exact aP λc _=>by rw[e1];grind
theorem F5:((List.range n).map λ_=>(0:Rat))=List.replicate n 0:=by rw[sO,cz]
def Se (K:FG9):Sp:=λvs H Q _=>∃m:Nat,vs=[.int m]/\m<=100/\∀r H',H r=none->aH H H'->cS K H' r (List.replicate m 0)->Q (.ref r) H'
inductive yg (K:FG9) (vs:List V) (H:Hp) (Q:VK) (E9:XK):Prop
 | mk (p q:Addr) (n w w':Nat) (H0:Hp) (rows:LR9) (row:List Rat):vs=[.ref p,.int n,.ref q]->bp K H0 H p rows->cS K H q row->row.9=n->rows.9<=90->n<=90->(∀xs∈rows,xs.9=n)->C6 (dD (cu rows n) row) (rows.9+1) w->C6 (dD (rows++[row]) (List.replicate rows.9 0++[1])) (n+1) w'->((∀t x R ps M H',bI (dD (cu rows n) row) (rows.9+1) R ps->rows.9∉ps->H' t=some (.tup [.str (Str.ofString "in"),.ref x])->H x=none->aH H H'->cS K H' x (ip R ps rows.9)->0 < M->M<=2^(min n (rows.9+1)*(w+4))->(∀y∈ip R ps rows.9,Tp M (2^(min n (rows.9+1)*(w+4))) y)->Q (.ref t) H')/\(∀t x R ps R' ps' M H',bI (dD (cu rows n) row) (rows.9+1) R ps->rows.9∈ps->bI (dD (rows++[row]) (List.replicate rows.9 0++[1])) (n+1) R' ps'->n∉ps'->H' t=some (.tup [.str (Str.ofString "out"),.ref x])->H x=none->aH H H'->cS K H' x (ip R' ps' n)->0 < M->M<=2^(min (rows.9+1) (n+1)*(w'+4))->(∀y∈ip R' ps' n,Tp M (2^(min (rows.9+1) (n+1)*(w'+4))) y)->Q (.ref t) H'))->yg K vs H Q E9
def KS (rows:LR9) (ws:List Rat) (n j:Nat):List Rat:=(List.range n).map λc=>bD j λi=>ws.getD i 0*ck rows i c
def AN (rows:LR9) (ws:List Rat) (n:Nat):List Rat:=KS rows ws n ws.9
section
variable {rows:LR9} {n j:Nat}
theorem qK:(KS rows ws n j).9=n:=by unfold KS;rw[af,cz]
theorem QX (h:j < j+1) (hc:c < (KS rows ws n j).9):(KS rows ws n j)[c]=bD j λi=>ws.getD i 0*ck rows i c:=by
 simp only[KS,iE,oy]
theorem OW:KS rows ws n 0=List.replicate n 0:=F5
theorem OX (hx:rows[j]?=some xs) (hp:ws[j]?=some w) (hw:xs.9=n):List.zipWith (λx y=>x+y) (KS rows ws n j) (xs.map λy=>w*y)=KS rows ws n (j+1):=by
 apply eG (by rw[cV,qK,qK,af];lia);intro c h1 h2;rw[qK] at h2;rw[k9,iE,QX (),QX ()];show _=bD j _+_
 congr 1;have e1:ws.getD j 0=w:=by rw[aa,hp];rfl
 have e2:ck rows j c=xs[c]'():=by
  unfold ck;rw[aa (l:=rows),hx];show xs.getD c 0=_
  rw[aa,ae ()];rfl
 dsimp only
 rw[e1,e2]
theorem yQ (hc:c < n):(AN rows ws n).getD c 0=bD ws.9 λi=>ws.getD i 0*ck rows i c:=by
 unfold AN KS;rw[aa,aD,eI hc];rfl
theorem Oo (h:xs.9=ws.9):cA xs ws=cA ws xs:=by
 rw[dR h,dR h.symm,h];exact aP λc _=>cP ..
theorem vV (hc:c < n):(cu rows n)[c]?=some (rows.map λxs=>xs.getD c 0):=by
 unfold cu;rw[aD,eI hc];rfl
theorem NK:(rows.map λxs=>xs.getD c 0).getD i 0=ck rows i c:=by
 unfold ck;rw[aa,aD,aa (l:=rows)];cases rows[i]? with
 | none=>rfl
 | some y=>rfl
theorem KR (hl:row.9=n) (RR:bI (dD (cu rows n) row) (rows.9+1) R ps) (hn:rows.9∉ps):AN rows (ip R ps rows.9) n=row:=by
 have ls:(ip R ps rows.9).9=rows.9:=lE;apply eG (by unfold AN;rw[qK,hl]);intro c h1 h2;have hc:c < n:=()
 have d:=Iy (rows:=cu rows n) (by rw[dC,hl]) (λxs hx=>jW xs hx) RR hn (vV hc);have e:=yQ (rows:=rows) (ws:=ip R ps rows.9) hc;have e1:(AN rows (ip R ps rows.9) n).getD c 0=(AN rows (ip R ps rows.9) n)[c]:=by rw[aa,ae h1];rfl
 have e2:row.getD c 0=row[c]:=by rw[aa,ae h2];rfl
 rw[<- e1,<- e2,e,<- d,dR (by rw[af,ls]),af,ls];exact aP λi _=>by rw[NK];grind
theorem Lf (hw:∀xs∈rows,xs.9=n) (hl:row.9=n) (RR:bI (dD (rows++[row]) (List.replicate rows.9 0++[1])) (n+1) R ps) (hn:n∉ps):cA (ip R ps n) row=1/\∀xs∈rows,cA xs (ip R ps n)=0:=by
 have l1:(List.replicate rows.9 (0:Rat)++[1]).9=(rows++[row]).9:=by rw[ar,ar,aJ];rfl
 have w1:∀xs∈rows++[row],xs.9=n:=λxs hx=>by
  rcases ay.mp hx with hx | hx
  ·exact hw xs hx
  ·rw[aS.mp hx];exact hl
 have ls:(ip R ps n).9=n:=lE;refine #[?_,λxs hx=>?_]
 ·have:=Iy l1 w1 RR hn (i:=rows.9) (row:=row) (by rw[bc (ak _),gM];rfl);rw[Oo (by rw[ls,hl]),this,aa,bc (by rw[aJ];exact ak _),aJ,gM];rfl
 ·obtain i|hi|rfl:=bM hx;have:=Iy l1 w1 RR hn (i:=i) (row:=rows[i]) (by rw[bG hi,ae hi]);rw[this,aa,bG (by rw[aJ];exact hi),dG,if_pos hi];rfl
end
inductive BX (K:FG9) (vs:List V) (H:Hp) (Q:VK) (E9:XK):Prop
 | mk (p q:Addr) (n M D W B:Nat) (H0:Hp) (rows:LR9) (ws:List Rat):vs=[.ref p,.ref q,.int n]->bp K H0 H p rows->cS K H q ws->ws.9=rows.9->rows.9<=100->n<=100->(∀xs∈rows,xs.9=n)->0 < M->0 < D->(∀xs∈rows,∀x∈xs,Tp M W x)->(∀x∈ws,Tp D B x)->1<=W->1<=B->M*D<=2^3990->128*(W*B)<=2^3990->(∀r H',H r=none->aH H H'->cS K H' r (AN rows ws n)->Q (.ref r) H')->BX K vs H Q E9
theorem Fr.up {M V M' V':Nat} (h:Fr M V x) (hd:M∣M') (hv:V<=V'):Fr M' V' x:=(h.dvd hd).mono hv
theorem Qw {M V D B:Nat} (h:ys.9=xs.9) (hx:∀x∈xs,Fr M V x) (hy:∀y∈ys,Fr D B y):Fr (M*D) (xs.9*(V*B)) (cA xs ys):=by
 rw[dR h.symm]
 have key:∀j,j<=xs.9->Fr (M*D) (j*(V*B)) (bD j λc=>xs.getD c 0*ys.getD c 0):=by
  intro j
  induction j with
  | zero=>intro _;exact Fr.zero
  | succ j ih =>
   intro hj;exact ((ih ()).add ((hx _ (getD_in ())).mul (hy _ (getD_in ())))).mono (Nat.le_of_eq (eD j (V*B)).symm)
 exact key _ (ak _)
def Mb (K:FG9) (P:Addr->Prop) (H:Hp) (xs:List Rat) (v:V):Prop:=∃q,v=.ref q/\P q/\cS K H q xs
section
variable {K:FG9}
theorem Mb.updL (h:Mb K P H xs v) (hl:H l=some (.lst ys)) (nb:∀q,P q->q≠l):Mb K P (upd H l o) xs v:=by obtain q|a|c|d:=h;exact #[q,a,c,d.updL hl (nb q c)]
theorem bp.ofE {rows:LR9} (g:H l=some (.lst us)) (h:Paired (Mb K P H) rows us) (h0:∀q,P q->H0 q=none) (hn:∀q,P q->q≠l):bp K H0 H l rows :=
 #[us,g,Paired.imp' (λ_ _ #[q,a,c,d]=>#[q,a,h0 q c,d]) h,λz=>by
  obtain _|_|q|e|c|_:=cZ h z;cases e;exact hn _ c rfl]
end
theorem tZ {α β:Type} {F G:α->β->Prop}:∀{l1:List α} {l2:List β},(∀a b,b∈l2->F a b->G a b)->Paired F l1 l2->Paired G l1 l2
 | _,_,_,.nil=>.nil
 | _,_,h,.cons a r=>.cons (h _ _ (by simp) a) (tZ (λx y hy=>h x y (by simp [hy])) r)
section
variable {rows rows' R R':LR9}
theorem xj (hw:∀xs∈rows,xs.9=n) (hW:1<=W) (ent:∀i,i < (rows.map kW).9->∀c,Fr 1 W (gD (rows.map kW) i c)):∀P,P<=n->∃ls ps d,C5 (rows.map kW) n P ls ps d:=by
 intro P
 induction P with
 | zero=>intro _;exact #[_,_,_,C5.start λzs hz=>by obtain x|hx|rfl:=aA.mp hz;rw[sQ];exact hw x hx]
 | succ P ih =>
  intro hP;obtain ls|ps|d|I:=ih ();by_cases e:∃t,ps.9<=t/\t < ls.9/\gD ls t P≠0
  ·obtain t|h1|h2|h3:=e;exact #[_,_,_,I.step hW ent h1 h2 h3]
  ·exact #[_,_,_,I.skip λi h1 h2=>by
    by_cases z:gD ls i P=0
    ·exact z
    ·exact absurd #[i,h1,h2,z] e]
theorem Cs (hw:∀xs∈rows,xs.9=n) (F:C6 rows n w):∃R ps d ls,V7 rows n w R ps d ls:=by
 obtain W|hW|W2|ent:=F.ent;obtain ls|ps|d|I:=xj hw hW ent n (ak _);obtain R|S:=I.done hw F;exact #[R,ps,d,_,S]
theorem UE (hw:∀xs∈rows,xs.9=n) (F:C6 rows n w) (RR:bI rows n R ps):ps.9<=rows.9/\∃M,0 < M/\M<=2^(min rows.9 n*(w+4))/\∀xs∈R,∀x∈xs,Tp M (2^(min rows.9 n*(w+4))) x:=by
 obtain R2|ps2|d|ls|S:=Cs hw F;obtain rfl|rfl:=S.rr.same RR;exact #[S.km,d.natAbs,Int.natAbs_pos.mpr S.d0,S.dsz,S.tp]
theorem Lz {p q:Nat->Nat} (hp:∀i j,i < j->j < k->p i < p j) (hq:∀i j,i < j->j < k->q i < q j) (hs:∀i,i < k->∃j,j < k/\q j=p i):∀i,i < k->p i=q i:=by
 have hqm:∀i j,i<=j->j < k->q i<=q j:=λi j h hj=>by
  rcases cB i j with z | z
  ·exact cC (hq i j z hj)
  ·have:i=j:=()
   rw[this];exact ak _
 have hqi:∀i j,i < k->j < k->q i < q j->i < j:=λi j hi hj h=>by
  rcases cB i j with z | z
  ·exact z
  ·have:=hqm j i z hi
   lia
 have key:∀i,i < k->∀j,j < k->q j=p i->i<=j:=by
  intro i
  induction i with
  | zero=>intro _ j _ _;exact br _
  | succ i ih =>
   intro hi j hj e;obtain j'|hj'|e':=hs i ();have h1:=ih () j' hj' e';have h2:=hp i (i+1) () hi;have:=hqi j' j hj' hj ()
   lia
 have key2:∀t i,i+t+1=k->∀j,j < k->q j=p i->j<=i:=by
  intro t
  induction t with
  | zero=>intro i e j hj _;lia
  | succ t ih =>
   intro i e j hj ej;obtain j'|hj'|e':=hs (i+1) ();have h1:=ih (i+1) () j' hj' e';have h2:=hp i (i+1) () ();have:=hqi j j' hj hj' ()
   lia
 intro i hi;obtain j|hj|e:=hs i hi;have h1:=key i hi j hj e;have h2:=key2 (k - 1 - i) i () j hj e;have:j=i:=()
 rw[<- e,this]
theorem Lb (h:bI rows n R ps) (h':bI rows' n R' ps') (hl:ps.9=ps'.9) (hs:∀i,i < ps.9->fI ps'.9 (ck R') (ck R i)):R=R'/\ps=ps':=by
 obtain l1|w1|r1:=h;obtain l2|w2|r2:=h'
 have ep:∀i,i < ps.9->ps.getD i 0=ps'.getD i 0:=Lz r1.inc (by rw[hl];exact r2.inc) λi hi=>by
  have u:=r1.unit i hi i hi;rw[if_pos rfl] at u;obtain j|hj|e:=r2.lead_in (hs i hi) (c:=ps.getD i 0) (by rw[u];decide) (λc hc=>r1.lead i hi c hc);exact #[j,(),e]
 have eps:ps=ps':=by
  apply eG hl;intro i a b;have:=ep i a;rw[aa,aa,ae a,ae b] at this;exact this
 refine #[Oc (n:=n) () w1 w2 λi hi c=>?_,eps];rw[l1] at hi;rw[r2.coef (hs i hi) c,<- hl,fJ hi λj hj hj'=>?_]
 ·rw[<- ep i hi];have u:=r1.unit i hi i hi;rw[if_pos rfl] at u;rw[u];grind
 ·rw[<- ep j hj];have u:=r1.unit i hi j hj;rw[if_neg (Ne.symm hj')] at u;rw[u];grind
end
def sG (mv:LR9) (x:List Rat):List Rat:=mv.map λxs=>cA xs x
def kry (mv pt:LR9):Nat->LR9
 | 0=>[]
 | t+1=>pt++(kry mv pt t).map (sG mv)
section
variable {mv pt R R' S X Y:LR9} {n t m i c:Nat} {ps ps':List Nat} {a:Nat->Nat->Rat}
theorem vP:(sG mv x).9=mv.9:=af ..
theorem Kj (lm:mv.9=n) (wm:∀xs∈mv,xs.9=n) (wR:∀xs∈R,xs.9=n) (hi:i < R.9) (c:Nat):ck (R.map (sG mv)) i c=bD n λj=>ck mv c j*ck R i j:=by
 have wi:=wR _ (aM hi);have e1:(R.map (sG mv)).getD i []=sG mv R[i]:=by rw[aa,aD,ae hi];rfl
 have e2:R.getD i []=R[i]:=by rw[aa,ae hi];rfl
 by_cases hc:c < n
 ·have wc:=wm _ (aM (show c < mv.9 by lia));have e3:mv.getD c []=mv[c]'():=by rw[aa,ae ()];rfl
  have e4:(sG mv R[i]).getD c 0=cA (mv[c]'()) R[i]:=by
   unfold sG;rw[aa,aD,ae ()];rfl
  unfold ck;rw[e1,e2,e3,e4,dR (),wc]
 ·have e3:mv.getD c []=[]:=by rw[aa,aQ ()];rfl
  unfold ck
  rw[e1,e3,aa,aQ (by rw[vP];lia),dh λj _=>by
   show ([]:List Rat).getD j 0*_=0
   rw[aa];show (0:Rat)*_=0
   grind]
  rfl
theorem zy (lm:mv.9=n) (wm:∀xs∈mv,xs.9=n) (wR:∀xs∈R,xs.9=n) (wS:∀xs∈S,xs.9=n) (hi:i < R.9) (h:fI S.9 (ck S) (ck R i)):fI (S.map (sG mv)).9 (ck (S.map (sG mv))) (ck (R.map (sG mv)) i):=by
 obtain w|hw:=h;refine #[w,λc=>?_];rw[Kj lm wm wR hi,af]
 have e1:bD n (λj=>ck mv c j*ck R i j)=bD n (λj=>bD S.9 λs=>w s*(ck mv c j*ck S s j)):=aP λj _=>by
  rw[hw j,<- cL];exact aP λs _=>by grind
 rw[e1,eU];exact aP λs hs=>by rw[cL,Kj lm wm wS hs]
theorem LR (h:i < X.9):ck (X++Y) i=ck X i:=by
 funext c;unfold ck;rw[aa (l:=X++Y),bG h,<- aa]
theorem OF:ck (X++Y) (X.9+i)=ck Y i:=by
 funext c;unfold ck;rw[aa (l:=X++Y),bc (),show X.9+i - X.9=i by lia,<- aa]
theorem vY (h1:∀i,i < X.9->fI m a (ck X i)) (h2:∀i,i < Y.9->fI m a (ck Y i)):∀i,i < (X++Y).9->fI m a (ck (X++Y) i):=λi hi=>by
 rw[ar] at hi;by_cases h:i < X.9
 ·rw[LR h];exact h1 i h
 ·obtain ⟨j,rfl⟩:∃j,i=X.9+j:=#[i - X.9,()];rw[OF];exact h2 j ()
theorem sU (h:i < X.9):fI (X++Y).9 (ck (X++Y)) (ck X i):=by
 have:=fI.row (a:=ck (X++Y)) (m:=(X++Y).9) (i:=i) (by rw[ar];lia);rwa [LR h] at this
theorem qe (h:fI Y.9 (ck Y) x):fI (X++Y).9 (ck (X++Y)) x:=fI.trans (λs hs=>by
 have:=fI.row (a:=ck (X++Y)) (m:=(X++Y).9) (i:=X.9+s) (by rw[ar];lia);rwa [OF] at this) h
theorem iB (lm:mv.9=n) (wp:∀xs∈pt,xs.9=n):∀t,∀xs∈kry mv pt t,xs.9=n:=by
 intro t
 induction t with
 | zero=>intro xs hx;cases hx
 | succ t ih =>
  intro xs hx;rcases ay.mp hx with hx | hx
  ·exact wp xs hx
  ·obtain y|_|rfl:=aA.mp hx;rw[vP,lm]
theorem wI (lm:mv.9=n) (wm:∀xs∈mv,xs.9=n) (wp:∀xs∈pt,xs.9=n) (RR:bI (kry mv pt t) n R ps) (RR':bI (pt++R.map (sG mv)) n R' ps'):bI (kry mv pt (t+1)) n R' ps':=by
 have wk:=iB (mv:=mv) lm wp t;refine #[RR'.1,RR'.2.1,RR'.2.2.other ?_ ?_]
 ·refine vY (λi hi=>sU hi) λi hi=>qe ?_
  rw[af] at hi;exact zy lm wm RR.2.1 wk hi (RR.2.2.back i (by rw[<- RR.1];exact hi))
 ·refine vY (λi hi=>sU hi) λi hi=>qe ?_
  rw[af] at hi;have:=RR.2.2.span i hi;rw[<- RR.1] at this;exact zy lm wm wk RR.2.1 hi this
theorem NS (lm:mv.9=n) (wm:∀xs∈mv,xs.9=n) (wp:∀xs∈pt,xs.9=n):∀t i,i < (kry mv pt t).9->fI (kry mv pt (t+1)).9 (ck (kry mv pt (t+1))) (ck (kry mv pt t) i):=by
 intro t
 induction t with
 | zero=>intro i hi;cases hi
 | succ t ih =>
  refine vY (λi hi=>sU hi) λi hi=>qe ?_
  rw[af] at hi;exact zy lm wm (iB lm wp t) (iB lm wp (t+1)) hi (ih i hi)
theorem Au (lm:mv.9=n) (wm:∀xs∈mv,xs.9=n) (wp:∀xs∈pt,xs.9=n) (RR:bI (kry mv pt t) n R ps) (RR':bI (kry mv pt (t+1)) n R' ps'):∀i,i < ps.9->fI ps'.9 (ck R') (ck R i):=λi hi =>
 fI.trans (λs hs=>RR'.2.2.span s hs) (fI.trans (NS lm wm wp t) (RR.2.2.back i hi))
theorem CG (lm:mv.9=n) (wm:∀xs∈mv,xs.9=n) (wp:∀xs∈pt,xs.9=n) (RR:bI (kry mv pt t) n R ps) (RR':bI (pt++R.map (sG mv)) n R' ps') (hl:ps'.9=ps.9):∀s,bI (kry mv pt (t+s)) n R ps:=by
 have K1:=wI lm wm wp RR RR';obtain e1|e2:=Lb RR K1 hl.symm (Au lm wm wp RR K1);subst e1 e2;intro s
 induction s with
 | zero=>exact RR
 | succ s ih=>exact wI lm wm wp ih RR'
theorem Gf (lm:mv.9=n) (wm:∀xs∈mv,xs.9=n) (wp:∀xs∈pt,xs.9=n) (RR:bI (kry mv pt t) n R ps) (RR':bI (kry mv pt (t+1)) n R' ps'):ps.9<=ps'.9:=by
 have h:=Au lm wm wp RR RR'
 have hs:∀i,i < ps.9->∃j,j < ps'.9/\ps'.getD j 0=ps.getD i 0:=λi hi=>by
  have u:=RR.2.2.unit i hi i hi;rw[if_pos rfl] at u;exact RR'.2.2.lead_in (h i hi) (c:=ps.getD i 0) (by rw[u];decide) (λc hc=>RR.2.2.lead i hi c hc)
 rcases cB ps'.9 ps.9 with z | z
 ·exfalso
  have key:∀i,i < ps.9->∀j,j < ps'.9->ps'.getD j 0=ps.getD i 0->i<=j:=by
   intro i
   induction i with
   | zero=>intro _ j _ _;exact br _
   | succ i ih =>
    intro hi j hj e;obtain j'|hj'|e':=hs i ();have h1:=ih () j' hj' e';have h2:=RR.2.2.inc i (i+1) () hi;rcases cB j' j with y | y
    ·lia
    ·rcases cB j j' with x | x
     ·have:=RR'.2.2.inc j j' x hj'
      lia
     ·have:j=j':=()
      rw[this] at e
      lia
  obtain j|hj|e:=hs (ps.9 - 1) ();have:=key (ps.9 - 1) () j hj e
  lia
 ·exact z
theorem Jk {M V c:Nat} (lm:mv.9=n) (wm:∀xs∈mv,xs.9=n) (wp:∀xs∈pt,xs.9=n) (hc:(n+1)*V<=2^c) (fm:GF M V mv) (fp:GF M V pt):∀t,∀xs∈kry mv pt t,∀x∈xs,Fr (M^t) (2^(c*t)) x:=by
 intro t
 induction t with
 | zero=>intro xs hx;cases hx
 | succ t ih =>
  intro xs hx x hx';have hV:V<=2^c:=ag (b7 _ ()) hc;rcases ay.mp hx with hx | hx
  ·refine Fr.up (fp xs hx x hx') (by rw[eF];exact eX _ _) (ag hV (ai () (cN _ ())))
  ·obtain y|hy|rfl:=aA.mp hx;unfold sG at hx';obtain r|hr|rfl:=aA.mp hx';have wr:=wm r hr;have wy:=iB (mv:=mv) lm wp t y hy;have f:=Qw () (fm r hr) (ih y hy);rw[eF,cv (M^t)];refine f.mono ?_;rw[oO,Nat.mul_one,aV,cv (2^(c*t)),<- dm,wr];exact ax _ (ag (ax _ ()) hc)
def jw (mv pt:LR9) (a c:Nat):Prop:=∃M V:Nat,0 < M/\M<=2^a/\(mv.9+1)*V<=2^c/\GF M V mv/\GF M V pt/\a<=400/\c<=40/\mv.9*(mv.9*(a+c)+4)<=1740/\mv.9*(mv.9*(mv.9*(a+c)+4)+a+c+4)<=8900
theorem jw.swf {a c:Nat} (F:jw mv pt a c) (D:mv.9<=8) (wm:∀xs∈mv,xs.9=mv.9) (wp:∀xs∈pt,xs.9=mv.9) (ht:t<=mv.9):C6 (kry mv pt t) mv.9 (mv.9*(a+c)):=by
 obtain M|V|M0|Ma|hV|fm|fp|a3|c3|e14|e89:=F;have f:=Jk rfl wm wp hV fm fp t;have h1:mv.9*(a+c)<=8*440:=aL D ();have hM:M^t<=2^(a*mv.9):=ag (jx Ma _) (by rw[<- sI];exact ai () (aO _ ht));have h2:a*mv.9<=mv.9*(a+c):=by rw[cv];exact aO _ ()
 have h3:mv.9=0\/mv.9*(a+c)<=1740:=by
  rcases iI mv.9 with z | z
  ·exact .inl z
  ·right
   have:=b7 (mv.9*(a+c)+4) z
   lia
 have h4:mv.9*(a+c)<=1740:=by
  rcases h3 with z | z
  ·rw[z];lia
  ·exact z
 refine #[M^t,2^(mv.9*(a+c)),d6 M0,ag hM (ai () ()),bJ,ak _,λxs hx x hx'=>Tp.of (f xs hx x hx') ?_,(),(),?_]
 ·refine ag (aL (ai () (aO c ht)) hM) ?_;rw[<- aV];refine ai () ?_;rw[cv c,cv a,<- oO,jN c];exact ak _
 ·exact ag (ax _ (yA _ _)) ()
theorem jw.tp {a c:Nat} (F:jw mv pt a c) (D:mv.9<=8) (wm:∀xs∈mv,xs.9=mv.9) (wp:∀xs∈pt,xs.9=mv.9) (ht:t<=mv.9) (RR:bI (kry mv pt t) mv.9 R ps):∃M,0 < M/\M<=2^(mv.9*(mv.9*(a+c)+4))/\∀xs∈R,∀x∈xs,Tp M (2^(mv.9*(mv.9*(a+c)+4))) x:=by
 obtain _|M|h0|h1|h2:=UE (iB rfl wp t) (F.swf D wm wp ht) RR;have le:2^(min (kry mv pt t).9 mv.9*(mv.9*(a+c)+4))<=2^(mv.9*(mv.9*(a+c)+4)):=ai () (ax _ (yA _ _));exact #[M,h0,ag h1 le,λxs hx x hx'=>(h2 xs hx x hx').mono le]
theorem jw.step {a c:Nat} (F:jw mv pt a c) (D:mv.9<=8) (wm:∀xs∈mv,xs.9=mv.9) (wp:∀xs∈pt,xs.9=mv.9) (ht:t<=mv.9) (RR:bI (kry mv pt t) mv.9 R ps):C6 (pt++R.map (sG mv)) mv.9 (mv.9*(mv.9*(a+c)+4)+a+c):=by
 obtain N|N0|N1|tN:=F.tp D wm wp ht RR;obtain M|V|M0|Ma|hV|fm|fp|a3|c3|e14|e89:=F;generalize mv.9*(mv.9*(a+c)+4)=e at *
 have V1:V<=2^c:=ag (b7 _ ()) hV;have eW:(2:Nat)^(e+a+c)=2^c*(2^a*2^e):=by rw[<- aV,<- aV];congr 1;lia
 refine #[N*M,2^(e+a+c),bQ N0 M0,?_,bJ,ak _,λxs hx x hx'=>?_,(),(),?_]
 ·exact ag (aL N1 Ma) (by rw[<- aV];exact ai () ())
 ·rcases ay.mp hx with hx | hx
  ·refine Tp.of ((fp xs hx x hx').scaleL N) ?_;rw[eW,cv N];exact aL V1 (aL Ma N1)
  ·obtain y|hy|rfl:=aA.mp hx;unfold sG at hx';obtain r|hr|rfl:=aA.mp hx';have wr:=wm r hr;have wy:=RR.2.1 y hy;rw[dR (),wr];have t1:∀j,Tp M (V*M) (r.getD j 0):=λj=>kb (λx hx=>Tp.of (fm r hr x hx) (ak _)) j
   have t2:∀j,Tp N (2^e) (y.getD j 0):=λj=>kb (tN y hy) j
   have:=Tp.sum (k:=mv.9) (M:=N*M) (W:=V*M*2^e) (f:=λj=>r.getD j 0*y.getD j 0) λj _=>by
    have:=(t1 j).mul (t2 j);rwa [cv M N] at this
   refine this.mono ?_;rw[eW,dm V,<- dm mv.9];exact aL (ag (ax _ ()) hV) (ax _ Ma)
 ·exact ag (ax _ (yA _ _)) (by rw[show e+a+c+4=e+a+c+4 from rfl];exact e89)
theorem jw.fit {a c:Nat} (F:jw mv pt a c) (D:mv.9<=8) (wm:∀xs∈mv,xs.9=mv.9) (wp:∀xs∈pt,xs.9=mv.9) (ht:t<=mv.9) (RR:bI (kry mv pt t) mv.9 R ps):∀xs∈mv,∀r∈R,jV xs r:=λxs hx r hr=>by
 obtain N|N0|N1|tN:=F.tp D wm wp ht RR;obtain M|V|M0|Ma|hV|fm|fp|a3|c3|e14|e89:=F;have V1:V<=2^c:=ag (b7 _ ()) hV;have p14:=ai (show 0 < 2 by decide) e14;exact #[400,40,1740,1740,#[M,V,M0,ag Ma (ai () a3),ag V1 (ai () c3),fm xs hx],#[N,2^1740,N0,ag N1 p14,ak _,λx hx=>((tN r hr x hx).mono p14).fr N0],()]
end
inductive Ci (K:FG9) (C:Addr) (vs:List V) (H:Hp) (Q:VK) (E9:XK):Prop
 | mk (x p:Addr) (H0 H1:Hp) (mv pt lk R:LR9):vs=[.ref x,.ref p]->j9 K H0 H C x mv pt lk->fv mv pt lk->bp K H1 H p R->R.9<=100->(∀r∈R,r.9=mv.9)->(∀xs∈mv,∀r∈R,jV xs r)->(∀r H',H r=none->aH H H'->bp K H H' r (R.map (sG mv))->Q (.ref r) H')->Ci K C vs H Q E9
structure uF (mv pt:LR9) (Rs:List (LR9)):Prop where
 ne:Rs≠[]
 rr:∀t R,Rs[t]?=some R->∃ps,bI (kry mv pt t) mv.9 R ps
 up:∀t R R',Rs[t]?=some R->Rs[t+1]?=some R'->R.9 < R'.9
def GrL (K:FG9) (H0 H:Hp) (l:Addr) (Rs:List (LR9)):Prop:=∃us,H l=some (.lst us)/\Paired (λR v=>∃q,v=V.ref q/\H0 q=none/\q≠l/\bp K H0 H q R) Rs us
inductive Cp (K:FG9) (C:Addr) (vs:List V) (H:Hp) (Q:VK) (E9:XK):Prop
 | mk (x:Addr) (a c st:Nat) (H0:Hp) (mv pt lk:LR9):vs=[.ref x,.int st]->st<=1000->j9 K H0 H C x mv pt lk->fv mv pt lk->jw mv pt a c->(∀r Rs H',H r=none->aH H H'->GrL K H H' r Rs->uF mv pt Rs->Rs.9<=st+1->(∀R,Rs.getLast?=some R->∀s,(Rs.9 - 1=st/\s=st\/Rs.9 - 1 < st/\Rs.9 - 1<=s)->∃ps,bI (kry mv pt s) mv.9 R ps)->Q (.ref r) H')->Cp K C vs H Q E9
inductive Cc (K:FG9) (C:Addr) (vs:List V) (H:Hp) (Q:VK) (E9:XK):Prop
 | mk (x:Addr) (a c st:Nat) (H0:Hp) (mv pt lk:LR9):vs=[.ref x,.int st]->st<=1000->j9 K H0 H C x mv pt lk->fv mv pt lk->jw mv pt a c->(∀r R ps H',H r=none->aH H H'->bp K H H' r R->bI (kry mv pt st) mv.9 R ps->Q (.ref r) H')->Cc K C vs H Q E9
section
variable {K:FG9}
theorem bp.weakN (h:bp K H0 H p rows) (hn:∀q,H0 q=none->H1 q=none):bp K H1 H p rows:=by obtain xs|g|r|n:=h;exact #[xs,g,Paired.imp' (λ_ _ #[q,a,b,c]=>#[q,a,hn q b,c]) r,n]
theorem bp.updL (h:bp K H0 H p rows) (hl:H l=some (.lst ys)) (nl:H0 l≠none) (pl:p≠l):bp K H0 (upd H l o) p rows:=by obtain xs|g|r|n:=h;exact #[xs,by rw[bo pl];exact g,Paired.imp' (λ_ _ z=>cW.updL z hl nl) r,n]
theorem IH:bI [] n [] []:=#[rfl,(λ_ h=>by cases h),(λ_ _ _ h=>absurd h (dP _)),(λ_ h=>absurd h (dP _)),(λ_ h=>absurd h (dP _)),(λ_ h=>absurd h (dP _)),(λ_ h=>absurd h (dP _)),(λ_ h=>absurd h (dP _))]
theorem uF.len (h:uF mv pt Rs):∀(t:Nat) (R:LR9),Rs[t]?=some R->t<=R.9:=by
 intro t
 induction t with
 | zero=>intro R _;exact br _
 | succ t ih =>
  intro R e;have ht:=(aE.mp e).1;have e0:=ae (show t < Rs.9 by lia);have:=ih _ e0;have:=h.up t _ R e0 e
  lia
theorem uF.snoc (h:uF mv pt (Rs++[R])) (h1:bI (kry mv pt (Rs.9+1)) mv.9 R' ps') (h2:R.9 < R'.9):uF mv pt ((Rs++[R])++[R']):=by
 have l1:(Rs++[R]).9=Rs.9+1:=by rw[ar];rfl
 refine #[by simp,λt S e=>?_,λt S S' e e'=>?_]
 ·rcases cB t (Rs.9+1) with z | z
  ·rw[bG ()] at e;exact h.rr t S e
  ·have ht:=(aE.mp e).1;rw[ar,a9] at ht;have:t=Rs.9+1:=()
   subst this;rw[bc (),l1,gM] at e;cases e;exact #[ps',h1]
 ·have ht:=(aE.mp e').1;rw[ar,a9] at ht;rw[bG ()] at e;rcases cB (t+1) (Rs.9+1) with z | z
  ·rw[bG ()] at e';exact h.up t S S' e e'
  ·have:t=Rs.9:=()
   subst this;rw[bc (),l1,gM] at e';cases e';rw[bc (ak _),gM] at e;cases e;exact h2
end
theorem bp.toE {K:FG9} (h:bp K H0 H l rows):∃us,H l=some (.lst us)/\Paired (Mb K (λq=>H0 q=none/\q≠l) H) rows us:=by
 obtain us|g|pr|nn:=h;exact #[us,g,tZ (λxs v hv #[q,e,a,b]=>#[q,e,#[a,λz=>nn (by rw[<- z,<- e];exact hv)],b]) pr]
theorem CA {α:Type} {v:α}:∀{l:List α},l.Nodup->v∉l->∀j,(l.set j v).Nodup
 | [],_,_,_=>pB
 | a :: l,h,hn,0=>by
  rw[fQ] at h;rw[List.set_cons_zero,fQ];exact #[λz=>hn (.tail _ z),h.2]
 | a :: l,h,hn,j+1=>by
  rw[fQ] at h;rw[List.set_cons_succ,fQ];refine #[λz=>?_,CA h.2 (λz=>hn (.tail _ z)) j];rcases cG z with z | z
  ·exact h.1 z
  ·exact hn (by rw[z];exact .head _)
structure kT (K:FG9) (A:Addr->Prop) (H:Hp) (n:Nat) (C:V->Rat->Prop) (m p l b q0:Addr) (us ws vs:List V):Prop where
 bag:ig H b
 inn:Inner H b q0
 gm:H m=some (.lst us)
 gp:H p=some (.lst ws)
 gl:H l=some (.lst vs)
 lm:us.9=n
 row:∀x∈us++vs++ws,ie K A H n (C x) x
 nd:(us++vs++ws).Nodup
section
variable {K:FG9}
theorem kT.same (h:kT K A H n C m p l b q0 us ws vs) (e:aH H H'):kT K A H' n C m p l b q0 us ws vs :=
 #[h.bag.same e,(e.upto (p:=b)).2 _ h.inn,e _ _ h.gm,e _ _ h.gp,e _ _ h.gl,h.lm,λx hx=>(h.row x hx).same e,h.nd]
theorem kT.upto (h:kT K A H n C m p l b q0 us ws vs) (M:Ig A m p l b q0) (u:c8 b H H') (B':ig H' b):kT K A H' n C m p l b q0 us ws vs :=
 #[B',u.2 _ h.inn,u.other M.mb h.gm,u.other M.pb h.gp,u.other M.lb h.gl,h.lm,λx hx=>(h.row x hx).upto u h.bag M.ab,h.nd]
theorem kT.weak (h:kT K A H n C m p l b q0 us ws vs) (w:∀x∈us++vs++ws,∀y,C x y->C' x y):kT K A H n C' m p l b q0 us ws vs :=
 #[h.bag,h.inn,h.gm,h.gp,h.gl,h.lm,λx hx=>(h.row x hx).weak (λ_ z=>z) (w x hx),h.nd]
theorem kT.put (h:kT K A H n C m p l b q0 us ws vs) (M:Ig A m p l b q0) (aq:A q) (hq:H q=some (.lst zs)) (hv:bW K H y v) (hc:C (.ref q) y) (j:Nat):kT K A (upd H q (.lst (zs.set j v))) n C m p l b q0 us ws vs:=by
 have ne:∀{z},¬A z->z≠q:=λh e=>h (by rw[e];exact aq)
 refine #[h.bag.upd h.inn (ne M.ab).symm (ne M.aq).symm,h.inn.upd (ne M.ab).symm,by rw[bo (ne M.am)];exact h.gm,by rw[bo (ne M.ap)];exact h.gp,by rw[bo (ne M.al)];exact h.gl,h.lm,λx hx=>?_,h.nd];by_cases e:x=.ref q
 ·subst e;exact (h.row _ hx).put hq hv hc j
 ·obtain q1|qs|rfl|a1|r1|l1|c1:=h.row x hx;exact #[q1,qs,rfl,a1,r1.updL hq (λz=>e (by rw[z])),l1,c1]
theorem kT.set (h:kT K A H n C m p l b q0 us ws vs) (M:Ig A m p l b q0) (hx:ie K A H n (C v) v) (hn:v∉us++vs++ws) (j:Nat):kT K A (upd H m (.lst (us.set j v))) n C m p l b q0 (us.set j v) ws vs:=by
 have mem:∀x∈us.set j v++vs++ws,x=v\/x∈us++vs++ws:=λx hx=>by
  rcases ay.mp hx with hx | hx
  ·rcases ay.mp hx with hx | hx
   ·rcases cG hx with hx | hx
    ·exact .inr (by simp [hx])
    ·exact .inl hx
   ·exact .inr (by simp [hx])
  ·exact .inr (by simp [hx])
 refine #[h.bag.upd h.inn M.mb M.mq,h.inn.upd M.mb,aG,by rw[bo M.mp.symm];exact h.gp,by rw[bo M.ml.symm];exact h.gl,by rw[df];exact h.lm,λx hx'=>?_,?_]
 ·rcases mem x hx' with rfl | hx'
  ·exact hx.other h.gm M.am
  ·exact (h.row x hx').other h.gm M.am
 ·have nd:=h.nd;rw[dc] at nd hn ⊢;obtain n1|n2|n3:=eN.mp nd;refine eN.mpr #[?_,n2,λa ha c hc=>?_]
  ·rcases cB j us.9 with z | z
   ·exact CA n1 (λz'=>hn (ay.mpr (.inl z'))) j
   ·rw[List.set_eq_of_length_le z];exact n1
  ·rcases cG ha with ha | rfl
   ·exact n3 a ha c hc
   ·exact λz=>hn (ay.mpr (.inr (by rw[z];exact hc)))
end
theorem Kw (h0:0 < M) (h1:M<=2^800) (hW:W<=2^140) (h:Fr M W x):mU x :=
 Jq h0 (ag h1 (ai () ())) (ag hW (ai () ())) h
theorem Qb {t V c:Nat} (ht:t<=3) (hV:V<=2^20) (hc:c<=9):c*(9^t*V)<=2^140:=by
 have h1:9^t<=9^3:=ai () ht;have h2:c*(9^t*V)<=9*(9^3*2^20):=aL hc (aL h1 hV);exact ag h2 (ag (show 9*(9^3*2^20)<=2^40 by decide) (ai () ()))
theorem rL {α:Type} {l:List α} {v:α} (h:l.Nodup) (hn:v∉l):(l++[v]).Nodup:=eN.mpr #[h,by simp,λa ha c hc=>by rw[aS.mp hc];exact λz=>hn (by rw[<- z];exact ha)]
section
variable {g:TG}
theorem CY (G:Hp->β->V->Prop) (C:β->Prop) (hB:ig H b) (hl:n<=1000) (hG:∀{H' H'' c x},G H' c x->c8 b H' H''->ig H' b->G H'' c x)
  (hA:∀{H' c x},G H' c x->∃q,x=V.ref q/\H' q≠none)
  (hs:∀(i:Nat) H' NY NN,i < n->c8 b H H'->ig H' b->(∀y c H2,c8 b H' H2->ig H2 b->C c->G H2 c y->(∃q,y=V.ref q/\H' q=none)->NY y H2)->sR σ₀ g tf te (.int i) H' NY NN)
  (hd:∀ys cs H' p,H p=none->c8 b H H'->ig H' b->H' p=some (.lst ys)->cs.9=n->ys.Nodup->(∀c∈cs,C c)->Paired (G H') cs ys->(∃H2,H2 p=none/\Paired (G H2) cs ys)->Q (.ref p) H'):uK (Io 0 n) σ₀ g tf te Q H:=by
 refine rW (λi ys H'=>c8 b H H'/\ig H' b/\∃cs,cs.9=i/\ys.Nodup/\(∀c∈cs,C c)/\Paired (G H') cs ys) j8 #[(aH.refl _).upto,hB,[],rfl,pB,(λ_ z=>nomatch z),.nil] ?_ ?_
 ·rintro i ys H' hi hlen ⟨u,B,cs,lc,nd,hc,pr⟩;rw[zi];refine hs i H' _ _ hi u B λy c H2 u2 B2 cc gy #[q,ey,nq]=>#[u.trans u2,B2,cs++[c],by simp [lc],rL nd (λz=>by obtain c'|_|gc:=cZ pr z;obtain q'|e'|h':=hA gc;rw[ey] at e';cases e';exact h' nq),za hc cc,bV (Paired.imp' (λ_ _ z=>hG z u2 B) pr) (.cons gy .nil)]
 ·rintro ys H' hy ⟨u,B,cs,lc,nd,hc,pr⟩ p hp;have s:aH H' (upd H' p (.lst ys)):=aH.new hp;exact hd ys cs _ p (u.none B hp) (u.same s) (B.same s) aG lc nd hc (Paired.imp' (λ_ _ z=>hG z s.upto B) pr) #[H',hp,pr]
end
structure JT (K:FG9) (A:Addr->Prop) (n:Nat) (C:Rat->Prop) (m p l b q0:Addr) (us ws vs:List V) (H0 H:Hp):Prop where
 mix:kT K A H n (λ_=>C) m p l b q0 us ws vs
 gp:H p=some (.lst ws)
 gl:H l=some (.lst vs)
 kp:jy A b m H0 H
section
variable {K:FG9}
theorem JT.same (h:JT K A n C m p l b q0 us ws vs H0 H) (e:aH H H'):JT K A n C m p l b q0 us ws vs H0 H':=#[h.mix.same e,e _ _ h.gp,e _ _ h.gl,h.kp.same e]
theorem JT.upto (h:JT K A n C m p l b q0 us ws vs H0 H) (M:Ig A m p l b q0) (u:c8 b H H') (B:ig H' b):JT K A n C m p l b q0 us ws vs H0 H':=#[h.mix.upto M u B,u.other M.pb h.gp,u.other M.lb h.gl,h.kp.upto u]
theorem JT.row (h:JT K A n C m p l b q0 us ws vs H0 H) (hx:x∈ws\/x∈vs):ie K A H n C x:=h.mix.row x (by rcases hx with hx | hx <;> simp [hx])
theorem JT.put (h:JT K A n C m p l b q0 us ws vs H0 H) (M:Ig A m p l b q0) (hx:V.ref q∈ws\/V.ref q∈vs) (hv:bW K H y v) (hc:C y) (j:Nat):∃zs,H q=some (.lst zs)/\zs.9=n/\JT K A n C m p l b q0 us ws vs H0 (upd H q (.lst (zs.set j v))):=by
 obtain q'|zs|qs|e|a|g|lz|_:=(h.row hx).at;cases e;have ne:∀{z},¬A z->z≠q:=λh e=>h (by rw[e];exact a)
 exact #[zs,g,lz,h.mix.put M a g hv hc j,by rw[bo (ne M.ap)];exact h.gp,by rw[bo (ne M.al)];exact h.gl,h.kp.upd (.inl a)]
end
inductive Fn (K:FG9) (vs:List V) (H:Hp) (Q:VK) (E9:XK):Prop
 | mk (b:Addr) (n w:Nat) (way first:Int):vs=[.ref b,.int n,.int way,.int first,.int w]->ig H b->n<=8->1<=w->w<=1000000->(∀r us H',H r=none->H' r=some (.lst us)->us.9=n->us.Nodup->(∀x∈us,ie K (λq=>H q=none/\q≠r) H' n (Dr (max w 6)) x)->ig H' b->c8 b H H'->Q (.ref r) H')->Fn K vs H Q E9
def PtF (n i o w c:Nat) (mv pt lk:LR9):Prop:=∃M V1:Nat,0 < M/\GF M V1 mv/\GF M V1 pt/\GF M V1 lk/\((w<=9/\M=2520/\V1=9^3*9)\/(9 < w/\M<=2^(c*((n+i+o)*n))/\V1=9^3*2^c))
inductive Fo (K:FG9) (vs:List V) (H:Hp) (Q:VK) (E9:XK):Prop
 | mk (b:Addr) (n:Nat):vs=[.ref b,.int n]->ig H b->1<=n->n<=8->(∀r mv pt lk H',gL K H H' r mv pt lk->mv.9=n->pt.9=1->lk.9=1->fv mv pt lk->GF 1 1 mv->GF 1 1 pt->GF 1 1 lk->ig H' b->c8 b H H'->Q (.ref r) H')->Fo K vs H Q E9
theorem o6 (M0:0 < M) (hM:M<=2^a) (hn:mv.9<=n0) (hV:(n0+1)*V1<=2^c) (fm:GF M V1 mv) (fp:GF M V1 pt) (h4:a<=400/\c<=40/\n0*(n0*(a+c)+4)<=1740/\n0*(n0*(n0*(a+c)+4)+a+c+4)<=8900):jw mv pt a c:=by
 obtain h1|h2|h3|h5:=h4;have e1:mv.9*(a+c)<=n0*(a+c):=ax _ hn;have e2:mv.9*(mv.9*(a+c)+4)<=n0*(n0*(a+c)+4):=aL hn ();have e3:mv.9*(mv.9*(mv.9*(a+c)+4)+a+c+4)<=n0*(n0*(n0*(a+c)+4)+a+c+4):=aL hn ();exact #[M,V1,M0,hM,ag (ax _ ()) hV,fm,fp,h1,h2,(),()]
def O4 (K:FG9):Sp:=λvs H Q _=>∃b:Addr,vs=[.ref b]/\ig H b /\
 ∀r mv pt lk H',gL K H H' r mv pt lk->6<=mv.9->fv mv pt lk->GF 1 (9^3) mv->GF 1 (9^3) pt->GF 1 (9^3) lk->ig H' b->c8 b H H'->Q (.ref r) H'
theorem Gg (lm:mv.9=n) (wm:∀xs∈mv,xs.9=n) (wp:∀xs∈pt,xs.9=n) (RR:bI (kry mv pt t) n R ps) (RR':bI (kry mv pt (t+1)) n R' ps'):bI (pt++R.map (sG mv)) n R' ps':=by
 have wk:=iB (mv:=mv) lm wp t;refine #[RR'.1,RR'.2.1,RR'.2.2.other ?_ ?_]
 ·refine vY (λi hi=>sU hi) λi hi=>qe ?_
  rw[af] at hi;have:=RR.2.2.span i hi;rw[<- RR.1] at this;exact zy lm wm wk RR.2.1 hi this
 ·refine vY (λi hi=>sU hi) λi hi=>qe ?_
  rw[af] at hi;exact zy lm wm RR.2.1 wk hi (RR.2.2.back i (by rw[<- RR.1];exact hi))
theorem Eh {rs:List Nat} {v v':Nat->iW}:∀{k:Nat} (pre:List iW),(∀j,j < k->∀r∈rs,v j r=v' j r)->jB rs (pre++jm v k)=jB rs (pre++jm v' k)
 | 0,_,_=>rfl
 | k+1,pre,h=>by
  show jB rs (pre++v k :: jm v k)=jB rs (pre++v' k :: jm v' k)
  rw[Ol (h k ())];have:=Eh (k:=k) (pre++[v' k]) λj hj=>h j ()
  simpa using this
theorem Ry {F G:List iW->Rat} {r:Nat} {σ:Nat->Nat} (hF:∀ws:List iW,F (ws.map λv i=>v (σ i))=G ws):∀(post pre:List iW) (s:Rat),yE F r (pre.map λv i=>v (σ i)) (post.map λv i=>v (σ i)) s=yE G (σ r) pre post s
 | [],_,_=>rfl
 | v :: post,pre,s=>by
  have i1:=hF (pre++post);have i2:=Ry (r:=r) hF post (pre++[v]) (-s);simp only[bR,iD,KQ,yE] at i1 i2 ⊢;rw[i1,i2]
theorem RM {σ:Nat->Nat}:∀(rs:List Nat) (vs:List iW),jB rs (vs.map λv i=>v (σ i))=jB (rs.map σ) vs
 | [],[]=>rfl
 | [],_ :: _=>rfl
 | r :: rs,vs=>Ry (λws=>RM rs ws) vs [] 1
theorem M8 {σ:Nat->Nat}:∀{k:Nat},(kX (λi=>i) k).map σ=kX σ k
 | 0=>rfl
 | k+1=>by show σ k :: _=_;rw[M8];rfl
theorem cw_map {τ:iW->iW} {v:Nat->iW}:∀{k:Nat},(jm v k).map τ=jm (λj=>τ (v j)) k
 | 0=>rfl
 | k+1=>by show τ (v k) :: _=_;rw[cw_map];rfl
theorem Tw:jB (kX σ k) (jm v k)=jB (kX (λi=>i) k) (jm (λj i=>v j (σ i)) k):=by
 rw[<- M8,<- RM,cw_map]
theorem Oj {N:Nat} {W:Nat->Nat}:∀{rs:List Nat} {vs:List iW},vs.9<=N->(∀v∈vs,∀r∈rs,Fr 1 (W r) (v r))->Fr 1 ((rs.map λr=>N*W r).foldr (λx y=>x*y) 1) (jB rs vs)
 | [],[],_,_=>by show Fr 1 1 1;exact (Fr.int (i:=1) ())
 | [],_ :: _,_,_=>by show Fr 1 _ 0;exact Fr.zero
 | r :: rs,vs,hl,h=>by
  have:=NM (F:=λws=>jB rs ws) (r:=r) (B:=(rs.map λr=>N*W r).foldr (λx y=>x*y) 1) (W:=W r) (post:=vs) (pre:=[]) (s:=1) (λws h1 h2=>Oj (by rw[dF] at h2;lia) λv hv r' hr'=>h v (by simpa using h1 v hv) r' (.tail _ hr')) (λw hw=>h w hw r (.head _)) (Fr.int (i:=1) ());refine this.mono ?_;show _<=N*W r*_
  rw[dm N];exact ax _ hl
structure Vb (r n:Nat) (Pm Y Z:Nat->Nat->Rat) (d:Rat) (W:Nat):Prop where
 d0:d≠0
 det:d=jB (kX (λi=>i) r) (jm (λj i=>Pm i j) r)
 eq:∀i,i < r->∀c,c < n->Z i c=bD r λs=>Pm i s*Y s c
 pf:∀i,i < r->∀s,s < r->Fr 1 W (Pm i s)
 zf:∀i,i < r->∀c,c < n->Fr 1 W (Z i c)
section
variable {rows R R1 R2 mv pt:LR9} {n r M V1 W W' Wv Wb k P:Nat} {Pm Y Z B E a:Nat->Nat->Rat} {d:Rat} {ps ps1 ps2:List Nat} {rs:LR9}
theorem MB (h0:0 < M) (h3:∀xs∈rows,∀x∈xs,Tp M W x):∀i,i < rows.9->∀c,Fr 1 W (gD (rows.map kW) i c):=λi hi c=>by
 have hx:=getD_in (e:=[]) hi;rw[E4 hi];unfold ck;generalize rows.getD i []=xs at hx ⊢;by_cases hc:c < xs.9
 ·have t:=h3 xs hx _ (getD_in (e:=0) hc);obtain s|e|b:=Dm t h0 (AD (xs:=xs)) (uC (aA.mpr #[_,getD_in (e:=0) hc,rfl])) (KG h0 (h3 xs hx));rw[cP,e];exact Fr.int b
 ·rw[aa,aQ ()];show Fr 1 W (_*0)
  rw[fE];exact Fr.zero
theorem Vb.of (hw:∀xs∈rows,xs.9=n) (hW:1<=W) (h0:0 < M) (h3:∀xs∈rows,∀x∈xs,Tp M W x) (RR:bI rows n R ps):∃Pm Z d,Vb ps.9 n Pm (ck R) Z d W:=by
 have ent:=MB h0 h3;obtain ls|ps2|d|I:=xj hw hW (by rw[af];exact ent) n (ak _);obtain _|_|⟨pm,B⟩|E:=I;rw[af] at B E
 have RF:EU rows.9 n (ck rows) ps2.9 (λj=>ps2.getD j 0) (λi c=>gD ls i c / d):=EU.other (E.done λi hi c hc=>xV (n:=n) (λzs hz=>by
  obtain xs|hx|rfl:=aA.mp hz;rw[sQ];exact hw xs hx) hc) Dg Di
 obtain e1|e2|e3:=RF.uniq RR.2.2 (λ_ hi=>fI.row hi) (λ_ hi=>fI.row hi);refine #[λi s=>gD (rows.map kW) (pm i) (ps2.getD s 0),λi c=>gD (rows.map kW) (pm i) c,d,?_];rw[<- e1];have km:=B.km;refine #[B.d0,?_,λi hi c hc=>?_,λi hi s hs=>ent _ (B.rng i ()) _,λi hi c hc=>ent _ (B.rng i ()) _]
 ·rw[B.det];exact Tw
 ·have:=B.coef (i:=i) (c:=c) ();rw[if_pos hi,mJ] at this;rw[this];exact aP λs hs=>by rw[<- e3 s hs c];exact cP _ _
theorem Ob {V:Nat} {f:Nat->Rat}:∀{k:Nat},(∀j,j < k->Fr 1 V (f j))->Fr 1 (k*V) (bD k f)
 | 0,_=>Fr.zero
 | k+1,h=>by
  rw[eD];exact (Ob λj hj=>h j ()).add (h k ())
theorem xl {f:Nat->Rat} {a:Nat}:∀{b:Nat},bD (a+b) f=bD a f+bD b λt=>f (a+t)
 | 0=>by show bD a f=bD a f+0;grind
 | b+1=>by
  show bD (a+b) f+f (a+b)=_+(bD b _+f (a+b))
  rw[xl];grind
end
theorem v8 (RR:bI rows n R ps):bI R n R ps:=#[RR.1,RR.2.1,RR.2.2.other (λi hi=>by rw[RR.1];exact RR.2.2.span i hi) (λi hi=>RR.2.2.back i (by rw[<- RR.1];exact hi))]
theorem Pl (RR:bI rows n R ps) (e:ps.9=n) (hi:i < n) (c:Nat):ck R i c=if c=i then 1 else 0:=by
 have lo:∀j,j < n->j<=ps.getD j 0:=by
  intro j
  induction j with
  | zero=>intro _;exact br _
  | succ j ih =>
   intro hj;have:=ih ();have:=RR.2.2.inc j (j+1) () ()
   lia
 have hi2:∀s j,j+s+1=n->ps.getD j 0<=j:=by
  intro s
  induction s with
  | zero =>
   intro j hj;have:=RR.2.2.low j ()
   lia
  | succ s ih =>
   intro j hj;have:=ih (j+1) ();have:=RR.2.2.inc j (j+1) () ()
   lia
 have ep:∀j,j < n->ps.getD j 0=j:=λj hj=>OR (hi2 (n - 1 - j) j ()) (lo j hj)
 by_cases hc:c < n
 ·have:=RR.2.2.unit i () c ();rw[ep c hc] at this;rw[this];by_cases z:i=c
  ·rw[if_pos z,if_pos z.symm]
  ·rw[if_neg z,if_neg (Ne.symm z)]
 ·rw[xU RR.2.1 (),if_neg ()]
theorem y9 (h:∀i,i < rows.9->∀c,Tp M W (ck rows i c)):∀xs∈rows,∀x∈xs,Tp M W x:=λxs hx x hx'=>by
 obtain i|hi|rfl:=bM hx;obtain c|hc|rfl:=bM hx';have:=h i hi c;unfold ck at this;rw[aa (l:=rows),ae hi] at this;have e:(some rows[i]).getD []=rows[i]:=rfl;rw[e,aa,ae hc] at this;exact this
theorem jw.vb (F:jw mv pt a c) (wm:∀xs∈mv,xs.9=mv.9) (wp:∀xs∈pt,xs.9=mv.9) (ht:t<=ps.9) (RR:bI (kry mv pt t) mv.9 R ps):∃Pm Z d w,Vb ps.9 mv.9 Pm (ck R) Z d (2^w)/\(ps.9 < mv.9/\w=(mv.9 - 1)*(a+c)\/ps.9=mv.9/\w=0):=by
 have le:=RR.le;rcases cB ps.9 mv.9 with z | z
 ·obtain M|V|M0|Ma|hV|fm|fp|_:=F;have f:=Jk rfl wm wp hV fm fp t
  obtain Pm|Z|d|vb:=Vb.of (iB rfl wp t) (bJ (n:=(mv.9 - 1)*(a+c))) (d6 M0 (n:=t)) (λxs hx x hx'=>Tp.of (f xs hx x hx') (by
   refine ag (aO _ (jx Ma t)) ?_;rw[<- sI,<- aV];refine ai () ?_;rw[<- C9,cv,jN c];exact ax _ ())) RR
  exact #[Pm,Z,d,_,vb,.inl #[z,rfl]]
 ·have e:ps.9=mv.9:=()
  obtain Pm|Z|d|vb:=Vb.of (W:=2^0) (M:=1) RR.2.1 () () (y9 λi hi c=>by
   rw[RR.1,e] at hi;rw[Pl RR e hi c]
   split
   ·exact #[1,by rw[OM];rfl,()]
   ·exact #[0,by rw[jM];rfl,()]) (v8 RR)
  exact #[Pm,Z,d,0,vb,.inr #[e,rfl]]
section
variable {K:FG9} {g:TG}
theorem CS {F:Hp->α->V->Prop} (G:Hp->β->V->Prop) (f:α->β) (hx:H a=some (.lst xs)) (pf:Paired (F H) as xs) (hl:as.9<=1000)
  (hF:∀{H H' c x},F H c x->aH H H'->F H' c x) (hG:∀{H H' c x},G H c x->aH H H'->G H' c x) (hA:∀{H' c x},G H' c x->∃q,x=V.ref q/\H' q≠none)
  (hs:∀(i:Nat) c x H' NY NN,as[i]?=some c->aH H H'->F H' c x->(∀y H2,aH H' H2->G H2 (f c) y->(∃q,y=V.ref q/\H' q=none)->NY y H2)->sR σ₀ g tf te x H' NY NN)
  (hd:∀ys H' p,H p=none->aH H H'->H' p=some (.lst ys)->ys.Nodup->(∀y∈ys,∃q,y=V.ref q/\H q=none/\q≠p)->Paired (G H') (as.map f) ys->Q (.ref p) H'):uK (QW K a) σ₀ g tf te Q H:=by
 have lx:=pf.9;refine eB (K:=K) (xs:=xs) (λi ys H'=>aH H H'/\ys.Nodup/\(∀y∈ys,∃q,y=V.ref q/\H q=none)/\Paired (G H') ((as.take i).map f) ys) j8 #[aH.refl _,pB,(λ_ z=>nomatch z),.nil] (λi ys H' _ #[s,_]=>bE.of (s _ _ hx)) ?_ ?_
 ·rintro i x ys H' hx' hlen ⟨s,nd,hn,pr⟩;obtain c|ec|hc:=cF pf hx';refine hs i c x H' _ _ ec s (hF hc s) λy H2 s2 gy #[q,ey,nq]=>#[s.trans s2,rL nd (λz=>?_),za hn #[q,ey,s.none nq],?_]
  ·obtain c'|_|gc:=cZ pr z;obtain q'|e'|h':=hA gc;rw[ey] at e';cases e';exact h' nq
  ·rw[take_snoc ec,bR];exact bV (Paired.imp' (λ_ _ z=>hG z s2) pr) (.cons gy .nil)
 ·rintro ys H' hy ⟨s,nd,hn,pr⟩ p hp;rw[aF ()] at pr;refine hd ys _ p (s.none hp) (s.trans (aH.new hp)) aG nd (λy hy=>?_) (Paired.imp' (λ_ _ z=>hG z (aH.new hp)) pr);obtain q|e|nq:=hn y hy;refine #[q,e,nq,λz=>?_];obtain c'|_|gc:=cZ pr hy;obtain q'|e'|h':=hA gc;rw[e] at e';cases e';exact h' (by rw[z];exact hp)
end
structure VE (K:FG9) (H0 H:Hp) (n:Nat) (fd:Addr) (L:List (Addr×List V)):Prop where
 gf:H fd=some (.lst (L.map λe=>V.ref e.1))
 nf:H0 fd=none
 ls:∀e∈L,H0 e.1=none/\e.1≠fd/\H e.1=some (.lst e.2)
 nd:(L.map λe=>e.1).Nodup
 rows:∀e∈L,∀x∈e.2,ie K (λq=>(H0 q=none/\q≠fd)/\q∉L.map λe=>e.1) H n (Fr 1 1) x
 rd:(L.flatMap λe=>e.2).Nodup
section
variable {K:FG9}
theorem VE.snoc (h:VE K H0 H n fd L) (s0:aH H0 H) (s:aH H H1) (hq:H q=none) (gq:H1 q=some (.lst us)) (nd:us.Nodup) (hr:∀x∈us,ie K (λz=>H z=none/\z≠q) H1 n (Fr 1 1) x):VE K H0 (upd H1 fd (.lst ((L.map λe=>V.ref e.1)++[.ref q]))) n fd (L++[(q,us)]):=by
 have qf:q≠fd:=λz=>by rw[z,h.gf] at hq;cases hq
 have old:∀{z},z∈(L.map λe=>e.1)->H z≠none:=λhz=>by
  obtain e|he|rfl:=aA.mp hz;rw[(h.ls e he).2.2];exact λz=>nomatch z
 have g1:=s _ _ h.gf;refine #[by rw[aG,bR];rfl,h.nf,λe he=>?_,?_,λe he x hx=>?_,?_]
 ·rcases ay.mp he with he | he
  ·obtain a|b|c:=h.ls e he;exact #[a,b,by rw[bo b];exact s _ _ c]
  ·rw[aS.mp he];exact #[s0.none hq,qf,by rw[bo qf];exact gq]
 ·rw[bR];exact rL h.nd λz=>old z hq
 ·have key:ie K (λz=>(H0 z=none/\z≠fd)/\z∉(L++[(q,us)]).map λe=>e.1) H1 n (Fr 1 1) x:=by
   rcases ay.mp he with he | he
   ·obtain z|qs|e1|⟨e2,e3⟩|e4|e5:=h.rows e he x hx;refine #[z,qs,e1,#[e2,λhz=>?_],e4.same s,e5];rw[bR] at hz;rcases ay.mp hz with hz | hz
    ·exact e3 hz
    ·have hz:z=q:=aS.mp hz;obtain _|gg|_:=e4;rw[hz,hq] at gg;cases gg
   ·rw[aS.mp he] at hx;refine (hr x hx).weak (λz hz=>#[#[s0.none hz.1,λy=>by rw[y] at hz;rw[h.gf] at hz;exact absurd hz.1 (λw=>nomatch w)],λy=>?_]) (λ_ w=>w);rw[bR] at y;rcases ay.mp y with y | y
    ·exact old y hz.1
    ·exact hz.2 (aS.mp y)
  exact key.other g1 (λz=>z.1.2 rfl)
 ·rw[List.flatMap_append];refine eN.mpr #[h.rd,by simpa using nd,λx hx y hy z=>?_];obtain e|he|hx:=List.mem_flatMap.mp hx;obtain w|qs|e1|_|⟨_,gg,_⟩|_:=h.rows e he x hx;obtain w'|_|e1'|⟨hw,_⟩|_:=hr y (by simpa using hy);rw[<- z,e1] at e1';cases e1';rw[hw] at gg;cases gg
end
def Gd (mv pt:LR9) (i:Nat) (R:LR9) (ps:List Nat):Prop:=bI (kry mv pt i) mv.9 R ps/\∃t,t<=ps.9/\t<=i/\bI (kry mv pt t) mv.9 R ps/\(t=i\/∀s,bI (kry mv pt (t+s)) mv.9 R ps)
theorem Gd.start:Gd mv pt 0 [] []:=#[IH,0,ak _,ak _,IH,.inl rfl]
theorem MZ (wm:∀xs∈mv,xs.9=mv.9) (wp:∀xs∈pt,xs.9=mv.9) (h:bI (kry mv pt i) mv.9 R ps) (h':bI (kry mv pt (i+1)) mv.9 R' ps') (e:ps'.9=ps.9):∀s,bI (kry mv pt (i+s)) mv.9 R ps:=CG rfl wm wp h (Gg rfl wm wp h h') e
theorem Gd.step (wm:∀xs∈mv,xs.9=mv.9) (wp:∀xs∈pt,xs.9=mv.9) (h:Gd mv pt i R ps) (h':bI (kry mv pt (i+1)) mv.9 R' ps'):Gd mv pt (i+1) R' ps'/\(mv.9<=i->R'=R):=by
 obtain h0|t|t1|t2|ht|hs:=h
 have st:(∀s,bI (kry mv pt (t+s)) mv.9 R ps)->Gd mv pt (i+1) R' ps'/\(mv.9<=i->R'=R):=λhs=>by
  have:=hs (i+1 - t);rw[show t+(i+1 - t)=i+1 by lia] at this;obtain rfl|rfl:=this.same h';exact #[#[h',t,t1,(),ht,.inr hs],λ_=>rfl]
 rcases hs with rfl | hs
 ·have gr:=Gf rfl wm wp h0 h';by_cases e:ps'.9=ps.9
  ·exact st (MZ wm wp h0 h' e)
  ·refine #[#[h',t+1,(),ak _,h',.inl rfl],λhn=>?_];have:=h'.le
   lia
 ·exact st hs
theorem Gd.late (h:Gd mv pt i R ps) (hi:mv.9 < i) (hj:mv.9<=j):bI (kry mv pt j) mv.9 R ps:=by
 obtain h0|t|t1|t2|ht|hs:=h;have le:=h0.le;rcases hs with rfl | hs
 ·lia
 ·have:=hs (j - t);rwa [show t+(j - t)=j by lia] at this
theorem MW:typeLookup (.type "list_reverseiterator") "__len__"=pure none:=by
 rw[typeLookup_type,builtinLookup_eq_fast]
 kernel_rfl
theorem Pj:typeLookup (.type "list_reverseiterator") "__length_hint__"=pure (some (.builtin "list_reverseiterator.__length_hint__")):=by
 rw[typeLookup_type,builtinLookup_eq_fast]
 kernel_rfl
theorem Pg (hit:s.heap.IsRevIter it l i) (q:Q false s):wpAny (model prog w) A (Builtin.List.listLengthHint (.ref it)) Q E s:=by
 unfold Builtin.List.listLengthHint;refine wpAny_bind (wpAny_specialOf hit.typeIs MW ?_);show wpAny _ A (specialOf (Value.ref it) (Str.ofString "__length_hint__") >>= _) Q E s
 refine wpAny_bind (wpAny_specialOf hit.typeIs Pj ?_);generalize hid:("list_reverseiterator.__length_hint__":String)=id0
 dsimp only
 rw[show splitId id0=some ("list_reverseiterator","__length_hint__") from by subst hid;decide +kernel];subst hid;refine wpAny_bind (wpAny_isInstance (T:="list_reverseiterator") (b:=true) hit.typeIs (by rw[isSubtype_type];kernel_rfl) ?_);refine wpAny_ite_split (λz=>absurd z ()) (λ_=>?_);refine wpAny_ite_split (λ_=>?_) (λz=>absurd (by decide +kernel) z);exact wpAny_ite_split (λz=>absurd z (by decide +kernel)) (λ_=>wpAny_pure q)
theorem Pk (hh:A.handled=none) (hit:s.heap.IsRevIter I l ((items.7:Int) - 1)) (hl:s.heap.IsList l items) (nI:l≠I) (nS:S≠I) (nL:S≠l) (hn:items.7<=sizeLine) (hS:s.heap.get? S=some { cls:=.type "list",data:=.seq [].toArray c0 })
  (hR:∀h' tk acc c,(∀b o,b≠S->b≠I->s.heap.get? b=some o->h'.get? b=some o)->h'.get? S=some { cls:=.type "list",data:=.seq acc c }->ItemsOf (λi v=>items[items.7 - 1 - i]?=some v) acc items.7->R (.ok (.ret res)) { s with heap:=h',toks:=tk }) :
  wpAny (model prog w) A.in1 (Builtin.List.listExtendWith (.ref S) (.ref I) res) (λfin s2=>match fin with | .done f=>R (.ok f) s2 | .again c=>c.quiet=true/\codeAny (model prog w) A c R s2) (λe s2=>R (.error e) s2) s:=by
 have W:=(Walks.listRev (prog:=prog) (w:=w) (A:=A.in1) hh I l nI items).toS;unfold Builtin.List.listExtendWith;refine wpAny_bind (wpAny_typeOf hit.typeIs ?_);rw[if_neg (by simp [Builtin.List.listSameRef,nS])];refine wpAny_bind (wpAny_pyIter_revIter hit ?_);refine wpAny_bind (wpAny_holding (Pg hit ?_));refine wpAny_ite_split (λz=>absurd z (by decide +kernel)) (λ_=>?_);have h0:s.heap.IsRevIter I l ((items.7:Int) - 1 - ((0:Nat):Int)):=by simpa using hit
 refine wpAny_pure #[plainId_quiet F.plain_extend_loop _,codeAny_extend_loopS W hn S (by simp [nS,nL]) res items.size 0 s [].toArray c0 rfl (br _) #[br _,h0,hl] hS (ItemsOf.nil _) λs2 acc c hm h2 hi=>?_];rw[Moved.eq_with hm];exact hR s2.heap s2.toks acc c (λb o n1 n2 e=>hm.heap b o (by simp [n1,n2]) e) h2 hi
theorem Ph (hh:A.handled=none) (hit:s.heap.IsRevIter I l ((items.7:Int) - 1)) (hl:s.heap.IsList l items) (nI:l≠I) (hn:items.7<=sizeLine)
  (hQ:∀h' tk acc c,(∀b o,b≠I->s.heap.get? b=some o->h'.get? b=some o)->h'.get? s.6=some { cls:=.type "list",data:=.seq acc c }->ItemsOf (λi v=>items[items.7 - 1 - i]?=some v) acc items.7->Q (.ref s.6) { s with heap:=h',toks:=tk }) :
  wpAny (model prog w) A (call (.type "list") [.ref I]) Q E s:=by
 refine callType_codes (Q₁:=λx s2=>x=.ref s.6/\s2={ s with heap:=s.heap.push { cls:=.type "list",data:=.seq [].toArray } }) F.called_list (F.typeCall_list_1 _) F.entry_list_init (code_list_new _ ⟨rfl,rfl⟩) λx s2 hx=>?_
 obtain rfl|rfl:=hx;have up:∀b o,s.heap.get? b=some o->(s.heap.push { cls:=.type "list",data:=.seq [].toArray }).get? b=some o:=λb o e=>Heap.get?_push_of_some _ e
 have hS:(s.heap.push { cls:=.type "list",data:=.seq [].toArray }).get? s.6=some { cls:=.type "list",data:=.seq [].toArray }:=Heap.get?_push_size _ rfl
 have lI:I≠s.6:=by
  obtain o|ho|_:=hit;exact cI (Heap.lt_size ho)
 have lL:l≠s.6:=by
  obtain o|ho|_:=hl;exact cI (Heap.lt_size ho)
 refine #[#[_,hS,rfl],F.args_list_init_2 _ _,?_];show wpAny _ A.in1.in1 (do let old <- Builtin.List.listItems (.ref s.6);Builtin.List.listUpdate (.ref s.6) (λ_=>[].toArray);letGo old.toList.reverse;Builtin.List.listExtendWith (.ref s.6) (.ref I) .none) _ _ _
 refine wpAny_bind ?_;unfold Builtin.List.listItems;refine wpAny_bind (wpAny_seqItems hS rfl (wpAny_pure ?_));refine wpAny_bind (m:=Builtin.List.listUpdate (.ref s.6) (λ_=>[].toArray)) (wpAny_updateSeq hS rfl ?_);have h3:=Heap.get?_update_self (Obj.mapSeq (λ_=>([].toArray:Array Value))) hS rfl;have o3:∀b o,b≠s.6->(s.heap.push { cls:=.type "list",data:=.seq [].toArray }).get? b=some o->((s.heap.push { cls:=.type "list",data:=.seq [].toArray }).update s.heap.objs.size (Obj.mapSeq (λ_=>([].toArray:Array Value)))).get? b=some o:=λb o nb e=>(Heap.get?_update_other _ _ (Ne.symm nb)).trans e
 refine wpAny_bind (wpAny_letGo ?_);refine Pk (A:=A.in1) hh (hit.at λo e=>o3 _ _ lI (up _ _ e)) (hl.at λo e=>o3 _ _ lL (up _ _ e)) nI lI.symm lL.symm hn h3 λh' tk acc c hk h2 hi=>?_
 exact #[rfl,hQ h' tk acc c (λb o nb e=>hk b o (cI (Heap.lt_size e)) nb (o3 _ _ (cI (Heap.lt_size e)) (up _ _ e))) h2 hi]
section
variable {X:Cx}
def Fc (K:FG9) (ta:TA):TE:=λσ H Q=>ta σ H λvs H1=>∃l xs,vs=[.ref l]/\bE K H1 l xs/\xs.9<=1000/\∀L H',aH H1 H'->H1 L=none->H' L=some (.lst xs.reverse)->Q (.ref L) H'
theorem E6:∀{xs:List V} {us:List Value},dg xs us->dg xs.reverse us.reverse
 | _,_,.nil=>.nil
 | _,_,.cons h r=>by
  rw[gU,gU];exact dg.append (E6 r) (.cons h .nil)
theorem IU (K:FG9) {e1:Expr} {ta:TA} {p p2 pos pos2:Pos} (hg:Gl X "list") (hm:X.mg "list"=none) (hg2:Gl X "reversed") (hm2:X.mg "reversed"=none) (ha:PA X [e1] ta) (hK:X.K=K:=by rfl) (hc:X.calm=true:=by rfl)
  (hs:starEach [e1] X.env=[(false,eval e1 X.env)]:=by rfl)
  (hs3:starEach [Expr.Call (.Name "reversed" p2) [e1] [] pos2] X.env=[(false,eval (.Call (.Name "reversed" p2) [e1] [] pos2) X.env)]:=by rfl) :
  PE X (.Call (.Name "list" p) [.Call (.Name "reversed" p2) [e1] [] pos2] [] pos) (Fc K ta):=by
 subst hK;intro pins s σ H Q I h;refine wpAny_Call_Name_kw (lZ I hg hm boot_list ?_);refine PyProof.Rows.callWith_type1 ?_ (by rw[hs3];rfl) rfl;rw[hs3];show wpAny _ _ (spliced ((false,eval (.Call (.Name "reversed" p2) [e1] [] pos2) X.env) :: [])) _ _ s
 refine Calls.spliced_cons ?_;refine Call_ (lZ I hg2 hm2 boot_reversed (PyProof.Rows.callWith_type1 (iG (ha pos2 pins s σ H _ I h) λus s1 #[vs,H1,I1,r1,q1]=>?_) hs rfl));obtain l|xs|e|hl|hn|q:=q1;subst e;obtain u|rfl|ru:=vals1 r1;cases ru;obtain its|rv|pl|hz:=I1.list hl;have hlen:=rv.9;have pI:=pl.isList;refine call_reversed_list pI ?_;refine Calls.spliced_nil ?_;have kp:∀b o,s1.heap.get? b=some o->(s1.heap.push (revObj l ((its.5.7:Int) - 1))).get? b=some o:=λb o e=>Heap.get?_push_of_some _ e
 have nI:l≠s1.6:=by
  obtain o|ho|_:=pI;exact cI (Heap.lt_size ho)
 refine Ph (I.ok.hd hc) (I:=s1.6) (l:=l) (items:=its.5) #[_,Heap.get?_push_size _ rfl,rfl,rfl] (pI.at λo e=>kp _ _ e) nI (by rw[aN];lia) λh' tk acc c hk hS hacc=>?_
 have sz:s1.6<=(s1.heap.push (revObj l ((its.5.7:Int) - 1))).objs.size:=by rw[Heap.size_push];exact kY _
 have nS:=I1.hok.fresh sz
 have ea:acc.toList=its.reverse:=by
  apply fG;intro j;rcases cB j its.9 with z | z
  ·have hj:j < acc.toList.9:=by rw[Array.length_toList,hacc.1,aN];exact z
   have:=hacc.2 j acc.toList[j] (by rw[<- Array.getElem?_toList];exact ae hj);rw[ae hj,List.getElem?_reverse z];simpa using this.symm
  ·rw[aQ (by rw[Array.length_toList,hacc.1,aN];exact z),aQ (by rw[dS];exact z)]
 have vs':dg xs.reverse acc.toList:=by rw[ea];exact E6 rv
 have sl:xs.reverse.9<=sizeLine:=by rw[dS];exact hz
 refine #[.ref _,_,I1.laid (o:=.lst xs.reverse) (λb o e=>hk b o (cI (Heap.lt_size e)) (kp b o e)) sz ?_,rfl,q _ _ (aH.new nS) nS aG];exact #[sl,acc.toList,c,vs',by simpa using hS]
end
theorem F6 {F G:List iW->Rat} {r:Nat} {g:Nat->Rat} {c:Rat} (hF:∀ws:List iW,F (ws.map λv i=>g i*v i)=c*G ws):∀(post pre:List iW) (s:Rat),yE F r (pre.map λv i=>g i*v i) (post.map λv i=>g i*v i) s=g r*c*yE G r pre post s
 | [],_,_=>by show (0:Rat)=_*0;grind
 | v :: post,pre,s=>by
  have i1:=hF (pre++post);have i2:=F6 (r:=r) hF post (pre++[v]) (-s);simp only[bR,iD,KQ,yE] at i1 i2 ⊢;rw[i1,i2];grind
theorem wO {g:Nat->Rat}:∀(rs:List Nat) (vs:List iW),jB rs (vs.map λv i=>g i*v i)=(rs.map g).foldr (λx y=>x*y) 1*jB rs vs
 | [],[]=>by show (1:Rat)=1*1;grind
 | [],_ :: _=>by show (0:Rat)=1*0;grind
 | r :: rs,vs=>by
  have:=F6 (r:=r) (F:=λws=>jB rs ws) (G:=λws=>jB rs ws) (c:=(rs.map g).foldr (λx y=>x*y) 1) (λws=>wO rs ws) vs [] 1;exact this
theorem DL {g:Nat->Rat}:∀{rs:List Nat},(∀r∈rs,g r≠0)->(rs.map g).foldr (λx y=>x*y) 1≠0
 | [],_=>by show (1:Rat)≠0;decide
 | r :: rs,h=>by
  show g r*_≠0
  have h1:=h r (.head _);have h2:=DL λr' hr'=>h r' (.tail _ hr')
  intro z;rcases AI.mp z with z | z
  ·exact h1 z
  ·exact h2 z
section
variable {rows R X K0:LR9} {due L:List Rat} {n m M W D E W0 W1:Nat} {ps:List Nat}
theorem CQ (hw:∀xs∈rows,xs.9=n) (hW:1<=W) (h0:0 < M) (h3:∀xs∈rows,∀x∈xs,Tp M W x) (RR:bI rows n R ps):∃pm:Nat->Nat,(∀i j,i < ps.9->j < ps.9->pm i=pm j->i=j)/\(∀t,t < ps.9->pm t < rows.9)/\ps.9<=rows.9/\jB (kX pm ps.9) (jm (λj i=>ck rows i (ps.getD j 0)) ps.9)≠0:=by
 have ent:=MB h0 h3;obtain ls|ps2|d|I:=xj hw hW (by rw[af];exact ent) n (ak _);obtain _|_|⟨pm,B⟩|E:=I;rw[af] at B E
 have RF:EU rows.9 n (ck rows) ps2.9 (λj=>ps2.getD j 0) (λi c=>gD ls i c / d):=EU.other (E.done λi hi c hc=>xV (n:=n) (λzs hz=>by
  obtain xs|hx|rfl:=aA.mp hz;rw[sQ];exact hw xs hx) hc) Dg Di
 obtain e1|e2|e3:=RF.uniq RR.2.2 (λ_ hi=>fI.row hi) (λ_ hi=>fI.row hi);have km:=B.km;have dt:=B.det;have d0:=B.d0
 have e4:jB (kX pm ps2.9) ([]++jm (λj r=>gD (rows.map kW) r (ps2.getD j 0)) ps2.9)=jB (kX pm ps2.9) ([]++jm (λj i=>OD rows i*ck rows i (ps.getD j 0)) ps2.9):=Eh [] λj hj r hr=>by
  obtain t|ht|rfl:=nE hr;rw[E4 (B.rng t ()),e2 j hj];rfl
 have e5:jm (λj i=>OD rows i*ck rows i (ps.getD j 0)) ps2.9=(jm (λj i=>ck rows i (ps.getD j 0)) ps2.9).map λv i=>OD rows i*v i:=(cw_map (τ:=λv i=>OD rows i*v i)).symm
 refine #[pm,λi j hi hj e=>B.inj i j () () e,λt ht=>B.rng t (),(),?_];rw[<- e1];intro z;apply d0;rw[dt];have e4:jB (kX pm ps2.9) (jm (λj r=>gD (rows.map kW) r (ps2.getD j 0)) ps2.9)=jB (kX pm ps2.9) (jm (λj i=>OD rows i*ck rows i (ps.getD j 0)) ps2.9):=e4;rw[e4,e5,wO,z,fE]
theorem Q9 (hd:due.9=X.9) (hw:∀xs∈X,xs.9=n) (RR:bI (dD X due) (n+1) R ps) (hn:n∉ps) (hi:i < X.9):due.getD i 0=bD ps.9 λj=>ck R j n*ck X i (ps.getD j 0):=by
 obtain j1|j2:=yw hd hw hi;have sp:=RR.2.2.span i (by rw[pZ hd];exact hi);have:=RR.2.2.coef sp n;rw[<- j2,this];refine aP λj hj=>?_
 have lo:=RR.2.2.low j hj;have ne:ps.getD j 0≠n:=λz=>hn (by rw[<- z];exact getD_in hj)
 rw[j1 _ ()];exact cP _ _
theorem Ke (RR:bI X (n+1) R ps) (hy:y∈ip R ps n):y=0\/∃j,j < ps.9/\y=ck R j n:=by
 obtain c|hc|rfl:=bM hy;have lc:(ip R ps n).9=n:=lE;have e:(ip R ps n)[c]=(ip R ps n).getD c 0:=by rw[aa,ae hc];rfl
 rw[e];by_cases hp:c∈ps
 ·obtain j|hj|ej:=bM hp
  right
  refine #[j,hj,?_];have ej':ps.getD j 0=c:=by rw[aa,ae hj];exact ej
  have:=MS (R:=R) (ps:=ps) (n:=n) (j:=ps.9) (c:=c) ();unfold ip;rw[this,fJ hj λi hi ne=>if_neg λz=>?_,if_pos ej'];rcases cB i j with y | y
  ·have:=RR.2.2.inc i j y hj
   lia
  ·have:=RR.2.2.inc j i () hi
   lia
 ·exact .inl (Pd hp)
theorem Jv (hl:vs.9<=N) (h:∀v∈vs,∀r∈rs,Fr 1 Wx (v r)):∃z:Int,jB rs vs=(z:Rat)/\z.natAbs<=(N*Wx)^rs.9:=by
 have f:=Ay hl h;obtain z|ez:=y8 f;rw[ez] at f;exact #[z,ez,xT f]
theorem O8 (he:ps.9<=n->ps.9<=e) (hK:∀xs∈K0,xs.9=n) (hL:L.9=n) (n15:n<=15) (D0:0 < D) (E0:0 < E) (w0:1<=W0) (w1:1<=W1) (tk:∀xs∈K0,∀x∈xs,Tp D W0 x) (tl:∀x∈L,Tp E W1 x) (RR:bI (dD (cu K0 n) L) (K0.9+1) R ps) (hn:K0.9∉ps) :
  ∃q:Nat,0 < q/\q<=(16*W0)^e/\∀y∈ip R ps K0.9,Tp (E*q) (D*(n*(W1*(16*W0)^e))) y:=by
 have lt:(cu K0 n).9=n:=dC;have wt:∀xs∈cu K0 n,xs.9=K0.9:=jW;have hd:L.9=(cu K0 n).9:=by rw[lt];exact hL
 have tfn:∀i,i < n->∀j,ck (cu K0 n) i j=ck K0 j i:=λi hi j=>by
  unfold ck;rw[aa (l:=cu K0 n),vV hi];show (K0.map λxs=>xs.getD i 0).getD j 0=_
  rw[aa,aD,aa (l:=K0)];cases K0[j]? with
  | none=>show (0:Rat)=([]:List Rat).getD i 0;rw[aa];rfl
  | some xs=>rfl
 have tkf:∀j i,Tp D W0 (ck K0 j i):=λj i=>by
  unfold ck;rw[aa (l:=K0)];by_cases hj:j < K0.9
  ·rw[ae hj];exact kb (tk _ (aM hj)) i
  ·rw[aQ ()];show Tp D W0 (([]:List Rat).getD i 0)
   exact kb (by intro x z;cases z) i
 have tlf:∀i,Tp E W1 (L.getD i 0):=λi=>kb tl i
 have tj:∀xs∈dD (cu K0 n) L,∀x∈xs,Tp (D*E) (W0*E+W1*D) x:=y9 λi hi c=>by
  rw[pZ hd,lt] at hi;obtain j1|j2:=yw hd wt (by rw[lt];exact hi);by_cases hc:c < K0.9
  ·rw[j1 c hc,tfn i hi];obtain z|ee|b:=tkf c i;exact #[z*E,by rw[fP,aY,<- ee,aW];grind,by rw[dH,cJ];exact ag (ax _ b) (yB _ _)]
  ·by_cases hc2:c=K0.9
   ·rw[hc2,j2];obtain z|ee|b:=tlf i;exact #[z*D,by rw[fP,aY,<- ee,aW];grind,by rw[dH,cJ];exact ag (ax _ b) (Nat.le_add_left _ _)]
   ·rw[xU (wK wt) ()];exact #[0,by rw[jM];rfl,br _]
 obtain pm|pinj|plt|kn|dne:=CQ (wK wt) (W:=W0*E+W1*D) (ag (bQ w0 E0) (yB _ _)) (bQ D0 E0) tj RR;rw[pZ hd,lt] at plt kn
 have pl:∀j,j < ps.9->ps.getD j 0 < K0.9:=λj hj=>by
  have lo:=RR.2.2.low j hj;have ne:ps.getD j 0≠K0.9:=λz=>hn (by rw[<- z];exact getD_in hj)
  lia
 have Dne:(D:Rat)≠0:=λz=>by
  have:((D:Int):Rat)=0:=by rw[aW];exact z
  have:=qE this
  lia
 have Ene:(E:Rat)≠0:=λz=>by
  have:((E:Int):Rat)=0:=by rw[aW];exact z
  have:=qE this
  lia
 have rlt:∀r∈kX pm ps.9,r < n:=λr hr=>by
  obtain t|ht|rfl:=nE hr;exact plt t ht
 obtain ⟨v,ev⟩:∃v:Nat->iW,v=λj i=>(D:Rat)*ck K0 (ps.getD j 0) i:=#[_,rfl]
 have vint:∀j r,Fr 1 W0 (v j r):=λj r=>by
  obtain z|ee|b:=tkf (ps.getD j 0) r;rw[ev];show Fr 1 W0 ((D:Rat)*_)
  rw[cP,ee];exact Fr.int b
 have den:jB (kX pm ps.9) (jm v ps.9)≠0:=by
  have e1:jB (kX pm ps.9) ([]++jm v ps.9)=jB (kX pm ps.9) ([]++jm (λj i=>(D:Rat)*ck (dD (cu K0 n) L) i (ps.getD j 0)) ps.9):=Eh [] λj hj r hr=>by
   have hr:=rlt r hr;obtain j1|_:=yw hd wt (i:=r) (by rw[lt];exact hr);rw[j1 _ (pl j hj),tfn r hr,ev]
  have e2:jm (λj i=>(D:Rat)*ck (dD (cu K0 n) L) i (ps.getD j 0)) ps.9=(jm (λj i=>ck (dD (cu K0 n) L) i (ps.getD j 0)) ps.9).map λv i=>(λ_=>(D:Rat)) i*v i:=(cw_map (τ:=λv i=>(D:Rat)*v i)).symm
  have e1:jB (kX pm ps.9) (jm v ps.9)=jB (kX pm ps.9) (jm (λj i=>(D:Rat)*ck (dD (cu K0 n) L) i (ps.getD j 0)) ps.9):=e1;rw[e1,e2,wO];intro z;rcases AI.mp z with z | z
  ·exact DL (g:=λ_=>(D:Rat)) (λ_ _=>Dne) z
  ·exact dne z
 obtain q|eq|bq:=Jv (N:=16) (Wx:=W0) (rs:=kX pm ps.9) (vs:=jm v ps.9) (by rw[cw_len];lia) λw hw r _=>by
  obtain t|_|rfl:=cw_in hw;exact vint t r
 rw[rk] at bq;have up:(16*W0)^ps.9<=(16*W0)^e:=ai () (he kn);have q0:q≠0:=λz=>den (by rw[eq,z];rfl)
 refine #[q.natAbs,(),ag bq up,λy hy=>?_];rcases Ke RR hy with rfl | ⟨i,hi,rfl⟩
 ·exact #[0,by rw[jM];rfl,br _]
 ·have hW:∀r∈kX pm ps.9,(E:Rat)*L.getD r 0=bD ps.9 λj=>((E:Rat)*ck R j K0.9 / D)*v j r:=λr hr=>by
   have hr:=rlt r hr;rw[Q9 hd wt RR hn (i:=r) (by rw[lt];exact hr),<- cL];refine aP λj hj=>?_
   rw[tfn r hr,ev]
   dsimp only
   grind
  have cr:=uX (v:=v) (c:=λj=>(E:Rat)*ck R j K0.9 / D) (W:=λr=>(E:Rat)*L.getD r 0) hi hW
  have ex:jB (kX pm ps.9) (Ik v i ps.9++(λr=>(E:Rat)*L.getD r 0) :: jm v i)=bD ps.9 λt=>((E:Rat)*L.getD (pm t) 0)*jB (kX pm ps.9) (Ik v i ps.9++(λr=>if r=pm t then 1 else 0) :: jm v i):=Ef (W:=λ_=>0) (v:=λt r=>if r=pm t then 1 else 0) (c:=λt=>(E:Rat)*L.getD (pm t) 0) _ _ (λr hr=>by
   obtain t|ht|rfl:=nE hr;rw[fJ ht λj hj ne=>by rw[if_neg λz=>ne (pinj j t hj ht z.symm),fE],if_pos rfl,C8])
  have hlen:∀x:iW,(Ik v i ps.9++x :: jm v i).9<=16:=λx=>by
   have:=congrArg List.length (cw_split (v:=v) hi);rw[ar,bx,cw_len] at this;rw[ar,bx]
   lia
  have nf:Fr 1 (n*(W1*(16*W0)^e)) (jB (kX pm ps.9) (Ik v i ps.9++(λr=>(E:Rat)*L.getD r 0) :: jm v i)):=by
   rw[ex];refine (Ob (V:=W1*(16*W0)^e) λt ht=>?_).mono (ax _ kn);obtain z|ee|b:=tlf (pm t)
   have f1:Fr 1 W1 ((E:Rat)*L.getD (pm t) 0):=by
    rw[cP,ee];exact Fr.int b
   have f2:=Ay (W:=W0) (N:=16) (rs:=kX pm ps.9) (hlen λr=>if r=pm t then 1 else 0) λw hw r _=>by
    rcases ay.mp hw with hw | hw
    ·obtain s|_|rfl:=CO hw;exact vint s r
    ·rcases aI.mp hw with rfl | hw
     ·dsimp only
      split
      ·exact Fr.one w0
      ·exact Fr.zero
     ·obtain s|_|rfl:=cw_in hw;exact vint s r
   rw[rk] at f2;have:=f1.mul f2;rw[xa] at this;exact this.mono (aO _ up)
  obtain z|ez:=y8 nf;rw[ez] at nf cr;have bz:=xT nf;rw[eq] at cr
  have key:ck R i K0.9*((E:Rat)*(q:Rat))=(D:Rat)*(z:Rat):=by
   rw[cr];grind
  have kq:(((E*q.natAbs:Nat):Rat))=(E:Rat)*((q.natAbs:Nat):Rat):=fP ..;rcases Ij q with h | h
  ·have hq:((q.natAbs:Nat):Rat)=(q:Rat):=by rw[<- aW,<- h]
   refine #[D*z,?_,by rw[dH,cJ];exact aO _ bz];rw[kq,hq,key,aY,aW]
  ·have hq:((q.natAbs:Nat):Rat)=-(q:Rat):=by rw[<- aW,<- dE];congr 1;lia
   refine #[-(D*z),?_,by rw[lh,dH,cJ];exact aO _ bz];rw[kq,hq,dE,aY,aW,<- key];grind
theorem Sg (hK:∀xs∈K0,xs.9=n) (hL:L.9=n) (n15:n<=15) (D0:0 < D) (E0:0 < E) (w0:1<=W0) (w1:1<=W1) (tk:∀xs∈K0,∀x∈xs,Tp D W0 x) (tl:∀x∈L,Tp E W1 x) (RR:bI (dD (cu K0 n) L) (K0.9+1) R ps) (hn:K0.9∉ps) :
  ∃q:Nat,0 < q/\q<=(16*W0)^n/\∀y∈ip R ps K0.9,Tp (E*q) (D*(n*(W1*(16*W0)^n))) y :=
 O8 (λh=>h) hK hL n15 D0 E0 w0 w1 tk tl RR hn
theorem M7 {pm w:Nat->Nat} {X Y s:Nat} (hX:1<=X) (hY:1<=Y) (h1:∀r,r≠s->w r<=X) (h2:w s<=Y):∀k,(∀i j,i < k->j < k->pm i=pm j->i=j)->((∃t,t < k/\pm t=s)->((kX pm k).map w).foldr (λx y=>x*y) 1<=X^k*Y)/\((∀t,t < k->pm t≠s)->((kX pm k).map w).foldr (λx y=>x*y) 1<=X^k)
 | 0,_=>#[λ#[t,h,_]=>absurd h (dP _),λ_=>ak _]
 | k+1,inj=>by
  obtain i1|i2:=M7 (pm:=pm) (w:=w) hX hY h1 h2 k λi j hi hj=>inj i j () ()
  have mul:((kX pm (k+1)).map w).foldr (λx y=>x*y) 1=w (pm k)*((kX pm k).map w).foldr (λx y=>x*y) 1:=rfl;refine #[λ#[t,ht,et]=>?_,λh=>?_]
  ·rw[mul];by_cases e:pm k=s
   ·have:=i2 λt' ht' z=>by
     have:=inj t' k () () (z.trans e.symm)
     lia
    rw[e]
    calc w s*_<=Y*X^k:=aL h2 this
     _=X^k*Y:=cv _ _
     _<=X^(k+1)*Y:=ax _ (ai hX (kY _))
   ·have:=i1 #[t,by rcases cB t k with z | z;exact z;exact absurd (by rw[show k=t by lia];exact et) e,et]
    calc w (pm k)*_<=X*(X^k*Y):=aL (h1 _ e) this
     _=X^(k+1)*Y:=by rw[eF,<- dm,cv X]
  ·rw[mul,eF,cv (X^k)];exact aL (h1 _ (h k ())) (i2 λt ht=>h t ())
theorem Po {X Y s:Nat} (hX:1<=X) (hY:1<=Y) (h1:∀r,r≠s->w r<=X) (h2:w s<=Y) (hk:k<=n) (inj:∀i j,i < k->j < k->pm i=pm j->i=j):((kX pm k).map w).foldr (λx y=>x*y) 1<=X^n*Y:=by
 obtain a|b:=M7 (pm:=pm) (w:=w) hX hY h1 h2 k inj;have up:X^k<=X^n:=ai hX hk;by_cases e:∃t,t < k/\pm t=s
 ·exact ag (a e) (ax _ up)
 ·exact ag (b λt ht z=>e #[t,ht,z]) (ag up (cN _ hY))
theorem Le (he:ps.9<=n->ps.9<=K0.9+1->ps.9<=e) (hK:∀xs∈K0,xs.9=n) (hL:L.9=n) (n15:n<=15) (D0:0 < D) (E0:0 < E) (w0:1<=W0) (tk:∀xs∈K0,∀x∈xs,Tp D W0 x) (tl:∀x∈L,Tp E W1 x) (RR:bI (dD (K0++[L]) (List.replicate K0.9 0++[1])) (n+1) R ps) (hn:n∉ps) :
  ∃q:Nat,0 < q/\q<=(16*W0)^e*(16*(W1+E))/\∀y∈ip R ps n,Tp q ((16*W0)^e*(16*(W1+E))) y:=by
 have hw:∀xs∈K0++[L],xs.9=n:=λxs hx=>by
  rcases ay.mp hx with hx | hx
  ·exact hK xs hx
  ·rw[aS.mp hx];exact hL
 have hd:(List.replicate K0.9 (0:Rat)++[1]).9=(K0++[L]).9:=by simp
 have lX:(K0++[L]).9=K0.9+1:=by simp
 have due:∀i,i < K0.9+1->(List.replicate K0.9 (0:Rat)++[1]).getD i 0=if i=K0.9 then 1 else 0:=λi hi=>by
  rw[aa];by_cases ee:i=K0.9
  ·rw[bc (by simp;lia),if_pos ee];simp [ee]
  ·rw[bG (by simp;lia),if_neg ee,dG,if_pos ()];rfl
 have tX:∀i c,Tp (if i=K0.9 then E else D) (if i=K0.9 then W1 else W0) (ck (K0++[L]) i c):=λi c=>by
  by_cases ee:i=K0.9
  ·rw[if_pos ee,if_pos ee,ee];have:=OF (X:=K0) (Y:=[L]) (i:=0);rw[Nat.add_zero] at this;rw[this];exact kb tl c
  ·rw[if_neg ee,if_neg ee];by_cases h:i < K0.9
   ·rw[LR h];unfold ck;rw[aa (l:=K0),ae h];exact kb (tk _ (aM h)) c
   ·unfold ck;rw[aa (l:=K0++[L]),aQ (by rw[lX];lia)];exact kb (by intro x z;cases z) c
 have tj:∀xs∈dD (K0++[L]) (List.replicate K0.9 0++[1]),∀x∈xs,Tp (D*E) (W0*E+W1*D+D*E) x:=y9 λi hi c=>by
  rw[pZ hd] at hi;obtain j1|j2:=yw hd hw hi;by_cases hc:c < n
  ·rw[j1 c hc];obtain z|ee|b:=tX i c;by_cases h:i=K0.9
   ·rw[if_pos h] at ee b;exact #[z*D,by rw[fP,aY,<- ee,aW];grind,by rw[dH,cJ];have:=ax D b;lia]
   ·rw[if_neg h] at ee b;exact #[z*E,by rw[fP,aY,<- ee,aW];grind,by rw[dH,cJ];have:=ax E b;lia]
  ·by_cases hc2:c=n
   ·rw[hc2,j2,due i ()]
    split
    ·exact #[(D*E:Nat),by rw[OM,aW],by rw[cJ];lia]
    ·exact #[0,by rw[jM];rfl,br _]
   ·rw[xU (wK hw) ()];exact #[0,by rw[jM];rfl,br _]
 obtain pm|pinj|plt|kn1|dne:=CQ (wK hw) (W:=W0*E+W1*D+D*E) (by have:=bQ D0 E0;lia) (bQ D0 E0) tj RR;rw[pZ hd,lX] at plt kn1
 have pl:∀j,j < ps.9->ps.getD j 0 < n:=λj hj=>by
  have lo:=RR.2.2.low j hj;have ne:ps.getD j 0≠n:=λz=>hn (by rw[<- z];exact getD_in hj)
  lia
 have kn:ps.9<=n:=by
  have inc:∀j,j < ps.9->j<=ps.getD j 0:=by
   intro j
   induction j with
   | zero=>intro _;exact br _
   | succ j ih =>
    intro hj;have:=ih ();have:=RR.2.2.inc j (j+1) () hj
    lia
  rcases iI ps.9 with z | z
  ·lia
  ·have:=inc (ps.9 - 1) ();have:=pl (ps.9 - 1) ()
   lia
 obtain ⟨g,eg⟩:∃g:Nat->Rat,g=λi=>((if i=K0.9 then E else D:Nat):Rat):=#[_,rfl]
 have gne:∀i,g i≠0:=λi z=>by
  rw[eg] at z;have z:(((if i=K0.9 then E else D:Nat):Int):Rat)=0:=by rw[aW];exact z
  have:=qE z
  split at this <;> lia
 have rlt:∀r∈kX pm ps.9,r < K0.9+1:=λr hr=>by
  obtain t|ht|rfl:=nE hr;exact plt t ht
 obtain ⟨v,ev⟩:∃v:Nat->iW,v=λj i=>g i*ck (K0++[L]) i (ps.getD j 0):=#[_,rfl]
 obtain ⟨wt,ew⟩:∃wt:Nat->Nat,wt=λi=>if i=K0.9 then W1+E else W0:=#[_,rfl]
 have vint:∀j r,Fr 1 (wt r) (v j r):=λj r=>by
  obtain z|ee|b:=tX r (ps.getD j 0);rw[ev,eg,ew];show Fr 1 _ (_*_)
  rw[cP,ee];refine (Fr.int b).mono ?_
  dsimp only
  split <;> lia
 have bnd:∀{vs:List iW},vs.9<=16->(∀w∈vs,∀r∈kX pm ps.9,Fr 1 (wt r) (w r))->∃z:Int,jB (kX pm ps.9) vs=(z:Rat)/\z.natAbs<=(16*W0)^e*(16*(W1+E)):=λ{vs} hl h=>by
  have f:=Oj hl h;obtain z|ez:=y8 f;rw[ez] at f;refine #[z,ez,ag (xT f) (Po (s:=K0.9) () () (λr hr=>?_) ?_ (he kn kn1) pinj)]
  ·rw[ew];dsimp only;rw[if_neg hr];exact ak _
  ·rw[ew];dsimp only;rw[if_pos rfl];exact ak _
 have den:jB (kX pm ps.9) (jm v ps.9)≠0:=by
  have e1:jB (kX pm ps.9) ([]++jm v ps.9)=jB (kX pm ps.9) ([]++jm (λj i=>g i*ck (dD (K0++[L]) (List.replicate K0.9 0++[1])) i (ps.getD j 0)) ps.9):=Eh [] λj hj r hr=>by
   have hr:=rlt r hr;obtain j1|_:=yw hd hw (i:=r) (by rw[lX];exact hr);rw[j1 _ (pl j hj),ev]
  have e2:jm (λj i=>g i*ck (dD (K0++[L]) (List.replicate K0.9 0++[1])) i (ps.getD j 0)) ps.9=(jm (λj i=>ck (dD (K0++[L]) (List.replicate K0.9 0++[1])) i (ps.getD j 0)) ps.9).map λv i=>g i*v i:=(cw_map (τ:=λv i=>g i*v i)).symm
  have e1:jB (kX pm ps.9) (jm v ps.9)=jB (kX pm ps.9) (jm (λj i=>g i*ck (dD (K0++[L]) (List.replicate K0.9 0++[1])) i (ps.getD j 0)) ps.9):=e1;rw[e1,e2,wO];intro z;rcases AI.mp z with z | z
  ·exact DL (λr _=>gne r) z
  ·exact dne z
 obtain q|eq|bq:=bnd (vs:=jm v ps.9) (by rw[cw_len];lia) λw hw r _=>by
  obtain t|_|rfl:=cw_in hw;exact vint t r
 have q0:q≠0:=λz=>den (by rw[eq,z];rfl)
 refine #[q.natAbs,(),bq,λy hy=>?_];rcases Ke RR hy with rfl | ⟨i,hi,rfl⟩
 ·exact #[0,by rw[jM];rfl,br _]
 ·have hW:∀r∈kX pm ps.9,g r*(if r=K0.9 then 1 else 0)=bD ps.9 λj=>ck R j n*v j r:=λr hr=>by
   have hr:=rlt r hr;rw[<- due r hr,Q9 hd hw RR hn (i:=r) (by rw[lX];exact hr),<- cL];refine aP λj hj=>?_
   rw[ev]
   dsimp only
   grind
  have cr:=uX (v:=v) (c:=λj=>ck R j n) (W:=λr=>g r*(if r=K0.9 then 1 else 0)) hi hW
  obtain z|ez|bz:=bnd (vs:=Ik v i ps.9++(λr=>g r*(if r=K0.9 then 1 else 0)) :: jm v i) (by
   have:=congrArg List.length (cw_split (v:=v) hi);rw[ar,bx,cw_len] at this;rw[ar,bx]
   lia) λw hw r _=>by
    rcases ay.mp hw with hw | hw
    ·obtain s|_|rfl:=CO hw;exact vint s r
    ·rcases aI.mp hw with rfl | hw
     ·dsimp only
      by_cases ee:r=K0.9
      ·rw[if_pos ee,C8,eg,ew]
       dsimp only
       rw[if_pos ee,if_pos ee,<- aW];exact Fr.int (by rw[cJ];lia)
      ·rw[if_neg ee,fE];exact Fr.zero
     ·obtain s|_|rfl:=cw_in hw;exact vint s r
  rw[ez,eq] at cr;have key:ck R i n*(q:Rat)=(z:Rat):=cr.symm;rcases Ij q with h | h
  ·have hq:((q.natAbs:Nat):Rat)=(q:Rat):=by rw[<- aW,<- h]
   exact #[z,by rw[hq,key],bz]
  ·have hq:((q.natAbs:Nat):Rat)=-(q:Rat):=by rw[<- aW,<- dE];congr 1;lia
   exact #[-z,by rw[hq,dE,<- key];grind,by rw[lh];exact bz]
theorem Nn (hK:∀xs∈K0,xs.9=n) (hL:L.9=n) (n15:n<=15) (D0:0 < D) (E0:0 < E) (w0:1<=W0) (tk:∀xs∈K0,∀x∈xs,Tp D W0 x) (tl:∀x∈L,Tp E W1 x) (RR:bI (dD (K0++[L]) (List.replicate K0.9 0++[1])) (n+1) R ps) (hn:n∉ps) :
  ∃q:Nat,0 < q/\q<=(16*W0)^n*(16*(W1+E))/\∀y∈ip R ps n,Tp q ((16*W0)^n*(16*(W1+E))) y :=
 Le (λh _=>h) hK hL n15 D0 E0 w0 tk tl RR hn
end
def oR (mv:LR9):Nat->List Rat->List Rat
 | 0,x=>x
 | t+1,x=>sG mv (oR mv t x)
section
variable {mv pt lk pus:LR9} {st pu go:List Rat} {n t T c:Nat}
theorem uN (h:st.9=mv.9):∀t,(oR mv t st).9=mv.9
 | 0=>h
 | _+1=>vP
theorem Av {x y:List Rat} (h:x.9=y.9) (e:∀c,c < x.9->x.getD c 0=y.getD c 0):x=y:=by
 apply eG h;intro c h1 h2;have:=e c h1;rwa [aa,aa,ae h1,ae h2] at this
theorem Ro (wm:∀xs∈mv,xs.9=mv.9) (h:st.9=mv.9) (hc:c < mv.9):(sG mv st).getD c 0=bD mv.9 λj=>ck mv c j*st.getD j 0:=by
 have e:(sG mv st).getD c 0=cA mv[c] st:=by
  unfold sG;rw[aa,aD,ae hc];rfl
 have wc:=wm _ (aM hc);rw[e,dR (),wc];refine aP λj _=>?_
 unfold ck;rw[aa (l:=mv),ae hc];rfl
theorem NI (D:fv mv pt lk) (h:st.9=mv.9) (hp:pu.9=pt.9) (hc:c < mv.9):(iV mv pt st pu).getD c 0=bD mv.9 (λj=>ck mv c j*st.getD j 0)+bD pt.9 λi=>pu.getD i 0*ck pt i c:=by
 have wc:=D.mw _ (aM hc)
 have e:(iV mv pt st pu).getD c 0=cA (mv[c]++pt.map λxs=>xs.getD c 0) (st++pu):=by
  unfold iV;rw[aa,cR,ae hc,vV hc];rfl
 rw[e,kO (),dR (),dR (by rw[af];lia),wc,af];congr 1
 ·refine aP λj _=>?_
  unfold ck;rw[aa (l:=mv),ae hc];rfl
 ·refine aP λi hi=>?_
  rw[cP];congr 1;unfold ck;rw[aa,aD,aa (l:=pt),ae hi];rfl
theorem yZ:∀t,(kry mv pt t).9=t*pt.9
 | 0=>by rw[Nat.zero_mul];rfl
 | t+1=>by
  show (pt++(kry mv pt t).map (sG mv)).9=_
  rw[ar,af,yZ t,eD,jN]
theorem J6 (D:fv mv pt lk) (ls:st.9=mv.9):∀k,k<=pus.9->(∀xs∈pus,xs.9=pt.9)->∀c,c < mv.9->(qJ mv pt st pus k).getD c 0=(oR mv k st).getD c 0+bD (kry mv pt k).9 λi=>((pus.take k).reverse.flatten).getD i 0*ck (kry mv pt k) i c:=by
 intro k
 induction k with
 | zero =>
  intro _ _ c _;show st.getD c 0=st.getD c 0+0
  grind
 | succ k ih =>
  intro hk hp c hc;have hk':k < pus.9:=hk;have e:=ae hk';have hl:=hp _ (aM hk');have ls':=qM (pt:=pt) (pus:=pus) ls (k:=k) ()
  have lf:((pus.take k).reverse.flatten).9=(kry mv pt k).9:=by
   rw[yZ,Gj (i:=pt.9) λxs hx=>hp xs (cH (eY.mp hx)),dS,bY,j6 ()]
  rw[sT e,NI D ls' hl hc]
  have er:(pus.take (k+1)).reverse.flatten=pus[k]++(pus.take k).reverse.flatten:=by
   rw[take_snoc e,List.reverse_append];simp
  have ek:kry mv pt (k+1)=pt++(kry mv pt k).map (sG mv):=rfl;rw[er,ek,ar,af,xl]
  have p1:(bD pt.9 λi=>(pus[k]++(pus.take k).reverse.flatten).getD i 0*ck (pt++(kry mv pt k).map (sG mv)) i c)=bD pt.9 λi=>pus[k].getD i 0*ck pt i c:=aP λi hi=>by
   rw[LR hi,aa,bG (),aa]
  have p2:(bD (kry mv pt k).9 λi=>(pus[k]++(pus.take k).reverse.flatten).getD (pt.9+i) 0*ck (pt++(kry mv pt k).map (sG mv)) (pt.9+i) c)=bD mv.9 λj=>ck mv c j*bD (kry mv pt k).9 λi=>((pus.take k).reverse.flatten).getD i 0*ck (kry mv pt k) i j:=by
   have q1:∀i,i < (kry mv pt k).9->(pus[k]++(pus.take k).reverse.flatten).getD (pt.9+i) 0*ck (pt++(kry mv pt k).map (sG mv)) (pt.9+i) c=bD mv.9 λj=>ck mv c j*(((pus.take k).reverse.flatten).getD i 0*ck (kry mv pt k) i j):=λi hi=>by
    rw[OF,Kj rfl D.mw (iB rfl D.pw k) hi,aa,bc (),hl,Vu,<- aa,<- cL];exact aP λj _=>by grind
   rw[aP q1,eU];exact aP λj _=>cL
  rw[p1,p2];have p3:(oR mv (k+1) st).getD c 0=bD mv.9 λj=>ck mv c j*(oR mv k st).getD j 0:=Ro D.mw (uN ls k) hc
  rw[p3]
  have p4:(bD mv.9 λj=>ck mv c j*(qJ mv pt st pus k).getD j 0)=(bD mv.9 λj=>ck mv c j*(oR mv k st).getD j 0)+bD mv.9 λj=>ck mv c j*bD (kry mv pt k).9 λi=>((pus.take k).reverse.flatten).getD i 0*ck (kry mv pt k) i j:=by
   rw[<- oA];refine aP λj hj=>?_
   rw[ih () hp j hj];grind
  rw[p4];grind
end
section
variable {mv pt lk pus R:LR9} {st pu go w pr L:List Rat} {n t T c u k:Nat} {ps:List Nat}
theorem Iw (D:fv mv pt lk) (ls:st.9=mv.9):qJ mv pt st (List.replicate T (List.replicate pt.9 0)) T=oR mv T st:=by
 have l1:=qM (pt:=pt) (pus:=List.replicate T (List.replicate pt.9 0)) ls (k:=T) (by rw[aJ];exact ak _);refine Av (by rw[l1,uN ls]) λc hc=>?_
 rw[l1] at hc;rw[J6 D ls T (by rw[aJ];exact ak _) (λxs hx=>by rw[(du.mp hx).2,aJ]) c hc,dh λi _=>?_,mJ]
 have z:(((List.replicate T (List.replicate pt.9 (0:Rat))).take T).reverse.flatten).getD i 0=0:=by
  rw[aa];cases e:(((List.replicate T (List.replicate pt.9 (0:Rat))).take T).reverse.flatten)[i]? with
  | none=>rfl
  | some y =>
   have:=av e;obtain l|hl|hy:=jz.mp this;have hl:=cH (eY.mp hl);rw[(du.mp hl).2] at hy;exact (du.mp hy).2
 rw[z,jM]
def i5 (mv:LR9) (T:Nat) (st go:List Rat):List Rat:=List.zipWith (λx y=>x - y) go (oR mv T st)
theorem NQ (ls:st.9=mv.9) (lg:go.9=mv.9):(i5 mv T st go).9=mv.9:=by
 unfold i5;rw[cV,uN ls,lg,KP]
theorem Ms {x y:List Rat} (h:x.9=y.9) (hc:c < x.9):(List.zipWith (λx y=>x - y) x y).getD c 0=x.getD c 0 - y.getD c 0:=by
 rw[aa,cR,aa (l:=x),aa (l:=y),ae hc,ae ()];rfl
theorem Kr:∀u,∃Z,kry mv pt (u+1)=kry mv pt u++Z
 | 0=>#[pt++[],rfl]
 | u+1=>by
  obtain Z|e:=Kr u;refine #[Z.map (sG mv),?_];show pt++(kry mv pt (u+1)).map (sG mv)=(pt++(kry mv pt u).map (sG mv))++_
  rw[e,bR,dc]
theorem Ge {u:Nat}:∀s,∃Z,kry mv pt (u+s)=kry mv pt u++Z
 | 0=>#[[],by rw[oo];rfl]
 | s+1=>by
  obtain Z|e:=Ge (u:=u) s;obtain Y|e':=Kr (mv:=mv) (pt:=pt) (u+s);exact #[Z++Y,by rw[<- Nat.add_assoc,e',e,dc]]
def yK (w:List Rat) (u k:Nat):LR9:=(List.range u).map λt=>(w.drop (t*k)).take k
theorem Hq:∀{u:Nat} {w:List Rat},w.9=u*k->(yK w u k).flatten=w
 | 0,w,h=>by
  rw[Nat.zero_mul] at h;rw[List.length_eq_zero_iff.mp h];rfl
 | u+1,w,h=>by
  have e:yK w (u+1) k=yK (w.take (u*k)) u k++[w.drop (u*k)]:=by
   unfold yK;rw[sN,bR];congr 1
   ·refine ib λt ht=>?_
    have ht:=kZ.mp ht;have:t*k+k<=u*k:=by rw[<- eD];exact ax _ ht
    rw[List.drop_take,List.take_take,j6 ()]
   ·show [(w.drop (u*k)).take k]=_
    rw[aF (by rw[mM,h,eD];lia)]
  rw[e,nh,Hq (by rw[bY,h,eD];lia)];simp
theorem Vh (h:w.9=u*k):∀xs∈yK w u k,xs.9=k:=λxs hx=>by
 obtain t|ht|rfl:=aA.mp hx;have ht:=kZ.mp ht;have:t*k+k<=u*k:=by rw[<- eD];exact ax _ ht
 rw[bY,mM]
 lia
theorem OA (hx:xs∈yK w u k) (hx':x∈xs):x∈w:=by
 obtain t|_|rfl:=aA.mp hx;exact Dc (cH hx')
def zZ (w:List Rat) (T u k:Nat):LR9:=List.replicate (T - u) (List.replicate k 0)++(yK w u k).reverse
theorem Kg (hu:u<=T):(zZ w T u k).9=T:=by
 unfold zZ yK;rw[ar,aJ,dS,af,cz]
 lia
theorem Rm (h:w.9=u*k):∀xs∈zZ w T u k,xs.9=k:=λxs hx=>by
 rcases ay.mp hx with hx | hx
 ·rw[(du.mp hx).2,aJ]
 ·exact Vh h xs (eY.mp hx)
theorem P8 {P:Rat->Prop} (h0:P 0) (h:∀x∈w,P x):∀xs∈zZ w T u k,∀x∈xs,P x:=λxs hx x hx'=>by
 rcases ay.mp hx with hx | hx
 ·rw[(du.mp hx).2] at hx';rw[(du.mp hx').2];exact h0
 ·exact h x (OA (eY.mp hx) hx')
theorem Na:(List.replicate T (List.replicate k (0:Rat))).flatten=List.replicate (T*k) 0:=by
 rw[List.flatten_replicate_replicate]
theorem JF (D:fv mv pt lk) (ls:st.9=mv.9) (lg:go.9=mv.9) (hu:u<=T) (hw:w.9=(kry mv pt u).9) (e:AN (kry mv pt u) w mv.9=i5 mv T st go):qJ mv pt st (zZ w T u pt.9) T=go:=by
 have hw':w.9=u*pt.9:=by rw[hw,yZ]
 have lp:=Kg (w:=w) (k:=pt.9) hu;have l1:=qM (pt:=pt) (pus:=zZ w T u pt.9) ls (k:=T) ();refine Av (by rw[l1,lg]) λc hc=>?_
 rw[l1] at hc;rw[J6 D ls T () (Rm hw') c hc,aF ()]
 have er:(zZ w T u pt.9).reverse.flatten=w++List.replicate ((T - u)*pt.9) 0:=by
  unfold zZ;rw[List.reverse_append,List.reverse_reverse,nh,Hq hw',List.reverse_replicate,Na]
 obtain Z|eZ:=Ge (mv:=mv) (pt:=pt) (u:=u) (T - u);rw[show u+(T - u)=T by lia] at eZ;rw[er,eZ,ar,xl]
 have p1:(bD (kry mv pt u).9 λi=>(w++List.replicate ((T - u)*pt.9) 0).getD i 0*ck (kry mv pt u++Z) i c)=(i5 mv T st go).getD c 0:=by
  rw[<- e,yQ hc,hw];exact aP λi hi=>by rw[LR hi,aa,bG (),aa]
 have p2:(bD Z.9 λi=>(w++List.replicate ((T - u)*pt.9) 0).getD ((kry mv pt u).9+i) 0*ck (kry mv pt u++Z) ((kry mv pt u).9+i) c)=0:=dh λi _=>by
  have z:(w++List.replicate ((T - u)*pt.9) (0:Rat)).getD ((kry mv pt u).9+i) 0=0:=by
   rw[aa,bc (),dG]
   split <;> rfl
  rw[z,jM]
 rw[p1,p2,mJ];unfold i5;rw[Ms (by rw[lg,uN ls]) ()];grind
theorem Lh (wp:∀xs∈pt,xs.9=mv.9) (RRu:bI (kry mv pt u) mv.9 R ps) (RRT:bI (kry mv pt T) mv.9 R ps') (lp:pr.9=mv.9) (h:∀xs∈kry mv pt u,cA xs pr=0):∀xs∈kry mv pt T,cA xs pr=0:=λxs hx=>by
 have wu:=iB (mv:=mv) rfl wp u;have wT:=iB (mv:=mv) rfl wp T;obtain i|hi|rfl:=bM hx;have s1:fI (kry mv pt u).9 (ck (kry mv pt u)) (ck (kry mv pt T) i):=fI.trans (λt ht=>RRu.2.2.back t (by rw[<- RRu.1,RRT.1];exact ht)) (RRT.2.2.span i hi);obtain v|hv:=s1
 have fn:∀{X:LR9} {i:Nat} (h:i < X.9) (c:Nat),X[i].getD c 0=ck X i c:=λ{X i} h c=>by
  unfold ck;rw[aa (l:=X),ae h];rfl
 have w1:=wT _ (aM hi);rw[dR (),w1]
 have e1:(bD mv.9 λc=>(kry mv pt T)[i].getD c 0*pr.getD c 0)=bD (kry mv pt u).9 λt=>v t*bD mv.9 λc=>ck (kry mv pt u) t c*pr.getD c 0:=by
  have q:∀c,c < mv.9->(kry mv pt T)[i].getD c 0*pr.getD c 0=bD (kry mv pt u).9 λt=>v t*(ck (kry mv pt u) t c*pr.getD c 0):=λc _=>by
   rw[fn hi c,hv c,cP,<- cL];exact aP λt _=>by grind
  rw[aP q,eU];exact aP λt _=>cL
 rw[e1];refine dh λt ht=>?_
 have w2:=wu _ (aM ht);have:=h _ (aM ht);rw[dR (),w2] at this
 have q:(bD mv.9 λc=>ck (kry mv pt u) t c*pr.getD c 0)=0:=by
  refine Eq.trans ?_ this;exact aP λc _=>by rw[fn ht c]
 rw[q,fE]
end
def A9 (l:Addr):Hp:=λq=>if q=l then some (.lst []) else none
theorem off_ne:A9 l l≠none:=by unfold A9;rw[if_pos rfl];exact λz=>nomatch z
theorem Nz (h:q≠l):A9 l q=none:=by unfold A9;rw[if_neg h]
def Mj (K:FG9) (l:Addr) (H:Hp) (R:LR9) (v:V):Prop:=∃q,v=V.ref q/\q≠l/\bp K (A9 l) H q R
section
variable {K:FG9} {H0 H H':Hp} {l p q:Addr} {R:LR9} {v:V} {mv pt:LR9} {u T:Nat}
theorem bp.off (h:bp K H0 H p R) (hl:H l=none):p≠l/\bp K (A9 l) H p R:=by
 obtain xs|g|r|n:=h;refine #[λz=>(by rw[z,hl] at g;cases g),xs,g,Paired.imp' (λ_ _ #[q,a,b,c]=>#[q,a,Nz λz=>?_,c]) r,n];obtain _|gg|_:=c;rw[z,hl] at gg;cases gg
theorem Mj.same (h:Mj K l H R v) (s:aH H H'):Mj K l H' R v:=by obtain q|a|b|c:=h;exact #[q,a,b,c.same s]
theorem Mj.upd {ys zs:List V} (h:Mj K l H R v) (g:H l=some (.lst ys)):Mj K l (upd H l (.lst zs)) R v:=by obtain q|a|b|c:=h;exact #[q,a,b,c.updL g off_ne b]
def LV (mv pt:LR9) (u:Nat):List (LR9):=(List.range u).map λs=>pt.map (oR mv s)
theorem KI:LV mv pt (u+1)=LV mv pt u++[pt.map (oR mv u)]:=by unfold LV;rw[sN,bR];rfl
theorem zb:∀u,(LV mv pt u).flatten=kry mv pt u
 | 0=>rfl
 | u+1=>by
  have e:LV mv pt (u+1)=pt :: (LV mv pt u).map (List.map (sG mv)):=by
   unfold LV;rw[List.range_succ_eq_map,iD,il];congr 1
   ·exact Dd pt
   ·rw[il];refine ib λs _=>?_
    show pt.map (oR mv (s+1))=(pt.map (oR mv s)).map (sG mv)
    rw[il];rfl
  rw[e,i8,<- List.map_flatten,zb u];rfl
theorem TJ (h:xs∈pt.map (oR mv s)):xs∈kry mv pt (s+1):=by
 rw[<- zb,KI,nh];exact bL _ (by simpa using h)
theorem jw.fitP (F:jw mv pt a c) (wm:∀xs∈mv,xs.9=mv.9) (wp:∀xs∈pt,xs.9=mv.9) (hs:s+1<=mv.9):∀xs∈mv,∀r∈pt.map (oR mv s),jV xs r:=λxs hx r hr=>by
 obtain M|V|M0|Ma|hV|fm|fp|a3|c3|e14|_:=F;have f:=Jk rfl wm wp hV fm fp (s+1) r (TJ hr);have V1:V<=2^c:=ag (b7 _ ()) hV;have e1:(s+1)*(a+c)<=mv.9*(a+c):=ax _ hs;have e2:mv.9*(a+c)+4<=mv.9*(mv.9*(a+c)+4):=b7 _ ();have e3:(s+1)*(a+c)=a*(s+1)+c*(s+1):=by rw[oO,cv,cv c]
 refine #[a,c,a*(s+1),c*(s+1),#[M,V,M0,Ma,V1,fm xs hx],#[M^(s+1),2^(c*(s+1)),d6 M0,?_,ak _,f],()];exact ag (jx Ma _) (by rw[<- sI];exact ak _)
end
inductive FA (K:FG9) (C:Addr) (vs:List V) (H:Hp) (Q:VK) (E9:XK):Prop
 | mk (x:Addr) (u a c:Nat) (H0:Hp) (mv pt lk:LR9):vs=[.ref x,.int u]->u<=mv.9->j9 K H0 H C x mv pt lk->fv mv pt lk->jw mv pt a c->(∀r us H',H r=none->aH H H'->H' r=some (.lst us)->Paired (Mj K r H') (LV mv pt u) us->Q (.ref r) H')->FA K C vs H Q E9
inductive Fw (K:FG9) (vs:List V) (H:Hp) (Q:VK) (E9:XK):Prop
 | mk (p:Addr) (xs:List V) (Rs:List (LR9)):vs=[.ref p]->H p=some (.lst xs)->Paired (Mj K p H) Rs xs->Rs.flatten.9<=1000->(∀r H0 H',H r=none->aH H H'->bp K H0 H' r Rs.flatten->Q (.ref r) H')->Fw K vs H Q E9
inductive Kb (K:FG9) (vs:List V) (H:Hp) (Q:VK) (E9:XK):Prop
 | mk (p:Addr) (u k:Nat) (w:List Rat):vs=[.ref p,.int u,.int k]->cS K H p w->w.9=u*k->u*k<=1000->u<=1000->k<=1000->(∀r H',H r=none->aH H H'->bp K H H' r (yK w u k)->Q (.ref r) H')->Kb K vs H Q E9
inductive Fl (K:FG9) (C:Addr) (vs:List V) (H:Hp) (Q:VK) (E9:XK):Prop
 | mk (x:Addr) (T:Nat) (H0:Hp) (mv pt lk:LR9):vs=[.ref x,.int T]->T<=100->j9 K H0 H C x mv pt lk->fv mv pt lk->(∀r H',H r=none->aH H H'->bp K H H' r (List.replicate T (List.replicate pt.9 0))->Q (.ref r) H')->Fl K C vs H Q E9
inductive Fs (K:FG9) (C:Addr) (vs:List V) (H:Hp) (Q:VK) (E9:XK):Prop
 | mk (x s g:Addr) (T:Nat) (H0:Hp) (mv pt lk:LR9) (st go:List Rat):vs=[.ref x,.ref s,.ref g,.int T]->T<=99->j9 K H0 H C x mv pt lk->fv mv pt lk->KJ mv pt lk->cS K H s st->st.9=mv.9->cS K H g go->go.9=mv.9->EX mv pt st (List.replicate T (List.replicate pt.9 0))->(∀x∈go,mU x)->(∀r H',H r=none->aH H H'->cS K H' r (i5 mv T st go)->Q (.ref r) H')->Fs K C vs H Q E9
structure VJ (mv pt:LR9) (L:List Rat) (D W0 E W1:Nat):Prop where
 d0:0 < D
 e0:0 < E
 w0:1<=W0
 w1:1<=W1
 tk:∀u,u<=mv.9->∀xs∈kry mv pt u,∀x∈xs,Tp D W0 x
 tl:∀x∈L,Tp E W1 x
 de:D*E<=2^4300
 sw:∃w,W0*E+W1*D+D*E<=2^w/\w<=4300/\(mv.9+1)*(w+4)<=8900
theorem VJ.join (F:VJ mv pt L D W0 E W1) (hd:due.9=rows.9) (h1:∀xs∈rows,∀x∈xs,Tp (D*E) (W0*E+W1*D+D*E) x) (h2:∀x∈due,Tp (D*E) (W0*E+W1*D+D*E) x) (n8:mv.9<=8) (hm:min rows.9 n'<=mv.9+1):∃w,C6 (dD rows due) n' w:=by
 obtain w|b1|b2|b3:=F.sw;have:=bQ F.d0 F.e0;refine #[w,D*E,W0*E+W1*D+D*E,bQ F.d0 F.e0,F.de,(),b1,λxs hx x hx'=>?_,b2,by rw[pZ hd];lia,by rw[pZ hd];exact ag (ax _ hm) b3];unfold dD at hx;obtain i|hi|rfl:=bM hx;rw[k9] at hx';rcases ay.mp hx' with z | z
 ·exact h1 _ (aM _) x z
 ·rw[aS.mp z];exact h2 _ (aM _)
theorem Tp.up (h:Tp M W q) (k:Nat) (hx:W*k<=x):Tp (M*k) x q:=by
 obtain z|e|b:=h;exact #[z*k,by rw[fP,aY,<- e,aW];grind,by rw[dH,cJ];exact ag (ax _ b) hx]
theorem Vb.tp (V:Vb r n Pm Y Z d W) (r15:r<=15) (w1:1<=W):∃q:Nat,0 < q/\q<=(16*W)^r/\∀s,s < r->∀c,c < n->Tp q ((16*W)^r) (Y s c):=by
 have rlt:∀i∈kX (λi=>i) r,i < r:=λi hi=>by
  obtain t|ht|e:=nE hi;have e:i=t:=e
  lia
 obtain q|eq|bq:=Jv (N:=16) (Wx:=W) (rs:=kX (λi=>i) r) (vs:=jm (λj i=>Pm i j) r) (by rw[cw_len];lia) λw hw i hi=>by
  obtain s|hs|rfl:=cw_in hw;exact V.pf i (rlt i hi) s hs
 rw[rk] at bq;rw[<- V.det] at eq;have q0:q≠0:=λz=>V.d0 (by rw[eq,z];rfl)
 refine #[q.natAbs,(),bq,λs hs c hc=>?_]
 have cr:=uX (rs:=kX (λi=>i) r) (v:=λj i=>Pm i j) (c:=λj=>Y j c) (W:=λi=>Z i c) hs (λi hi=>by
  rw[V.eq i (rlt i hi) c hc];exact aP λj _=>cP _ _)
 obtain z|ez|bz:=Jv (N:=16) (Wx:=W) (rs:=kX (λi=>i) r) (vs:=Ik (λj i=>Pm i j) s r++(λi=>Z i c) :: jm (λj i=>Pm i j) s) (by
  have:=congrArg List.length (cw_split (v:=λj i=>Pm i j) hs);rw[ar,bx,cw_len] at this;rw[ar,bx]
  lia) λw hw i hi=>by
   rcases ay.mp hw with hw | hw
   ·obtain s'|hs'|rfl:=CO hw;exact V.pf i (rlt i hi) s' hs'
   ·rcases aI.mp hw with rfl | hw
    ·exact V.zf i (rlt i hi) c hc
    ·obtain s'|hs'|rfl:=cw_in hw;exact V.pf i (rlt i hi) s' ()
 rw[rk] at bz;rw[ez,<- V.det,eq] at cr;have key:Y s c*(q:Rat)=(z:Rat):=cr.symm;rcases Ij q with h | h
 ·have hq:((q.natAbs:Nat):Rat)=(q:Rat):=by rw[<- aW,<- h]
  exact #[z,by rw[hq,key],bz]
 ·have hq:((q.natAbs:Nat):Rat)=-(q:Rat):=by rw[<- aW,<- dE];congr 1;lia
  exact #[-z,by rw[hq,dE,<- key];grind,by rw[lh];exact bz]
theorem N4 (F:jw mv pt a c) (D8:mv.9<=8) (wm:∀xs∈mv,xs.9=mv.9) (wp:∀xs∈pt,xs.9=mv.9):∀T,∃R ps,Gd mv pt T R ps:=by
 intro T
 induction T with
 | zero=>exact #[_,_,Gd.start]
 | succ T ih =>
  obtain R|ps|G:=ih;obtain RR|t|t1|t2|RRt|hs:=id G;have le:=RR.le
  obtain R'|ps'|d|ls|S:=Cs (n:=mv.9) (rows:=pt++R.map (sG mv)) (λxs hx=>by
   rcases ay.mp hx with hx | hx
   ·exact wp xs hx
   ·obtain y|_|rfl:=aA.mp hx;exact vP) (F.step D8 wm wp (t:=t) () RRt)
  have RR':=wI rfl wm wp RR S.rr;exact #[R',ps',(G.step wm wp RR').1]
theorem U7 (F:jw mv pt a c) (D8:mv.9<=8) (wm:∀xs∈mv,xs.9=mv.9) (wp:∀xs∈pt,xs.9=mv.9) (RR:bI (kry mv pt T) mv.9 R ps):Gd mv pt T R ps:=by
 obtain R'|ps'|G:=N4 F D8 wm wp T;obtain rfl|rfl:=RR.same G.1;exact G
theorem jw.rtp (F:jw mv pt a c) (D8:mv.9<=8) (wm:∀xs∈mv,xs.9=mv.9) (wp:∀xs∈pt,xs.9=mv.9) (RR:bI (kry mv pt T) mv.9 R ps):∃q,0 < q/\q<=2^(ps.9*((mv.9 - 1)*(a+c)+4))/\∀xs∈R,∀x∈xs,Tp q (2^(ps.9*((mv.9 - 1)*(a+c)+4))) x:=by
 obtain _|t|t1|_|RRt|_:=U7 F D8 wm wp RR;obtain Pm|Z|d|w|vb|hw:=F.vb wm wp t1 RRt;have le:=RR.le;obtain q|q0|q1|q2:=vb.tp () bJ
 have up:(16*2^w)^ps.9<=2^(ps.9*((mv.9 - 1)*(a+c)+4)):=by
  have e:(16*2^w)^ps.9=2^(ps.9*(w+4)):=by rw[show (16:Nat)=2^4 from rfl,<- aV,<- sI,cv ps.9,jN w]
  rw[e];refine ai () (aO _ ?_);rcases hw with ⟨_,rfl⟩ | ⟨_,rfl⟩ <;> lia
 refine #[q,q0,ag q1 up,y9 λi hi e=>?_];by_cases he:e < mv.9
 ·exact (q2 i (by rw[<- RR.1];exact hi) e he).mono up
 ·rw[xU RR.2.1 ()];exact Tp.zero
theorem Tu (h1:∀i j,i < j->j < ps.9->ps.getD i 0 < ps.getD j 0) (h2:∀j,j < ps.9->ps.getD j 0 < n):(kN ps n).9+ps.9=n:=by
 have key:∀i,∃k,k<=ps.9/\(kN ps i).9+k=i/\(∀j,j < k->ps.getD j 0 < i)/\∀j,k<=j->j < ps.9->i<=ps.getD j 0:=by
  intro i
  induction i with
  | zero=>exact #[0,br _,rfl,λj hj=>absurd hj (dP _),λj _ _=>br _]
  | succ i ih =>
   obtain k|k1|k2|k3|k4:=ih;rw[Ax];by_cases hk:k < ps.9/\ps.getD k 0=i
   ·have hm:i∈ps:=by rw[<- hk.2];exact getD_in hk.1
    rw[if_neg (λz=>z hm)];refine #[k+1,hk.1,(),λj hj=>?_,λj hj hl=>?_]
    ·rcases cB j k with z | z
     ·have:=k3 j z;lia
     ·rw[show j=k by lia,hk.2];lia
    ·have:=h1 k j () hl
     lia
   ·have hm:i∉ps:=λz=>by
     obtain j|hj|ej:=bM z;have ej':ps.getD j 0=i:=by rw[aa,ae hj];exact ej
     rcases cB j k with y | y
     ·have:=k3 j y;lia
     ·rcases cB k j with x | x
      ·have:=h1 k j x hj;have:=k4 k (ak _) ()
       lia
      ·exact hk #[(),by rw[show k=j by lia];exact ej']
    rw[if_pos hm];refine #[k,k1,by rw[ar,a9];lia,λj hj=>by have:=k3 j hj;lia,λj hj hl=>?_];have:=k4 j hj hl;rcases cB i (ps.getD j 0) with y | y
    ·exact y
    ·exact absurd (by rw[show i=ps.getD j 0 by lia];exact getD_in hl) hm
 obtain k|k1|k2|k3|k4:=key n;rcases cB k ps.9 with z | z
 ·have:=k4 k (ak _) z;have:=h2 k z
  lia
 ·lia
theorem oX:∀xs∈aU R ps n,xs.9=n:=λxs hx=>by
 obtain _|_|_|rfl:=qC hx;exact pX
theorem uP (RR:bI rows n R ps):(aU R ps n).9+ps.9=n:=by
 unfold aU;rw[af];exact Tu RR.2.2.inc RR.2.2.low
theorem xJ {mv:LR9} (wm:∀xs∈mv,xs.9=mv.9):∀t,oR mv t (List.replicate mv.9 0)=List.replicate mv.9 0
 | 0=>rfl
 | t+1=>by
  show sG mv (oR mv t _)=_
  rw[xJ wm t];refine Av (by rw[vP,aJ]) λc hc=>?_
  rw[vP] at hc;rw[Ro wm (by rw[aJ]) hc,dh λj _=>?_]
  ·rw[aa,dG,if_pos hc];rfl
  ·rw[aa,dG]
   split <;> exact fE _
theorem NR (wm:∀xs∈mv,xs.9=mv.9) (lg:go.9=mv.9):i5 mv T (List.replicate mv.9 0) go=go:=by
 unfold i5;rw[xJ wm];refine Av (by rw[cV,aJ,lg,KP]) λc hc=>?_
 rw[cV,aJ,lg,KP] at hc;rw[Ms (by rw[aJ,lg]) ()];have:(List.replicate mv.9 (0:Rat)).getD c 0=0:=by rw[aa,dG];split <;> rfl
 rw[this];grind
theorem cf0 (D:fv mv pt lk):EX mv pt (List.replicate mv.9 0) (List.replicate T (List.replicate pt.9 0)):=λk hk=>by
 rw[aJ] at hk
 have e:qJ mv pt (List.replicate mv.9 0) (List.replicate T (List.replicate pt.9 0)) k=List.replicate mv.9 0:=by
  have:=Iw (T:=k) D (st:=List.replicate mv.9 0) (by rw[aJ]);rw[xJ D.mw] at this;refine Eq.trans ?_ this;unfold qJ;rw[List.take_replicate,List.take_replicate,j6 hk,KP]
 refine #[1,1,(),bJ,bJ,λx hx=>?_,λxs hx x hx'=>?_]
 ·rw[e] at hx;rw[(du.mp hx).2];exact Fr.zero
 ·rw[(du.mp hx).2] at hx';rw[(du.mp hx').2];exact Fr.zero
structure Vo (mv pt:LR9) (st pu:List Rat):Prop where
 f2:∀xs∈mv,jV xs st
 part:∀kk,∀x∈nextK mv pt st pu kk,mU x
 su:∀u∈pu,mU u
 sp:∀row∈pt,∀y∈row,mU y
 mul:∀u∈pu,∀row∈pt,∀y∈row,mU (u*y)
inductive Fm (K:FG9) (vs:List V) (H:Hp) (Q:VK) (E9:XK):Prop
 | mk (r s u:Addr) (H0:Hp) (mv pt lk:LR9) (st pu:List Rat):vs=[.ref r,.ref s,.ref u]->gL K H0 H r mv pt lk->fv mv pt lk->cS K H s st->cS K H u pu->st.9=mv.9->pu.9=pt.9->Vo mv pt st pu->(∀t H',H t=none->aH H H'->cS K H' t (iV mv pt st pu)->Q (.ref t) H')->Fm K vs H Q E9
structure Bd (mv pt:LR9) (M1 M2 V a1 a2 c:Nat):Prop where
 m1:0 < M1
 m2:0 < M2
 b1:M1<=2^a1
 b2:M2<=2^a2
 gm:GF M1 V mv
 gp:GF M2 V pt
 vc:(mv.9+4)*V<=2^c
section
variable {st pu go:List Rat} {M1 M2 V a1 a2 c N Np p t T ν:Nat}
theorem Bd.v1 (B:Bd mv pt M1 M2 V a1 a2 c):V<=2^c:=ag (b7 _ ()) B.vc
theorem kM (h0:0 < M) (h1:M<=2^a) (h2:W<=2^b) (hab:a+b<=3990) (h:Fr M W x):mU x:=by
 refine sS (Tp.of h (ak _)) h0 (ag h1 (ai () ())) ?_;refine ag (aL h2 h1) ?_;rw[<- aV];exact ai () ()
theorem Bd.next (B:Bd mv pt M1 M2 V a1 a2 c) (D:fv mv pt lk) (ls:st.9=mv.9) (lu:pu.9=pt.9) (N0:0 < N) (dv:M2*Np∣M1*N) (hs:∀x∈st,Fr N (2^p) x) (hu:∀x∈pu,Fr Np (2^p) x) (hN:N<=2^ν) (sz:a1+ν+c+p<=3900) (sp2:a2+c<=3900):Vo mv pt st pu/\∀x∈iV mv pt st pu,Fr (M1*N) (2^(c+p)) x:=by
 have V1:=B.v1;have i4:=D.i4;have MN0:0 < M1*N:=bQ B.m1 N0;have MN:M1*N<=2^(a1+ν):=by rw[aV];exact aL B.b1 hN
 have Np0:0 < Np:=by
  rcases iI Np with z | z
  ·rw[z,Nat.mul_zero] at dv;have:=Nat.eq_zero_of_zero_dvd dv
   lia
  ·exact z
 have NpMN:Np<=M1*N:=ag (b7 _ B.m2) (nG MN0 dv)
 have one:∀u∈pu,∀row∈pt,∀y∈row,Fr (M1*N) (V*2^p) (u*y):=λu hu' row hr y hy=>by
  have:=(B.gp row hr y hy).mul (hu u hu');rw[cP];exact this.dvd dv
 have part:∀kk,kk<=pt.9->∀x∈nextK mv pt st pu kk,Fr (M1*N) (2^(c+p)) x:=λkk hkk x hx=>by
  obtain j|hj|e:=bM hx;rw[jZ] at hj;have e2:=Ap (mv:=mv) (pt:=pt) (st:=st) (pu:=pu) (k:=kk) hj;rw[aa,ae (by rw[jZ];exact hj)] at e2;have e3:x=cA (mv[j]++(pt.map λxs=>xs.getD j 0).take kk) (st++pu.take kk):=by rw[<- e,<- e2];rfl
  have wj:=D.mw _ (aM hj);rw[e3,kO ()];have f1:=Fr.dot (B.gm _ (aM hj)) hs;rw[wj] at f1
  have f2:Fr (M1*N) (4*(V*2^p)) (cA ((pt.map λxs=>xs.getD j 0).take kk) (pu.take kk)):=by
   have hc:∀y∈(pt.map λxs=>xs.getD j 0).take kk,Fr M2 V y:=λy hy=>by
    obtain xs|hxs|rfl:=aA.mp (cH hy);rw[aa];cases e:xs[j]? with
    | none=>exact Fr.zero
    | some z=>exact B.gp xs hxs z (av e)
   have:=Fr.dot (ys:=pu.take kk) hc (λy hy=>hu y (cH hy));refine (this.dvd dv).mono (ax _ ?_);rw[bY,af]
   lia
  refine (f1.add f2).mono ?_;rw[<- C9,aV,<- dm];exact ax _ B.vc
 have szb:∀{x:Rat},Fr (M1*N) (2^(c+p)) x->mU x:=λh=>kM MN0 MN (ak _) () h
 have all:∀kk,∀x∈nextK mv pt st pu kk,Fr (M1*N) (2^(c+p)) x:=λkk x hx=>by
  rcases cB pt.9 kk with z | z
  ·have e:nextK mv pt st pu kk=nextK mv pt st pu pt.9:=(uQ () ()).trans (uQ (ak _) ()).symm;rw[e] at hx;exact part _ (ak _) x hx
  ·exact part kk z x hx
 refine #[#[λxs hx=>#[a1,c,ν,p,#[M1,V,B.m1,B.b1,V1,B.gm xs hx],#[N,2^p,N0,hN,ak _,hs],()],λkk x hx=>szb (all kk x hx),λu hu'=>?_,λrow hr y hy=>?_,λu hu' row hr y hy=>szb ((one u hu' row hr y hy).mono (by rw[aV];exact ax _ V1))],λx hx=>?_]
 ·exact kM Np0 (ag NpMN MN) (ak _) () (hu u hu')
 ·exact kM B.m2 B.b2 V1 () (B.gp row hr y hy)
 ·rw[<- uQ (k:=pt.9) (ak _) ()] at hx;exact all _ x hx
end
section
variable {mv pt lk pus:LR9} {st pu go:List Rat} {M1 M2 V a1 a2 c N Np p t T ν k:Nat}
def OQ (mv pt pus:LR9) (st:List Rat):Prop:=∃M1 M2 V a1 a2 c N Np p ν,Bd mv pt M1 M2 V a1 a2 c/\0 < N/\N<=2^ν/\M2*Np∣N/\(∀x∈st,Fr N (2^p) x)/\(∀xs∈pus,∀x∈xs,Fr Np (2^p) x)/\a1*(pus.9+1)+ν+c*(pus.9+1)+p<=3900/\a2+c<=3900
theorem tY (h:M<=2^a) (hN:N<=2^ν):M^t*N<=2^(a*t+ν):=by
 rw[aV,sI];exact aL (jx h t) hN
theorem Bd.states (B:Bd mv pt M1 M2 V a1 a2 c) (D:fv mv pt lk) (ls:st.9=mv.9) (wp:∀xs∈pus,xs.9=pt.9) (N0:0 < N) (hN:N<=2^ν) (dv:M2*Np∣N) (hs:∀x∈st,Fr N (2^p) x) (hu:∀xs∈pus,∀x∈xs,Fr Np (2^p) x) (sz:a1*(pus.9+1)+ν+c*(pus.9+1)+p<=3900) (sp2:a2+c<=3900):∀k,k<=pus.9->(∀x∈qJ mv pt st pus k,Fr (M1^k*N) (2^(c*k+p)) x)/\∀pu,pus[k]?=some pu->Vo mv pt (qJ mv pt st pus k) pu:=by
 have key:∀k,k<=pus.9->(∀x∈qJ mv pt st pus k,Fr (M1^k*N) (2^(c*k+p)) x)->∀pu,pus[k]?=some pu->Vo mv pt (qJ mv pt st pus k) pu/\∀x∈iV mv pt (qJ mv pt st pus k) pu,Fr (M1*(M1^k*N)) (2^(c+(c*k+p))) x:=λk hk f pu hpu=>by
  have mp:=av hpu;have kl:=(aE.mp hpu).1;have e1:a1*(k+1)<=a1*(pus.9+1):=aO _ ();have e2:c*(k+1)<=c*(pus.9+1):=aO _ ();rw[oO,Nat.mul_one] at e1 e2;refine B.next D (qM ls hk) (wp pu mp) (bQ (d6 B.m1) N0) ?_ f (λx hx=>(hu pu mp x hx).mono (ai () (Nat.le_add_left _ _))) (tY B.b1 hN) () sp2;exact nH dv (nH (eX _ _) (eX _ _))
 have fr:∀k,k<=pus.9->∀x∈qJ mv pt st pus k,Fr (M1^k*N) (2^(c*k+p)) x:=by
  intro k
  induction k with
  | zero =>
   intro _ x hx;rw[Nat.pow_zero,xa,Nat.mul_zero,Nat.zero_add];exact hs x hx
  | succ k ih =>
   intro hk x hx;have e:=ae (show k < pus.9 by lia);rw[sT e] at hx;have:=(key k () (ih ()) _ e).2 x hx;rw[<- dm,cv M1,<- eF,show c+(c*k+p)=c*(k+1)+p by rw[oO];lia] at this;exact this
 exact λk hk=>#[fr k hk,λpu hpu=>(key k hk (fr k hk) pu hpu).1]
theorem OQ.nx (h:OQ mv pt pus st) (D:fv mv pt lk) (ls:st.9=mv.9) (wp:∀xs∈pus,xs.9=pt.9) (hk:k<=pus.9) (hpu:pus[k]?=some pu):Vo mv pt (qJ mv pt st pus k) pu:=by
 obtain M1|M2|V|a1|a2|c|N|Np|p|ν|B|N0|hN|dv|hs|hu|sz|sp2:=h;exact (B.states D ls wp N0 hN dv hs hu sz sp2 k hk).2 pu hpu
theorem OQ.szn (h:OQ mv pt pus st) (D:fv mv pt lk) (ls:st.9=mv.9) (wp:∀xs∈pus,xs.9=pt.9) (hk:k<=pus.9):∀x∈qJ mv pt st pus k,mU x:=λx hx=>by
 obtain M1|M2|V|a1|a2|c|N|Np|p|ν|B|N0|hN|dv|hs|hu|sz|sp2:=h;have e1:a1*k<=a1*(pus.9+1):=aO _ ();have e2:c*k<=c*(pus.9+1):=aO _ ();exact kM (bQ (d6 B.m1) N0) (tY B.b1 hN) (ak _) () ((B.states D ls wp N0 hN dv hs hu sz sp2 k hk).1 x hx)
def AlF (mv:LR9) (st:List Rat) (T:Nat):Prop:=∃M1 V a1 c N p ν,0 < M1/\M1<=2^a1/\GF M1 V mv/\(mv.9+4)*V<=2^c/\0 < N/\N<=2^ν/\(∀x∈st,Fr N (2^p) x)/\a1*(T+1)+ν+c*(T+1)+p<=3900
def AdF (mv pt:LR9) (T:Nat):Prop:=∃M1 M2 V a1 a2 c,Bd mv pt M1 M2 V a1 a2 c/\a1*(T+1)+a2+c*(T+2)<=3900
end
inductive Ka (K:FG9) (vs:List V) (H:Hp) (Q:VK) (E9:XK):Prop
 | mk (r s p:Addr) (H0 H1:Hp) (mv pt lk pus:LR9) (st:List Rat):vs=[.ref r,.ref s,.ref p]->gL K H0 H r mv pt lk->fv mv pt lk->cS K H s st->st.9=mv.9->bp K H1 H p pus->pus.9<=100->(∀xs∈pus,xs.9=pt.9)->OQ mv pt pus st->(∀t H',H t=none->aH H H'->cS K H' t (qJ mv pt st pus pus.9)->Q (.ref t) H')->Ka K vs H Q E9
theorem LP (hc:X.calm=true):qG X (.builtin "max") (λxs H Q=>∃(p:Addr) (ns:List Int),xs=[.ref p]/\bE X.K H p (ns.map V.int)/\0 < ns.9/\∀M,M∈ns->(∀a,a∈ns->a<=M)->Q (.int M) H):=by
 intro pins s σ H xs us Q I r h;obtain p|ns|rfl|hp|hne|q:=h;obtain u|rfl|ru:=vals1 r;cases ru;obtain its|r2|pl|_:=I.list hp;have hi:=intsAre_of r2;have hl:=pl.isList;obtain xs|e:=hi.allInts.items
 have hns:ns=xs.toList.map (·.1):=by
  rw[<- hi.numsOf,<- nums_intItems,<- e]
 have hsz:0 < xs.7:=by
  have h3:=hne;rw[hns,af,Array.length_toList] at h3;exact h3
 rw[e] at hl;refine max_intList (I.ok.hd hc) hl hsz λv h' tk hv hk=>?_
 obtain t|rfl:=intItems_at hv;obtain h1|h2:=argBest_gt (numAt xs) (xs.7 - 1);refine #[.int _,H,I.kept hk,#[_,rfl],q _ ?_ λa ha=>?_]
 ·rw[hns,numAt_eq];exact getD_in (by rw[af,Array.length_toList];lia)
 ·rw[hns] at ha;obtain j|hj|rfl:=mem_getD ha;rw[af,Array.length_toList] at hj;rw[<- numAt_eq];exact h2 j ()
theorem Ct {α β:Type} {f:α->β}:∀{l1:List α} {l2:List β},Paired (λa b=>b=f a) l1 l2->l2=l1.map f
 | _,_,.nil=>rfl
 | _,_,.cons h r=>by rw[h,Ct r];rfl
def QR (mv pt:LR9) (T:Nat):Prop:=T<=12/\(T<=3\/((∀xs∈mv++pt,∀x∈xs,x.den<=9/\x.num.natAbs < 1000)/\(5 < mv.9->T<=mv.9)/\(3<=mv.9->mv.9<=5->T<=mv.9+1)))
def T9 (x:Rat):Int:=(x.den:Int)+(x.num.natAbs:Int) / 1000*9
theorem QF (h:T9 x<=9):x.den<=9/\x.num.natAbs < 1000:=by
 unfold T9 at h;have:=x.den_pos
 lia
inductive BZ (K:FG9) (vs:List V) (H:Hp) (Q:VK) (E9:XK):Prop
 | mk (b r:Addr) (H0:Hp) (mv pt lk:LR9):vs=[.ref b,.ref r]->ig H b->H0 b≠none->gL K H0 H r mv pt lk->fv mv pt lk->(∀xs∈mv++pt,∀x∈xs,mU x)->(∀(T:Nat) H',QR mv pt T->ig H' b->c8 b H H'->Q (.int T) H')->BZ K vs H Q E9
inductive Fi (K:FG9) (vs:List V) (H:Hp) (Q:VK) (E9:XK):Prop
 | mk (b r:Addr) (T w:Nat) (H0:Hp) (mv pt lk:LR9):vs=[.ref b,.ref r,.int T,.int w]->T<=100->1<=w->w<=1000->ig H b->H0 b≠none->gL K H0 H r mv pt lk->fv mv pt lk->(∀p pus H',H p=none->bp K H H' p pus->pus.9=T->(∀xs∈pus,xs.9=pt.9/\∀x∈xs,Dr (max w 6) x)->ig H' b->c8 b H H'->Q (.ref p) H')->Fi K vs H Q E9
structure PrF (mv pt:LR9) (T:Nat) (st go pr:List Rat):Prop where
 ad:AdF mv pt T
 al:AlF mv st T
 sg:∀x∈go,mU x
 sr:∀x∈pr,mU x
 f1:∀xs∈kry mv pt T,jV pr xs
 f2:jV pr (i5 mv T st go)
structure CtF (mv pt:LR9) (T:Nat) (st go:List Rat) (D W0 E W1:Nat):Prop where
 cf:EX mv pt st (List.replicate T (List.replicate pt.9 0))
 sg:∀x∈go,mU x
 co:VJ mv pt (i5 mv T st go) D W0 E W1
 en:∀(pus:LR9) (q:Nat),0 < q->q<=(16*W0)^mv.9->pus.9=T->(∀xs∈pus,∀x∈xs,Tp (E*q) (D*(mv.9*(W1*(16*W0)^mv.9))) x)->OQ mv pt pus st
def O2 (v:Nat):Rat:=#[1,v+1,Nat.succ_ne_zero v,by simp]
theorem QY (h:v < 3):Fr 6 1 (O2 v):=by
 have e:(O2 v).num.natAbs<=1:=ak _;have f:=Fr.own (O2 v) e
 have d:(O2 v).den∣6:=by
  show v+1∣6
  rcases (show v=0\/v=1\/v=2 by lia) with rfl | rfl | rfl <;> decide
 exact f.dvd d
def VI (pt:LR9) (T w:Nat) (pus:LR9):Prop:=pus.9=T/\∀xs∈pus,xs.9=pt.9/\∀x∈xs,Dr (max w 6) x
def GoP (mv pt:LR9) (T w:Nat) (st go:List Rat):Prop:=(∀x∈go,Dr (max w 6) x)\/∃pus,VI pt T w pus/\(go=qJ mv pt st pus T\/∃a v,v < 3/\go=(qJ mv pt st pus T).set a ((qJ mv pt st pus T).getD a 0+O2 v))
inductive Fu (K:FG9) (vs:List V) (H:Hp) (Q:VK) (E9:XK):Prop
 | mk (b r s:Addr) (T w:Nat) (H0:Hp) (mv pt lk:LR9) (st:List Rat):vs=[.ref b,.ref r,.ref s,.int T,.int w]->T<=100->1<=w->w<=1000->ig H b->H0 b≠none->gL K H0 H r mv pt lk->fv mv pt lk->cS K H s st->s≠b->st.9=mv.9->(∀pus,VI pt T w pus->OQ mv pt pus st)->(∀g go H',H g=none->cS K H' g go->go.9=mv.9->GoP mv pt T w st go->ig H' b->c8 b H H'->Q (.ref g) H')->Fu K vs H Q E9
theorem NH (ws vs:List V) (M1 M2 M3:Nat):∃μ:V->Nat,(∀x∈ws,μ x=M2)/\(∀x∈vs,x∉ws->μ x=M3)/\(∀x,x∉ws->x∉vs->μ x=M1)/\∀x,μ x=M1\/μ x=M2\/μ x=M3:=by
 classical
 refine #[λx=>if x∈ws then M2 else if x∈vs then M3 else M1,λx h=>if_pos h,λx h h'=>?_,λx h h'=>?_,λx=>?_]
 ·show (if x∈ws then M2 else if x∈vs then M3 else M1)=M3
  rw[if_neg h',if_pos h]
 ·show (if x∈ws then M2 else if x∈vs then M3 else M1)=M1
  rw[if_neg h,if_neg h']
 ·show (if x∈ws then M2 else if x∈vs then M3 else M1)=M1\/(if x∈ws then M2 else if x∈vs then M3 else M1)=M2\/(if x∈ws then M2 else if x∈vs then M3 else M1)=M3
  by_cases h:x∈ws
  ·rw[if_pos h];exact .inr (.inl rfl)
  ·rw[if_neg h];by_cases h':x∈vs
   ·rw[if_pos h'];exact .inr (.inr rfl)
   ·rw[if_neg h'];exact .inl rfl
theorem kT.apart {K:FG9} (h:kT K A H n C m p l b q0 us ws vs):(∀x∈us,x∉ws/\x∉vs)/\∀x∈vs,x∉ws:=by
 obtain n1|n2|n3:=eN.mp h.nd;obtain n4|n5|n6:=eN.mp n1;exact #[λx hx=>#[λz=>n3 x (ay.mpr (.inl hx)) x z rfl,λz=>n6 x hx x z rfl],λx hx z=>n3 x (ay.mpr (.inr hx)) x z rfl]
theorem kT.fr3 {K:FG9} (h:kT K A H n (λ_=>Dr (2^c)) m p l b q0 us ws vs):∃M1 M2 M3,0 < M1/\0 < M2/\0 < M3/\M1<=2^(c*(n*n))/\M2<=2^(c*(ws.9*n))/\M3<=2^(c*(vs.9*n))/\(∀x∈us,ie K A H n (Fr M1 (2^c)) x)/\(∀x∈ws,ie K A H n (Fr M2 (2^c)) x)/\∀x∈vs,ie K A H n (Fr M3 (2^c)) x:=by
 have one:∀l:List V,(∀x∈l,x∈us++vs++ws)->∃M,0 < M/\M<=2^(c*(l.9*n))/\∀x∈l,ie K A H n (Fr M (2^c)) x:=λl hl=>by
  obtain ra|pa|la|ha:=zX λx hx=>h.row x (hl x hx)
  obtain M|m0|m1|m2:=Pn (c:=c) (n:=n) (rows:=ra) ha;exact #[M,m0,by rw[la] at m1;exact m1,II pa λqs hq=>#[(ha qs hq).1,m2 qs hq]]
 obtain M1|a1|a2|a3:=one us λx hx=>by simp [hx]
 obtain M2|b1|b2|b3:=one ws λx hx=>by simp [hx]
 obtain M3|c1|c2|c3:=one vs λx hx=>by simp [hx]
 rw[h.lm] at a2;exact #[M1,M2,M3,a1,b1,c1,a2,b2,c2,a3,b3,c3]
inductive Ck (K:FG9) (xs:List V) (H:Hp) (Q:VK) (E9:XK):Prop
 | mk (b m p l q0:Addr) (n V1:Nat) (μ:V->Nat) (A:Addr->Prop) (us ws vs:List V):xs=[.ref b,.ref m,.ref p,.ref l]->Ig A m p l b q0->kT K A H n (λx=>Fr (μ x) V1) m p l b q0 us ws vs->n<=8->ws.9<=4->vs.9<=4->(∀x,0 < μ x)->(∀x,μ x<=2^800)->(∃M,∀x,x∉ws->x∉vs->μ x=M)->V1<=2^20->(∀q,H q=none->A q)->(∀r us' H',H' r=some (.tup [.ref m,.ref p,.ref l])->kT K A H' n (λx=>Fr (μ x) (9^3*V1)) m p l b q0 us' ws vs->jy A b m H H'->Q (.ref r) H')->Ck K xs H Q E9
def Wa (n i o w c:Nat) (mv pt lk:LR9):Prop:=∃M1 M2 M3 V1:Nat,0 < M1/\0 < M2/\0 < M3/\GF M1 V1 mv/\GF M2 V1 pt/\GF M3 V1 lk/\((w<=9/\M1=2520/\M2=2520/\M3=2520/\V1=9^3*9)\/(9 < w/\M1<=2^(c*(n*n))/\M2<=2^(c*(i*n))/\M3<=2^(c*(o*n))/\V1=9^3*2^c))
inductive Cd (K:FG9) (vs:List V) (H:Hp) (Q:VK) (E9:XK):Prop
 | mk (b:Addr) (n i o w c:Nat):vs=[.ref b,.int n,.int i,.int o,.int w]->ig H b->n<=8->i<=4->o<=4->1<=w->w<=1000000->max w 6<=2^c->c<=20->c*((n+i+o)*n)<=800->(∀r mv pt lk H',gL K H H' r mv pt lk->mv.9=n->pt.9=i->lk.9=o->fv mv pt lk->Wa n i o w c mv pt lk->ig H' b->c8 b H H'->Q (.ref r) H')->Cd K vs H Q E9
def Rg (mv pt:LR9) (w:Nat):Prop:=(w<=9/\Bd mv pt 1 1 (9^3) 0 0 14)\/(w<=9/\mv.9<=5/\Bd mv pt 2520 2520 (9^3*9) 12 12 16)\/(w=1000/\mv.9<=2/\∃M1 M2,Bd mv pt M1 M2 (9^3*2^20) 80 160 33)
def O6 (K:FG9):Sp:=λvs H Q _=>∃b:Addr,vs=[.ref b]/\ig H b /\
 ∀t r (w a c:Nat) mv pt lk H',H' t=some (.tup [.ref r,.int w])->gL K H H' r mv pt lk->fv mv pt lk->KJ mv pt lk->jw mv pt a c->Rg mv pt w->1<=w->w<=1000->ig H' b->c8 b H H'->Q (.ref t) H'
theorem Jm {M V:Nat} (h:GF M V l) (k:Nat):GF (k*M) V l:=λxs hx x hx'=>(h xs hx x hx').scaleL k
theorem Wa.n {n i o w c:Nat} (h:Wa n i o w c mv pt lk):PtF n i o w c mv pt lk:=by
 obtain M1|M2|M3|V1|a1|a2|a3|f1|f2|f3|hc:=h;rcases hc with ⟨w9,rfl,rfl,rfl,e⟩ | ⟨w9,e1,e2,e3,e⟩
 ·exact #[2520,V1,(),f1,f2,f3,.inl #[w9,rfl,e]]
 ·refine #[M1*M2*M3,V1,bQ (bQ a1 a2) a3,?_,?_,?_,.inr #[w9,?_,e]]
  ·have:=Jm f1 (M2*M3);rwa [show M2*M3*M1=M1*M2*M3 by rw[cv (M2*M3),dm]] at this
  ·have:=Jm f2 (M1*M3);rwa [show M1*M3*M2=M1*M2*M3 by rw[dm,cv M3,dm]] at this
  ·exact Jm f3 (M1*M2)
  ·refine ag (aL (aL e1 e2) e3) ?_;rw[<- aV,<- aV,show c*((n+i+o)*n)=c*(n*n)+c*(i*n)+c*(o*n) by rw[C9,C9,oO,oO]];exact ak _
def zd (n a1 a2:Nat):Nat:=a1*(n - 1)+a2
def zw (n a1 a2 c:Nat):Nat:=zd n a1 a2+c*n
def zq (n a1 a2 c:Nat):Nat:=n*(4+zw n a1 a2 c)
def ze (a1 a2 T b:Nat):Nat:=a1*T+a2+b
def zu (a1 a2 c T b g:Nat):Nat:=ze a1 a2 T b+(c*T+g+1)
abbrev ZS (n a1 a2 c T b g:Nat):Prop:=ze a1 a2 T b<=1500/\c*T+g<=1800/\zw n a1 a2 c+ze a1 a2 T b+zu a1 a2 c T b g+zd n a1 a2+2<=4300/\(n+1)*(zw n a1 a2 c+ze a1 a2 T b+zu a1 a2 c T b g+zd n a1 a2+6)<=8900/\a1*(T+1)+(a2+ze a1 a2 T b+zq n a1 a2 c)+c*(T+1)+(zd n a1 a2+3+zu a1 a2 c T b g+zq n a1 a2 c)<=3900/\a2+c<=3900/\a1*(T+1)+a2+c*(T+2)<=3900
abbrev ZP (n a1 a2 c T b g:Nat):Prop:=2*(zq n a1 a2 c+5+zu a1 a2 c T b g)+zu a1 a2 c T b g<=3930/\2*(zq n a1 a2 c+5+zu a1 a2 c T b g)+(a1*T+a2+c*(T+1))<=3930
theorem Mu {n n' a1 a2 c T T' b b' g:Nat} (hn:n<=n') (hT:T<=T') (hb:b<=b'):zd n a1 a2<=zd n' a1 a2/\zw n a1 a2 c<=zw n' a1 a2 c/\zq n a1 a2 c<=zq n' a1 a2 c/\ze a1 a2 T b<=ze a1 a2 T' b'/\zu a1 a2 c T b g<=zu a1 a2 c T' b' g/\a1*T<=a1*T'/\c*T<=c*T'/\a1*(T+1)<=a1*(T'+1)/\c*(T+1)<=c*(T'+1)/\c*(T+2)<=c*(T'+2):=by
 have e1:a1*(n - 1)<=a1*(n' - 1):=aO _ ();have e2:c*n<=c*n':=aO _ hn;have e3:a1*T<=a1*T':=aO _ hT;have e4:c*T<=c*T':=aO _ hT;have w:zw n a1 a2 c<=zw n' a1 a2 c:=by unfold zw zd;lia
 have q:zq n a1 a2 c<=zq n' a1 a2 c:=aL hn ();refine #[by unfold zd;lia,w,q,by unfold ze;lia,by unfold zu ze;lia,e3,e4,aO _ (),aO _ (),aO _ ()]
theorem me {n n' a1 a2 c T T' b b' g:Nat} (hn:n<=n') (hT:T<=T') (hb:b<=b') (h:ZS n' a1 a2 c T' b' g):ZS n a1 a2 c T b g:=by
 obtain h1|h2|h3|h4|h5|h6|h7:=h;obtain m1|m2|m3|m4|m5|m6|m7|m8|m9|m10:=Mu (a1:=a1) (a2:=a2) (c:=c) (g:=g) hn hT hb;refine #[(),(),(),ag (aL () ()) h4,(),h6,()]
theorem yP {n n' a1 a2 c T T' b b' g:Nat} (hn:n<=n') (hT:T<=T') (hb:b<=b') (h:ZP n' a1 a2 c T' b' g):ZP n a1 a2 c T b g:=by
 obtain h1|h2:=h;obtain m1|m2|m3|m4|m5|m6|m7|m8|m9|m10:=Mu (a1:=a1) (a2:=a2) (c:=c) (g:=g) hn hT hb;exact #[(),()]
section
variable {mv pt lk pus:LR9} {st pu go pr:List Rat} {M1 M2 V a1 a2 c B b g p t T w:Nat}
theorem Bd.kry (X:Bd mv pt M1 M2 V a1 a2 c) (D:fv mv pt lk):∀t,∀xs∈kry mv pt t,∀x∈xs,Fr (M1^(t - 1)*M2) (2^(c*t)) x:=by
 intro t
 induction t with
 | zero=>intro xs hx;exact nomatch hx
 | succ t ih =>
  intro xs hx x hx';rcases ay.mp (show xs∈pt++(L2.kry mv pt t).map (sG mv) from hx) with hx | hx
  ·refine Fr.up (X.gp xs hx x hx') (eX _ _) (ag X.v1 (ai () ?_));exact cN _ ()
  ·obtain ys|hy|rfl:=aA.mp hx;obtain row|hr|rfl:=aA.mp (show x∈mv.map λzs=>cA zs ys from hx');rcases t with _ | t
   ·exact nomatch hy
   have f:=Fr.dot (X.gm row hr) (ih ys hy);rw[show M1*(M1^(t+1 - 1)*M2)=M1^(t+1+1 - 1)*M2 by rw[<- dm,show t+1 - 1=t by lia,show t+1+1 - 1=t+1 by lia,eF,cv M1]] at f;refine f.mono ?_;rw[D.mw row hr,<- dm,show c*(t+1+1)=c+c*(t+1) by rw[oO c (t+1)];lia,aV 2 c];exact ax _ (ag (ax V (show mv.9<=mv.9+4 by lia)) X.vc)
theorem Bd.end (X:Bd mv pt M1 M2 V a1 a2 c) (D:fv mv pt lk) (ls:st.9=mv.9) (lp:pus.9=T) (wp:∀xs∈pus,xs.9=pt.9) (b0:0 < B) (b1:B<=2^b) (hs:∀x∈st,Fr B (2^g) x) (hu:∀xs∈pus,∀x∈xs,Fr B (2^g) x) (Z:ZS mv.9 a1 a2 c T b g):OQ mv pt pus st/\∀k,k<=T->∀x∈qJ mv pt st pus k,Fr (M1^k*(M2*B)) (2^(c*k+g)) x:=by
 obtain h1|h2|h3|h4|h5|h6|h7:=Z;have n0:0 < M2*B:=bQ X.m2 b0;have hN:M2*B<=2^(a2+b):=by rw[aV];exact aL X.b2 b1
 have hs':∀x∈st,Fr (M2*B) (2^g) x:=λx hx=>(hs x hx).scaleL _
 have sz:a1*(pus.9+1)+(a2+b)+c*(pus.9+1)+g<=3900:=by
  rw[lp];unfold zu ze at h5
  lia
 exact #[#[M1,M2,V,a1,a2,c,M2*B,B,g,a2+b,X,n0,hN,pz _,hs',hu,sz,h6],λk hk=>(X.states D ls wp n0 hN (pz _) hs' hu sz h6 k ()).1]
theorem Ug (h:ZS n a1 a2 c T b (g+1)):ZS n a1 a2 c T b g:=by
 obtain h1|h2|h3|h4|h5|h6|h7:=h;have e:zu a1 a2 c T b g<=zu a1 a2 c T b (g+1):=by unfold zu;lia
 exact #[h1,(),(),ag (aO _ ()) h4,(),h6,h7]
structure Us (mv pt:LR9) (w T M1 M2 V a1 a2 c b1 b2:Nat):Prop where
 bd:Bd mv pt M1 M2 V a1 a2 c
 z1:ZS mv.9 a1 a2 c T b1 23
 zp:ZP mv.9 a1 a2 c T b1 23
 z2:ZS mv.9 a1 a2 c T b2 23
 dr:∀l:List Rat,(∀x∈l,Dr (max w 6) x)->∃B,0 < B/\6∣B/\(∀x∈l,Fr B (2^22) x)/\(l.9<=2*mv.9+T*pt.9->B<=2^b1)/\(l.9<=2*mv.9+2*(T*pt.9)->B<=2^b2)
end
open PySem.MeetsSeq
theorem Cz (RR:bI rows n R ps) (far:∀c,n<=c->x c=0) (hx:∀j,j < ps.9->(bD n λc=>ck R j c*x c)=0):fI (aU R ps n).9 (ck (aU R ps n)) x:=by
 have Rf:=RR.2.2;have lN:(aU R ps n).9=(kN ps n).9:=by unfold aU;rw[af]
 have fN:∀t,t < (aU R ps n).9->(kN ps n).getD t 0 < n/\(kN ps n).getD t 0∉ps:=λt ht=>uV.mp (getD_in ())
 have vN:∀t,t < (aU R ps n).9->∀c,ck (aU R ps n) t c=(Kk R ps n ((kN ps n).getD t 0)).getD c 0:=λt ht c=>by
  have h:t < (kN ps n).9:=()
  unfold ck aU;rw[aa (l:=List.map _ _),aD,ae h,aa (l:=kN ps n),ae h];rfl
 have nd:(kN ps n).Nodup:=by
  unfold kN;exact List.Nodup.sublist List.filter_sublist List.nodup_range
 refine #[λt=>x ((kN ps n).getD t 0),λc=>?_]
 suffices y0:∀c,x c - (bD (aU R ps n).9 λt=>x ((kN ps n).getD t 0)*ck (aU R ps n) t c)=0 by
  have:=y0 c;grind
 have free:∀c,c < n->c∉ps->x c - (bD (aU R ps n).9 λt=>x ((kN ps n).getD t 0)*ck (aU R ps n) t c)=0:=λc hc hp=>by
  obtain t0|h0|e0:=bM (uV.mpr #[hc,hp]);have g0:(kN ps n).getD t0 0=c:=by rw[aa,ae h0];exact e0
  rw[fJ (i:=t0) () λt ht ne=>?_,vN t0 (),D5 hc hp,g0,if_pos rfl]
  ·grind
  ·rw[vN t ht,D5 hc hp,if_neg λz=>ne ?_]
   ·grind
   ·have ht':t < (kN ps n).9:=()
    have z:(kN ps n)[t]=(kN ps n)[t0]:=by
     rw[aa,ae ht'] at z;rw[e0];exact z.symm
    have pw:=T5.mp nd;rcases fF t t0 with y | y | y
    ·exact absurd z (pw t t0 ht' h0 y)
    ·exact y
    ·exact absurd z.symm (pw t0 t h0 ht' y)
 have dN:∀j,j < ps.9->∀t,t < (aU R ps n).9->(bD n λc=>ck R j c*ck (aU R ps n) t c)=0:=λj hj t ht=>by
  have hj':j < R.9:=by rw[RR.1];exact hj
  have wr:=RR.2.1 _ (aM hj');have dz:=Jb (v8 RR) (fN t ht).1 (fN t ht).2 (ae hj') wr;rw[dR (by rw[wr];exact pX.symm),wr] at dz;refine Eq.trans (aP λc _=>?_) dz;rw[vN t ht];unfold ck;rw[aa (l:=R),ae hj'];rfl
 have dY:∀j,j < ps.9->(bD n λc=>ck R j c*(x c - (bD (aU R ps n).9 λt=>x ((kN ps n).getD t 0)*ck (aU R ps n) t c)))=0:=λj hj=>by
  have e:∀c,c < n->ck R j c*(x c - (bD (aU R ps n).9 λt=>x ((kN ps n).getD t 0)*ck (aU R ps n) t c))=ck R j c*x c+(-1)*(bD (aU R ps n).9 λt=>x ((kN ps n).getD t 0)*(ck R j c*ck (aU R ps n) t c)):=λc _=>by
   have:(bD (aU R ps n).9 λt=>x ((kN ps n).getD t 0)*(ck R j c*ck (aU R ps n) t c))=ck R j c*bD (aU R ps n).9 λt=>x ((kN ps n).getD t 0)*ck (aU R ps n) t c:=by
    rw[<- cL];exact aP λt _=>by grind
   rw[this];grind
  rw[aP e,oA,hx j hj,cL,eU,dh (k:=(aU R ps n).9) λt ht=>?_]
  ·grind
  ·rw[cL,dN j hj t ht];grind
 intro c;by_cases hc:c < n
 ·by_cases hp:c∈ps
  ·obtain j|hj|ej:=bM hp;have g:ps.getD j 0=c:=by rw[aa,ae hj];exact ej
   have:=dY j hj;rw[fJ (i:=c) hc λc' hc' ne=>?_] at this
   ·have u:=Rf.unit j hj j hj;rw[g,if_pos rfl] at u;rw[u] at this;grind
   ·by_cases hp':c'∈ps
    ·obtain i|hi|ei:=bM hp';have gi:ps.getD i 0=c':=by rw[aa,ae hi];exact ei
     have u:=Rf.unit j hj i hi;rw[gi,if_neg (λz=>ne (by rw[<- gi,<- g,z]))] at u;rw[u];grind
    ·rw[free c' hc' hp'];grind
  ·exact free c hc hp
 ·rw[far c (),dh λt _=>by rw[xU oX ()];grind];grind
inductive Cf (K:FG9) (vs:List V) (H:Hp) (Q:VK) (E9:XK):Prop
 | mk (p:Addr) (n w:Nat) (H0:Hp) (rows R:LR9) (ps:List Nat):vs=[.ref p,.int n]->bp K H0 H p R->R.9<=100->n<=100->bI rows n R ps->C6 R n w->(∀xs∈R,∀x∈xs,mU x)->(∀r H',H r=none->aH H H'->bp K H H' r (aU R ps n)->Q (.ref r) H')->Cf K vs H Q E9
theorem jV.symm (h:jV xs ys):jV ys xs:=by obtain k|j|k'|j'|a|b|c:=h;exact #[k',j',k,j,b,a,()]
def We (mv pt:LR9) (T u:Nat):Prop:=(∃R ps ps',bI (kry mv pt u) mv.9 R ps/\bI (kry mv pt T) mv.9 R ps')/\∀i,i < u->∀R ps ps',bI (kry mv pt i) mv.9 R ps->¬bI (kry mv pt T) mv.9 R ps'
def VL (mv pt:LR9) (T:Nat) (L:List Rat) (pus:LR9):Prop:=∃u R ps,We mv pt T u/\bI (dD (cu (kry mv pt u) mv.9) L) ((kry mv pt u).9+1) R ps/\(kry mv pt u).9∉ps/\pus=zZ (ip R ps (kry mv pt u).9) T u pt.9
def Wf (mv pt:LR9) (T:Nat) (L pr:List Rat):Prop:=∃u R ps R' ps',We mv pt T u/\bI (dD (cu (kry mv pt u) mv.9) L) ((kry mv pt u).9+1) R ps/\(kry mv pt u).9∈ps/\bI (dD (kry mv pt u++[L]) (List.replicate (kry mv pt u).9 0++[1])) (mv.9+1) R' ps'/\pr=ip R' ps' mv.9
section
variable {mv pt:LR9} {T u u':Nat} {L pr pr':List Rat} {pus pus':LR9} {Rs:List (LR9)}
theorem uF.lt (h:uF mv pt Rs):∀(k i:Nat) (R R':LR9),Rs[i]?=some R->Rs[i+1+k]?=some R'->R.9 < R'.9
 | 0,i,R,R',a,b=>h.up i R R' a b
 | k+1,i,R,R',a,b=>by
  have hk:i+1+k < Rs.9:=by have:=(aE.mp b).1;lia
  have e:Rs[i+1+k]?=some Rs[i+1+k]:=ae hk;exact Nat.lt_trans (h.lt k i R _ a e) (h.up (i+1+k) _ R' e b)
theorem uF.cmu (h:uF mv pt Rs) (eR:Rs[u]?=some R) (RRT:bI (kry mv pt T) mv.9 R psT):We mv pt T u:=by
 obtain ps|RRu:=h.rr u R eR;refine #[#[R,ps,psT,RRu,RRT],λi hi R1 ps1 ps2 a b=>?_];have hu:=(aE.mp eR).1;have ei:Rs[i]?=some (Rs[i]'()):=ae ();obtain psi|RRi:=h.rr i _ ei;have lt:=h.lt (u - i - 1) i _ R ei (by rw[show i+1+(u - i - 1)=u by lia];exact eR);have e1:=(RRi.same a).1;have e2:=(RRT.same b).1;rw[e1,e2] at lt;exact fz _ lt
end
inductive Fy (K:FG9) (C:Addr) (vs:List V) (H:Hp) (Q:VK) (E9:XK):Prop
 | mk (x s g:Addr) (T a c D W0 E W1:Nat) (H0:Hp) (mv pt lk:LR9) (st go:List Rat):vs=[.ref x,.ref s,.ref g,.int T]->T<=99->j9 K H0 H C x mv pt lk->fv mv pt lk->KJ mv pt lk->jw mv pt a c->cS K H s st->st.9=mv.9->cS K H g go->go.9=mv.9->EX mv pt st (List.replicate T (List.replicate pt.9 0))->(∀x∈go,mU x)->VJ mv pt (i5 mv T st go) D W0 E W1->((∀t p pus q H',H' t=some (.tup [.str (Str.ofString "puts"),.ref p])->H p=none->aH H H'->bp K H H' p pus->pus.9=T->(∀xs∈pus,xs.9=pt.9)->qJ mv pt st pus T=go->VL mv pt T (i5 mv T st go) pus->0 < q->q<=(16*W0)^mv.9->(∀xs∈pus,∀x∈xs,Tp (E*q) (D*(mv.9*(W1*(16*W0)^mv.9))) x)->Q (.ref t) H')/\(∀t p pr q H',H' t=some (.tup [.str (Str.ofString "never"),.ref p])->H p=none->aH H H'->cS K H' p pr->pr.9=mv.9->(∀xs∈kry mv pt T,cA xs pr=0)->cA pr (i5 mv T st go)=1->Wf mv pt T (i5 mv T st go) pr->0 < q->q<=(16*W0)^mv.9*(16*(W1+E))->(∀y∈pr,Tp q ((16*W0)^mv.9*(16*(W1+E))) y)->Q (.ref t) H'))->Fy K C vs H Q E9
def ML (K:FG9):Sp:=λvs H Q E=>∃p q n,vs=[p,q,n]/\BX K [q,p,n] H Q E
section
variable {α β γ:Type} [DecidableEq α] [DecidableEq β] [DecidableEq γ] (k1:Kind α) (k2:Kind β) (k3:Kind γ)
theorem vals3 (r:dg [x,y,z] us):∃u v w,us=[u,v,w]/\RelV x u/\RelV y v/\RelV z w:=by
 cases r with
 | cons a r=>cases r with
  | cons b r=>cases r with
   | cons c r=>cases r;exact #[_,_,_,rfl,a,b,c]
def e3 (a b:α×β×γ) (j:Nat):Bool:=if j=0 then decide (a.1=b.1) else if j=1 then decide (a.2.1=b.2.1) else decide (a.2.2=b.2.2)
theorem E8 {X:Cx} {pins:List (Addr×Obj)} {σ:St} {H:Hp} {s:Shared} {A:Around} (I:Inv X pins σ H s) (h1:A.units+k1.d < cLine) (h2:A.units+k2.d < cLine) (h3:A.units+k3.d < cLine) {x y z x' y' z':V} {us ws:List Value} {a b:α×β×γ}
  (rx:dg [x,y,z] us) (ry:dg [x',y',z'] ws) (a1:k1.R X.K H x a.1) (a2:k2.R X.K H y a.2.1) (a3:k3.R X.K H z a.2.2) (b1:k1.R X.K H x' b.1) (b2:k2.R X.K H y' b.2.1) (b3:k3.R X.K H z' b.2.2) :
  ∀j (h1:j < us.5.7) (h2:j < ws.5.7),SeqAt.EqAt A s us.5[j] ws.5[j] (e3 a b j):=λj l1 l2=>by
 obtain u1|u2|u3|rfl|r1|r2|r3:=vals3 rx;obtain w1|w2|w3|rfl|q1|q2|q3:=vals3 ry;have hj:j < 3:=by simpa using l1
 rcases (show j=0\/j=1\/j=2 by lia) with rfl | rfl | rfl
 ·exact k1.eq (A:=A) I r1 q1 a1 b1 h1
 ·exact k2.eq (A:=A) I r2 q2 a2 b2 h2
 ·exact k3.eq (A:=A) I r3 q3 a3 b3 h3
theorem KZ {a b:α×β×γ}:(List.range 3).all (e3 a b)=decide (a=b):=by
 have e:List.range 3=[0,1,2]:=rfl;rw[e];simp only[Ue,List.all_nil,Bool.and_true];show (decide (a.1=b.1) && (decide (a.2.1=b.2.1) && decide (a.2.2=b.2.2)))=_
 rw[<- Bool.decide_and,<- Bool.decide_and];exact decide_eq_decide.mpr #[λ#[h1,h2,h3]=>Prod.ext h1 (Prod.ext h2 h3),λh=>by rw[h];exact #[rfl,rfl,rfl]]
end
def TM (mv pt:LR9) (st go:List Rat) (u:Nat) (A:LR9->Prop) (B:List Rat->Prop):Prop:=∃D W0 E W1,CtF mv pt u st go D W0 E W1 /\
 (∀(pus:LR9) (q:Nat),pus.9=u->(∀xs∈pus,xs.9=pt.9)->qJ mv pt st pus u=go->VL mv pt u (i5 mv u st go) pus->0 < q->q<=(16*W0)^mv.9->(∀xs∈pus,∀x∈xs,Tp (E*q) (D*(mv.9*(W1*(16*W0)^mv.9))) x)->A pus) /\
 (∀(pr:List Rat) (q:Nat),pr.9=mv.9->(∀xs∈kry mv pt u,cA xs pr=0)->cA pr (i5 mv u st go)=1->Wf mv pt u (i5 mv u st go) pr->0 < q->q<=(16*W0)^mv.9*(16*(W1+E))->(∀y∈pr,Tp q ((16*W0)^mv.9*(16*(W1+E))) y)->B pr)
def QT (mv pt:LR9) (st go:List Rat) (u:Nat) (pus:LR9):Prop:=pus.9=u/\(∀xs∈pus,xs.9=pt.9)/\qJ mv pt st pus u=go/\VL mv pt u (i5 mv u st go) pus/\OQ mv pt pus st
def Mi (mv pt:LR9) (st go:List Rat) (u:Nat) (pr:List Rat):Prop:=pr.9=mv.9/\(∀xs∈kry mv pt u,cA xs pr=0)/\cA pr (i5 mv u st go)=1/\Wf mv pt u (i5 mv u st go) pr/\PrF mv pt u st go pr
section
variable {mv pt lk:LR9} {st go:List Rat} {M1 M2 V a1 a2 c B b g T u w b1 b2:Nat}
def GoB (mv pt:LR9) (M1 M2 c b1 T:Nat) (st go:List Rat):Prop:=∃B,0 < B/\B<=2^b1/\(∀x∈st,Fr B (2^22) x)/\∀x∈go,Fr (M1^T*(M2*B)) (2^(c*T+23)) x
theorem Us.gob (U:Us mv pt w T M1 M2 V a1 a2 c b1 b2) (D:fv mv pt lk) (ls:st.9=mv.9) (lg:go.9=mv.9) (hs:∀x∈st,Dr (max w 6) x) (hT:T'<=T) (hg:GoP mv pt T' w st go):GoB mv pt M1 M2 c b1 T st go:=by
 have up:2^(c*T+22)+1<=2^(c*T+23):=by
  rw[show c*T+23=1+(c*T+22) by lia,aV 2 1];have:0 < 2^(c*T+22):=d6 ()
  lia
 rcases hg with hg | ⟨pus,hp,hg⟩
 ·obtain B|h0|h6|h|h1|_:=U.dr (st++go) λx hx=>(ay.mp hx).elim (hs x) (hg x)
  exact #[B,h0,h1 (by rw[ar,ls,lg];lia),λx hx=>h x (fb _ hx),λx hx=>Fr.up (h x (bL _ hx)) (nH (eX _ _) (eX _ _)) (ai () ())]
 ·obtain B|h0|h6|h|h1|_:=U.dr (st++pus.flatten) λx hx=>by
   rcases ay.mp hx with hx | hx
   ·exact hs x hx
   ·obtain xs|m1|m2:=jz.mp hx;exact (hp.2 xs m1).2 x m2
  have hm:T'*pt.9<=T*pt.9:=ax _ hT
  have h1:=h1 (by
   rw[ar,uW λxs hx=>(hp.2 xs hx).1,hp.1,ls]
   lia)
  have f1:∀x∈st,Fr B (2^22) x:=λx hx=>h x (fb _ hx)
  have f2:∀xs∈pus,∀x∈xs,Fr B (2^22) x:=λxs hx x hx'=>h x (bL _ (jz.mpr #[xs,hx,hx']))
  have fe0:=(U.bd.end D ls hp.1 (λxs hx=>(hp.2 xs hx).1) h0 h1 f1 f2 (me (ak _) hT (ak _) (Ug U.z1))).2 T' (ak _);have fe:∀x∈qJ mv pt st pus T',Fr (M1^T*(M2*B)) (2^(c*T+22)) x:=λx hx=>Fr.up (fe0 x hx) (Nat.mul_dvd_mul_right (Nat.pow_dvd_pow _ hT) _) (ai () (Nat.add_le_add_right (aO _ hT) _))
  refine #[B,h0,h1,f1,λx hx=>?_];rcases hg with rfl | ⟨a,v,v3,rfl⟩
  ·exact (fe x hx).mono ()
  ·rcases cG hx with hx | rfl
   ·exact (fe x hx).mono ()
   ·have u1:Fr (M1^T*(M2*B)) 1 (O2 v):=(QY v3).dvd (nH h6 (nH (eX _ _) (eX _ _)))
    have u2:Fr (M1^T*(M2*B)) (2^(c*T+22)) ((qJ mv pt st pus T').getD a 0):=by
     rw[aa];cases h:(qJ mv pt st pus T')[a]? with
     | none=>exact Fr.zero
     | some y=>exact fe y (av h)
    exact (u2.add u1).mono up
theorem Us.enf (U:Us mv pt w T M1 M2 V a1 a2 c b1 b2) (D:fv mv pt lk) (ls:st.9=mv.9) (hs:∀x∈st,Dr (max w 6) x) (hT:T'<=T) (hp:VI pt T' w pus):OQ mv pt pus st:=by
 obtain B|h0|h6|h|h1|_:=U.dr (st++pus.flatten) λx hx=>by
  rcases ay.mp hx with hx | hx
  ·exact hs x hx
  ·obtain xs|m1|m2:=jz.mp hx;exact (hp.2 xs m1).2 x m2
 have hm:T'*pt.9<=T*pt.9:=ax _ hT
 have h1:=h1 (by
  rw[ar,uW λxs hx=>(hp.2 xs hx).1,hp.1,ls]
  lia)
 exact (U.bd.end D ls hp.1 (λxs hx=>(hp.2 xs hx).1) h0 h1 (λx hx=>h x (fb _ hx)) (λxs hx x hx'=>h x (bL _ (jz.mpr #[xs,hx,hx']))) (me (ak _) hT (ak _) (Ug U.z1))).1
end
def SoR (mv pt:LR9) (st go:List Rat) (T:Nat) (kv:V) (pus prs:LR9):Prop:=(∀j pr,prs[j]?=some pr->Mi mv pt st go j pr)/\((∃k:Nat,kv=.int k/\k<=T/\prs.9=k/\QT mv pt st go k pus)\/(kv=.non/\pus=[]/\prs.9=T+1))
inductive Fh (K:FG9) (C:Addr) (vs:List V) (H:Hp) (Q:VK) (E9:XK):Prop
 | mk (x s g:Addr) (T a c:Nat) (H0:Hp) (mv pt lk:LR9) (st go:List Rat):vs=[.ref x,.ref s,.ref g,.int T]->T<=98->j9 K H0 H C x mv pt lk->fv mv pt lk->KJ mv pt lk->jw mv pt a c->cS K H s st->st.9=mv.9->cS K H g go->go.9=mv.9->(∀u,u<=T->TM mv pt st go u (QT mv pt st go u) (Mi mv pt st go u))->(∀kv t p r pus prs Hm H',H' t=some (.tup [kv,.ref p,.ref r])->aH H Hm->aH Hm H'->H r=none->bp K H Hm r prs->Hm p=none->bp K Hm H' p pus->SoR mv pt st go T kv pus prs->Q (.ref t) H')->Fh K C vs H Q E9
theorem NC (RR:bI rows n R ps) (hw:∀xs∈rows,xs.9=n):∀z∈aU R ps n,∀xs∈rows,cA xs z=0:=λz hz xs hx=>by
 obtain a|h1|h2|rfl:=qC hz;obtain i|hi|rfl:=bM hx;exact Jb RR h1 h2 (ae hi) (hw _ (aM hi))
theorem mul_pow (h:a<=2^c) (h':b<=2^d):a*b<=2^(c+d):=by
 rw[aV];exact aL h h'
section
variable {mv pt lk F R:LR9} {n m:Nat} {ps:List Nat} {x:Nat->Rat} {st pu:List Rat}
theorem J7 {a:Nat->Nat->Rat} {f:Nat->Nat->Rat} {w:Nat->Rat}:∀k,(∀i,i < k->fI m a (f i))->fI m a λc=>bD k λi=>w i*f i c
 | 0,_=>fI.zero λ_=>rfl
 | k+1,h=>by
  have:=fI.lin 1 (w k) (J7 (w:=w) k λi hi=>h i ()) (h k ());exact this.congr λc=>by show _=bD k _+_;grind
theorem Ks (KF:jw mv pt a c) (D8:mv.9<=8) (wm:∀xs∈mv,xs.9=mv.9) (wp:∀xs∈pt,xs.9=mv.9) (RR:bI (kry mv pt mv.9) mv.9 R ps):(∀k,k < pt.9->fI ps.9 (ck R) (ck pt k))/\∀x:Nat->Rat,fI ps.9 (ck R) x->fI ps.9 (ck R) λc=>bD mv.9 λj=>ck mv c j*x j:=by
 obtain R0|ps0|G:=N4 KF D8 wm wp (mv.9+1);have R1:=G.late (gE _) (ak _);have R2:=G.late (gE _) (kY mv.9);obtain rfl|rfl:=RR.same R1;have B:=Gg rfl wm wp R1 R2;have sp:=B.2.2.span;refine #[λk hk=>?_,λx hx=>?_]
 ·have:=sp k (by rw[ar];lia);rwa [LR hk] at this
 ·obtain w|hw:=hx
  have key:=J7 (w:=w) (f:=λs=>ck (R.map (sG mv)) s) ps.9 λs hs=>by
   have:=sp (pt.9+s) (by rw[ar,af,RR.1];lia);rwa [OF] at this
  refine key.congr λc=>?_
  have e:(bD mv.9 λj=>ck mv c j*x j)=bD mv.9 λj=>bD ps.9 λs=>w s*(ck mv c j*ck R s j):=aP λj _=>by
   rw[hw j,<- cL];exact aP λs _=>by grind
  rw[e,eU];refine aP λs hs=>?_
  rw[cL,Kj rfl wm RR.2.1 (by rw[RR.1];exact hs)]
theorem NA (KF:jw mv pt a c) (D8:mv.9<=8) (wm:∀xs∈mv,xs.9=mv.9) (wp:∀xs∈pt,xs.9=mv.9) (RR:bI (kry mv pt mv.9) mv.9 R ps) (hz:z∈aU R ps mv.9) (hk:k < pt.9):(bD mv.9 λc=>ck pt k c*z.getD c 0)=0:=by
 obtain w|hw:=(Ks KF D8 wm wp RR).1 k hk
 have e:(bD mv.9 λc=>ck pt k c*z.getD c 0)=bD mv.9 λc=>bD ps.9 λs=>w s*(ck R s c*z.getD c 0):=aP λc _=>by
  rw[hw c,cP,<- cL];exact aP λs _=>by grind
 rw[e,eU];refine dh λs hs=>?_
 rw[cL];obtain b|h1|h2|rfl:=qC hz;have hs':s < R.9:=by rw[RR.1];exact hs
 have ws:=RR.2.1 _ (aM hs');have d:=Jb (v8 RR) h1 h2 (ae hs') ws;rw[dR (by rw[ws];exact pX.symm),ws] at d
 have:(bD mv.9 λc=>ck R s c*(Kk R ps mv.9 b).getD c 0)=0:=by
  refine Eq.trans (aP λc _=>?_) d;unfold ck;rw[aa (l:=R),ae hs'];rfl
 rw[this,fE]
end
theorem yn:∀{ps:List Nat},Paired (λj x=>x=V.int ((j:Nat):Int)) ps (d5 ps)
 | []=>.nil
 | _ :: _=>.cons rfl yn
inductive zH (K:FG9) (vs:List V) (H:Hp) (Q:VK) (E9:XK):Prop
 | mk (p q:Addr) (w:Nat) (H0 H1:Hp) (one other:LR9):vs=[.ref p,.ref q,.int w]->bp K H0 H p one->bp K H1 H q other->one.9<=1000->other.9<=1000->w<=1000->((∀xs∈one,xs.9=other.9/\∀ys∈cu other w,jV ys xs))->(∀xs∈other,xs.9=w)->(∀r H',H r=none->aH H H'->bp K H H' r (dJ one other w)->Q (.ref r) H')->zH K vs H Q E9
inductive zA (K:FG9) (C:Addr) (vs:List V) (H:Hp) (Q:VK) (E9:XK):Prop
 | mk (x p:Addr) (H0 H1:Hp) (mv pt lk N:LR9):vs=[.ref x,.ref p]->j9 K H0 H C x mv pt lk->fv mv pt lk->bp K H1 H p N->N.9<=100->((∀xs∈N,xs.9=mv.9/\∀ys∈cu mv mv.9,jV ys xs))->(∀r H',H r=none->aH H H'->bp K H H' r (dJ N mv mv.9)->Q (.ref r) H')->zA K C vs H Q E9
def nM (mv R:LR9) (ps:List Nat):LR9:=(dJ (aU R ps mv.9) mv mv.9).map λrow=>(kN ps mv.9).map λpl=>row.getD pl 0
theorem ND (hi:i < (aU R ps n).9) (hb:b < n) (hp:b∉ps):ck (aU R ps n) i b=if b=(kN ps n).getD i 0 then 1 else 0:=by
 have lN:(aU R ps n).9=(kN ps n).9:=af ..;have h:i < (kN ps n).9:=()
 have e:ck (aU R ps n) i b=(Kk R ps n ((kN ps n).getD i 0)).getD b 0:=by
  unfold ck aU;rw[aa (l:=List.map _ _),aD,ae h,aa (l:=kN ps n),ae h];rfl
 rw[e,D5 hb hp]
theorem Tt (hi:i < (kN ps n).9) (hj:j < (kN ps n).9) (h:(kN ps n).getD i 0=(kN ps n).getD j 0):i=j:=by
 have nd:(kN ps n).Nodup:=by
  unfold kN;exact List.Nodup.sublist List.filter_sublist List.nodup_range
 have pw:=T5.mp nd;have e:∀k (hk:k < (kN ps n).9),(kN ps n).getD k 0=(kN ps n)[k]:=λk hk=>by rw[aa,ae hk];rfl
 rw[e i hi,e j hj] at h;rcases fF i j with y | y | y
 ·exact absurd h (pw i j hi hj y)
 ·exact y
 ·exact absurd h.symm (pw j i hj hi y)
theorem MC (wN:∀xs∈N,xs.9=mv.9) (hi:i < N.9) (hb:b < mv.9):ck (dJ N mv mv.9) i b=bD mv.9 λc=>ck mv c b*ck N i c:=by
 unfold ck dJ;rw[aa (l:=List.map _ N),aD,ae hi];show ((cu mv mv.9).map λys=>cA ys N[i]).getD b 0=_
 rw[aa,aD,vV hb];show cA (mv.map λxs=>xs.getD b 0) N[i]=_
 rw[dR (by rw[af,wN _ (aM hi)]),af];refine aP λc _=>?_
 rw[NK];unfold ck;rw[aa (l:=N),ae hi];rfl
theorem Qi (KF:jw mv pt a c) (D8:mv.9<=8) (wm:∀xs∈mv,xs.9=mv.9) (wp:∀xs∈pt,xs.9=mv.9) (RR:bI (kry mv pt mv.9) mv.9 R ps) (hi:i < (aU R ps mv.9).9) (hb:b < mv.9):ck (dJ (aU R ps mv.9) mv mv.9) i b=bD (aU R ps mv.9).9 λt=>ck (dJ (aU R ps mv.9) mv mv.9) i ((kN ps mv.9).getD t 0)*ck (aU R ps mv.9) t b:=by
 have wN:∀xs∈aU R ps mv.9,xs.9=mv.9:=oX;have lN:(aU R ps mv.9).9=(kN ps mv.9).9:=af ..;have inv:=(Ks KF D8 wm wp RR).2
 have far:∀c,mv.9<=c->ck (dJ (aU R ps mv.9) mv mv.9) i c=0:=λc hc=>xU (λxs hx=>by
  obtain z|_|rfl:=aA.mp hx;rw[af,dC]) hc
 have dz:∀x:Nat->Rat,fI ps.9 (ck R) x->(bD mv.9 λc=>x c*ck (aU R ps mv.9) i c)=0:=λx #[w,hw]=>by
  have e:(bD mv.9 λc=>x c*ck (aU R ps mv.9) i c)=bD mv.9 λc=>bD ps.9 λs=>w s*(ck R s c*ck (aU R ps mv.9) i c):=aP λc _=>by
   rw[hw c,cP,<- cL];exact aP λs _=>by grind
  rw[e,eU];refine dh λs hs=>?_
  rw[cL];have hs':s < R.9:=by rw[RR.1];exact hs
  have ws:=RR.2.1 _ (aM hs');have hz:=aM hi;have d:=NC (v8 RR) RR.2.1 _ hz _ (aM hs');rw[dR (by rw[ws,wN _ hz]),ws] at d
  have:(bD mv.9 λc=>ck R s c*ck (aU R ps mv.9) i c)=0:=by
   refine Eq.trans (aP λc _=>?_) d;unfold ck;rw[aa (l:=R),ae hs',aa (l:=aU R ps mv.9),ae hi];rfl
  rw[this,fE]
 have sp:=Cz RR far λj hj=>by
  have e:(bD mv.9 λb=>ck R j b*ck (dJ (aU R ps mv.9) mv mv.9) i b)=bD mv.9 λc=>(bD mv.9 λb=>ck mv c b*ck R j b)*ck (aU R ps mv.9) i c:=by
   have e1:(bD mv.9 λb=>ck R j b*ck (dJ (aU R ps mv.9) mv mv.9) i b)=bD mv.9 λb=>bD mv.9 λc=>ck (aU R ps mv.9) i c*(ck mv c b*ck R j b):=aP λb hb=>by
    rw[MC wN hi hb,<- cL];exact aP λc _=>by grind
   rw[e1,eU];exact aP λc _=>by rw[cL];exact cP _ _
  rw[e];exact dz _ (inv _ (fI.row hj))
 obtain w|hw:=sp
 have hw':∀s,s < (aU R ps mv.9).9->w s=ck (dJ (aU R ps mv.9) mv mv.9) i ((kN ps mv.9).getD s 0):=λs hs=>by
  have fs:=uV.mp (getD_in (e:=0) (show s < (kN ps mv.9).9 by lia));rw[hw,fJ hs λt ht ne=>?_,ND hs fs.1 fs.2,if_pos rfl,C8];rw[ND ht fs.1 fs.2,if_neg (λz=>ne (Tt () () z).symm),fE]
 rw[hw b];exact aP λt ht=>by rw[hw' t ht]
theorem uM:(nM mv R ps).9=(aU R ps mv.9).9:=by unfold nM dJ;rw[af,af]
theorem BS:∀xs∈nM mv R ps,xs.9=(aU R ps mv.9).9:=λxs hx=>by
 obtain z|_|rfl:=aA.mp hx;rw[af];exact (af ..).symm
structure QQ (mv pt:LR9) (w T M1 M2 V a1 a2 c a0 c0 b:Nat):Prop where
 bd:Bd mv pt M1 M2 V a1 a2 c
 kf:jw mv pt a0 c0
 nm:∀r,r<=mv.9->2*((mv.9 - r)*(r*((mv.9 - 1)*(a0+c0)+4)+4)+r*((mv.9 - 1)*(a0+c0)+4))<=3990
 kl:2*(mv.9*(c*mv.9+(a1*(mv.9 - 1)+a2)+4)+(a1*(mv.9 - 1)+a2))<=3990
 dr:∀l:List Rat,(∀x∈l,Dr (max w 6) x)->l.9<=mv.9+T*pt.9->∃B,0 < B/\B<=2^b/\∀x∈l,Fr B (2^22) x
 sz:4*(mv.9*((mv.9 - 1)*(a0+c0)+4))+(a1+c)+(a1*(T+2)+a2+b+c*(T+2)+22)+20<=3900
theorem VX:∀n,n < 9->∀r,r < 9->decide (r<=n->2*((n - r)*(r*((n - 1)*(0+13)+4)+4)+r*((n - 1)*(0+13)+4))<=3990)=true:=by decide +kernel
theorem VW:∀n,n < 6->∀r,r < 6->decide (r<=n->2*((n - r)*(r*((n - 1)*(12+16)+4)+4)+r*((n - 1)*(12+16)+4))<=3990)=true:=by decide +kernel
theorem VV:∀n,n < 3->∀r,r < 3->decide (r<=n->2*((n - r)*(r*((n - 1)*(240+32)+4)+4)+r*((n - 1)*(240+32)+4))<=3990)=true:=by decide +kernel
theorem VU:∀n,n < 3->∀r,r < 3->decide (r<=n->2*((n - r)*(r*((n - 1)*(12+12)+4)+4)+r*((n - 1)*(12+12)+4))<=3990)=true:=by decide +kernel
theorem UG (R:Rg mv pt w) (D:fv mv pt lk) (S:QR mv pt T):∃M1 M2 V a1 a2 c a0 c0 b,QQ mv pt w (T+1) M1 M2 V a1 a2 c a0 c0 b:=by
 have i4:=D.i4;have n8:=D.n8;have small:w<=9->∀l:List Rat,(∀x∈l,Dr (max w 6) x)->l.9<=mv.9+(T+1)*pt.9->∃B,0 < B/\B<=2^12/\∀x∈l,Fr B (2^22) x:=λw9 l h _=>#[2520,(),(),λx hx=>(Ej #[ag (h x hx).1 (),ag (h x hx).2 ()] (pz _)).mono ()]
 have wide:w=1000->∀t,(T+1)*pt.9<=t->mv.9<=2->∀l:List Rat,(∀x∈l,Dr (max w 6) x)->l.9<=mv.9+(T+1)*pt.9->∃B,0 < B/\B<=2^(22+10*t)/\∀x∈l,Fr B (2^22) x:=λw9 t ht n2 l h hl=>by
  obtain B|h0|h1|h2:=CM (c:=10) (l:=l) (λx hx=>#[ag (h x hx).1 (by rw[w9];decide),ag (h x hx).2 (by rw[w9];decide)]) ();exact #[B,h0,ag h1 (ai () ()),h2]
 have mul:∀{x y p q:Nat},x<=p->y<=q->x*y<=p*q:=λh h'=>aL h h'
 have T12:=S.1;rcases R with ⟨w9,X⟩ | ⟨w9,n5,X⟩ | ⟨w9,n2,M1,M2,X⟩
 ·have k1:(8+1)*9^3<=2^13:=()
  have e8:mv.9*((mv.9 - 1)*(0+13)+4)<=8*95:=mul n8 ();have e9:mv.9*(14*mv.9+(0*(mv.9 - 1)+0)+4)<=8*116:=mul n8 ();exact #[_,_,_,_,_,_,0,13,12,X,o6 (n0:=8) X.m1 () n8 k1 X.gm X.gp (),λr hr=>of_decide_eq_true (VX _ () r ()) hr,(),small w9,()]
 ·have k1:(5+1)*(9^3*9)<=2^16:=()
  have e8:mv.9*((mv.9 - 1)*(12+16)+4)<=5*116:=mul n5 ();have e9:mv.9*(16*mv.9+(12*(mv.9 - 1)+12)+4)<=5*144:=mul n5 ();exact #[_,_,_,_,_,_,12,16,12,X,o6 (n0:=5) X.m1 () n5 k1 X.gm X.gp (),λr hr=>of_decide_eq_true (VW _ () r ()) hr,(),small w9,()]
 ·by_cases T3:T<=3
  ·have m:(T+1)*pt.9<=4*4:=mul () i4;have k1:(2+1)*(9^3*2^20)<=2^32:=()
   have e8:mv.9*((mv.9 - 1)*(240+32)+4)<=2*276:=mul n2 ();have e9:mv.9*(33*mv.9+(80*(mv.9 - 1)+160)+4)<=2*310:=mul n2 ();have gm:GF (M1*M2) (9^3*2^20) mv:=λxs hx x hx'=>(X.gm xs hx x hx').dvd (pA _ _)
   have gp:GF (M1*M2) (9^3*2^20) pt:=λxs hx x hx'=>(X.gp xs hx x hx').dvd (eX _ _)
   exact #[M1,M2,_,80,160,33,240,32,182,X,o6 (n0:=2) (bQ X.m1 X.m2) (mul_pow X.b1 X.b2) n2 k1 gm gp (),λr hr=>of_decide_eq_true (VV _ () r ()) hr,(),wide w9 16 m n2,()]
  ·obtain ⟨_,z | ⟨hd,_⟩⟩:=S
   ·exact absurd z T3
   have m:(T+1)*pt.9<=13*4:=mul () i4
   have gf:∀l:LR9,(∀xs∈l,xs∈mv++pt)->GF 2520 1000 l:=λl hl xs hx x hx'=>by
    have:=hd xs (hl xs hx) x hx';exact (Fr.own x (cC this.2)).dvd (Ek this.1)
   have X2:Bd mv pt 2520 2520 1000 12 12 13:=#[(),(),(),(),gf mv λxs hx=>ay.mpr (.inl hx),gf pt λxs hx=>ay.mpr (.inr hx),ag (ax _ (show mv.9+4<=6 by lia)) ()];have k1:(2+1)*1000<=2^12:=()
   have e8:mv.9*((mv.9 - 1)*(12+12)+4)<=2*28:=mul n2 ();have e9:mv.9*(13*mv.9+(12*(mv.9 - 1)+12)+4)<=2*54:=mul n2 ();exact #[2520,2520,1000,12,12,13,12,12,542,X2,o6 (n0:=2) () () n2 k1 X2.gm X2.gp (),λr hr=>of_decide_eq_true (VU _ () r ()) hr,(),wide w9 52 m n2,()]
section
variable {w T M1 M2 V a1 a2 c a0 c0 b:Nat}
theorem QQ.nt (Y:QQ mv pt w T M1 M2 V a1 a2 c a0 c0 b) (D:fv mv pt lk) (RR:bI (kry mv pt mv.9) mv.9 R ps):∃q,0 < q/\q<=2^(ps.9*((mv.9 - 1)*(a0+c0)+4))/\∀xs∈aU R ps mv.9,∀x∈xs,Tp q (2^(ps.9*((mv.9 - 1)*(a0+c0)+4))) x:=by
 obtain q|q0|q1|q2:=Y.kf.rtp D.n8 D.mw D.pw RR;refine #[q,q0,q1,λxs hx=>?_];obtain z|_|_|rfl:=qC hx;exact Rp q0 q1 q2 RR
theorem QQ.un (Y:QQ mv pt w T M1 M2 V a1 a2 c a0 c0 b) (D:fv mv pt lk) (RR:bI (kry mv pt mv.9) mv.9 R ps):∃q,0 < q/\q<=2^(mv.9*((mv.9 - 1)*(a0+c0)+4))/\(∀xs∈aU R ps mv.9,∀x∈xs,Fr q (2^(mv.9*((mv.9 - 1)*(a0+c0)+4))) x)/\∀xs∈nM mv R ps,∀x∈xs,Fr (M1*q) (2^(c+mv.9*((mv.9 - 1)*(a0+c0)+4))) x:=by
 obtain q|q0|q1|q2:=Y.nt D RR;have le:=RR.le;have up:2^(ps.9*((mv.9 - 1)*(a0+c0)+4))<=2^(mv.9*((mv.9 - 1)*(a0+c0)+4)):=ai () (ax _ le);have fr:∀xs∈aU R ps mv.9,∀x∈xs,Fr q (2^(mv.9*((mv.9 - 1)*(a0+c0)+4))) x:=λxs hx x hx'=>((q2 xs hx x hx').fr q0).mono up
 refine #[q,q0,ag q1 up,fr,λxs hx x hx'=>?_];obtain row|hr|rfl:=aA.mp hx;obtain pl|_|rfl:=aA.mp hx';obtain z|hz|rfl:=aA.mp hr;rw[aa,aD];cases e:(cu mv mv.9)[pl]? with
 | none=>exact Fr.zero
 | some ys =>
  have my:=av e;have f:=Fr.dot (yR Y.bd.gm ys my) (fr z hz);refine f.mono ?_;rw[jW ys my,aV,<- dm];exact ax _ (ag (ax V (show mv.9<=mv.9+4 by lia)) Y.bd.vc)
end
theorem Qp (KF:jw mv pt a c) (D:fv mv pt lk) (RR:bI (kry mv pt mv.9) mv.9 R ps) (hz:z∈aU R ps mv.9):(pt.map λxs=>cA z xs)=pt.map λ_=>(0:Rat):=by
 refine ib λxs hx=>?_
 obtain k|hk|rfl:=bM hx;have wz:=oX z hz;rw[dR (by rw[wz,D.pw _ hx]),wz];refine Eq.trans (aP λc _=>?_) (NA KF D.n8 D.mw D.pw RR hz hk);unfold ck;rw[aa (l:=pt),ae hk,cP];rfl
inductive BV (K:FG9) (C:Addr) (vs:List V) (H:Hp) (Q:VK) (E9:XK):Prop
 | mk (x:Addr) (a c:Nat) (H0:Hp) (mv pt lk:LR9):vs=[.ref x]->j9 K H0 H C x mv pt lk->fv mv pt lk->jw mv pt a c->(∀t r q R ps Hm H',H' t=some (.tup [.ref r,.ref q])->aH H Hm->aH Hm H'->H r=none->bp K H Hm r (aU R ps mv.9)->Hm q=none->bp K Hm H' q (nM mv R ps)->bI (kry mv pt mv.9) mv.9 R ps->Q (.ref t) H')->BV K C vs H Q E9
theorem NB (RR:bI (kry mv pt k) n R ps) (wk:∀xs∈kry mv pt k,xs.9=n) (lp:pr.9=n) (lg:go.9=n) (h:∀xs∈kry mv pt k,cA xs pr=0) (hg:cA pr go≠0):∃z∈aU R ps n,cA z go≠0:=by
 refine Classical.byContradiction λno=>hg ?_
 have zero:∀z∈aU R ps n,cA z go=0:=λz hz=>Classical.byContradiction λe=>no #[z,hz,e]
 have far:∀c,n<=c->(λc=>pr.getD c 0) c=0:=λc hc=>by
  show pr.getD c 0=0
  rw[aa,aQ ()];rfl
 have kz:∀t,t < (kry mv pt k).9->(bD n λb=>ck (kry mv pt k) t b*pr.getD b 0)=0:=λt ht=>by
  have mt:=aM ht;have d:=h _ mt;rw[dR (by rw[wk _ mt,lp]),wk _ mt] at d;refine Eq.trans (aP λb _=>?_) d;unfold ck;rw[aa (l:=kry mv pt k),ae ht];rfl
 have sp:=Cz RR far λj hj=>by
  obtain w|hw:=RR.2.2.back j hj;show (bD n λb=>ck R j b*pr.getD b 0)=0
  have e:(bD n λb=>ck R j b*pr.getD b 0)=bD n λb=>bD (kry mv pt k).9 λt=>w t*(ck (kry mv pt k) t b*pr.getD b 0):=aP λb _=>by
   rw[hw b,cP,<- cL];exact aP λt _=>by grind
  rw[e,eU];exact dh λt ht=>by rw[cL,kz t ht,fE]
 obtain w|hw:=sp;rw[dR (by rw[lp,lg]),lp]
 have e:(bD n λb=>pr.getD b 0*go.getD b 0)=bD n λb=>bD (aU R ps n).9 λt=>w t*(ck (aU R ps n) t b*go.getD b 0):=aP λb _=>by
  have:=hw b;simp only at this;rw[this,cP,<- cL];exact aP λt _=>by grind
 rw[e,eU];refine dh λt ht=>?_
 rw[cL];have mt:=aM ht;have d:=zero _ mt;rw[dR (by rw[oX _ mt,lg]),oX _ mt] at d
 have:(bD n λb=>ck (aU R ps n) t b*go.getD b 0)=0:=by
  refine Eq.trans (aP λb _=>?_) d;unfold ck;rw[aa (l:=aU R ps n),ae ht];rfl
 rw[this,fE]
def c5 {α:Type} (xs:List α) (i:Nat):List α:=(xs[i]?.toList++xs.take i)++xs.drop (i+1)
theorem iC {xs:List α} (h:i < xs.9):(c5 xs i).9=xs.9:=by
 unfold c5;rw[ar,ar,bY,mM,ae h];simp
 lia
theorem ox {xs:List α} {x:α} (h:x∈c5 xs i):x∈xs:=by
 unfold c5 at h;rcases ay.mp h with h | h
 ·rcases ay.mp h with h | h
  ·exact av (Option.mem_toList.mp h)
  ·exact cH h
 ·exact Dc h
structure Z48 (N T a1 a2 c e g:Nat):Prop where
 de:(a1*(N - 1)+a2)+e<=4300
 sw:(N+1)*((c*N+(a1*(N - 1)+a2)+e+g+2)+4)<=8900
 sv:c*N+(a1*(N - 1)+a2)+e+g+2<=4300
 en:a1*(T+1)+(a2+(e+N*(4+(c*N+(a1*(N - 1)+a2)))))+c*(T+1)+((a1*(N - 1)+a2)+3+(g+e+N*(4+(c*N+(a1*(N - 1)+a2)))))<=3900
 ac:a2+c<=3900
 ad:a1*(T+1)+a2+c*(T+2)<=3900
 f1:2*(N*(4+(c*N+(a1*(N - 1)+a2)))+(5+(g+e)))+((a1*T+a2)+c*T)<=3930
 f2:2*(N*(4+(c*N+(a1*(N - 1)+a2)))+(5+(g+e)))+(e+g)<=3930
section
variable {mv pt lk:LR9} {go:List Rat} {M1 M2 Vx a1 a2 c N T e g E u w:Nat}
theorem Bd.rest (B:Bd mv pt M1 M2 Vx a1 a2 c) (D:fv mv pt lk) (hn:mv.9<=N) (lg:go.9=mv.9) (E0:0 < E) (E1:E<=2^e) (fg:∀x∈go,Fr E (2^g) x) (Z:Z48 N T a1 a2 c e g) (hu:u<=T):TM mv pt (List.replicate mv.9 0) go u (QT mv pt (List.replicate mv.9 0) go u) (Mi mv pt (List.replicate mv.9 0) go u):=by
 obtain z1|z2|z3|z4|z5|z6|z7|z8:=Z;have n8:mv.9<=2^3:=D.n8;have up:∀{p r:Nat},p<=r->2^p<=2^r:=λz=>ai () z
 have D0:0 < M1^(N - 1)*M2:=bQ (d6 B.m1) B.m2;have D1:M1^(N - 1)*M2<=2^(a1*(N - 1)+a2):=tY B.b1 B.b2
 have kf:∀t m,t<=m->∀xs∈L2.kry mv pt t,∀x∈xs,Fr (M1^(m - 1)*M2) (2^(c*m)) x:=λt m ht xs hx x hx' =>
  Fr.up (B.kry D t xs hx x hx') (Nat.mul_dvd_mul_right (Nat.pow_dvd_pow _ ()) _) (up (aO _ ht))
 have W0:2^(c*N)*(M1^(N - 1)*M2)<=2^(c*N+(a1*(N - 1)+a2)):=by rw[aV];exact aO _ D1
 have W1:2^g*E<=2^(g+e):=by rw[aV];exact aO _ E1
 have W1p:1<=2^g*E:=bQ (d6 ()) E0;have tg:∀x∈go,Tp E (2^g*E) x:=λx hx=>Tp.of (fg x hx) (ak _)
 have sg:∀x∈go,mU x:=λx hx=>kM E0 E1 (ak _) () (fg x hx)
 have t1:a1*(u+1)<=a1*(T+1):=aO _ ();have t2:c*(u+1)<=c*(T+1):=aO _ ();have t3:c*(u+2)<=c*(T+2):=aO _ ()
 have qx:(16*(2^(c*N)*(M1^(N - 1)*M2)))^mv.9<=2^(N*(4+(c*N+(a1*(N - 1)+a2)))):=by
  have e1:16*(2^(c*N)*(M1^(N - 1)*M2))<=2^(4+(c*N+(a1*(N - 1)+a2))):=by rw[aV 2 4];exact aO _ W0
  refine ag (jx e1 _) ?_;rw[<- sI,cv N];exact up (aO _ hn)
 have ct:CtF mv pt u (List.replicate mv.9 0) go (M1^(N - 1)*M2) (2^(c*N)*(M1^(N - 1)*M2)) E (2^g*E):=by
  refine #[cf0 D,sg,?_,λpus q q0 q1 lp hp=>?_]
  ·rw[NR D.mw lg];generalize a1*(N - 1)+a2=dd at *
   refine #[D0,E0,bQ (d6 ()) D0,W1p,λt ht ys hy x hx'=>Tp.of (kf t N () ys hy x hx') (ak _),tg,?_,#[c*N+dd+e+g+2,?_,z3,ag (ax _ ()) z2]]
   ·refine ag (aL D1 E1) ?_;rw[<- aV];exact up z1
   ·have S:∀{x y k j:Nat},x<=2^k->y<=2^j->k+j<=c*N+dd+e+g->x*y<=2^(c*N+dd+e+g):=λhx hy hk=>by
     refine ag (aL hx hy) ?_;rw[<- aV];exact up hk
    have s1:=S W0 E1 ();have s2:=S W1 D1 ();have s3:=S D1 E1 ();rw[aV 2 (c*N+dd+e+g) 2];generalize 2^(c*N+dd+e+g)=P at s1 s2 s3 ⊢
    lia
  ·have Np0:0 < E*q:=bQ E0 q0;have hq':=ag q1 qx
   have hP:M1^(N - 1)*M2*(mv.9*(2^g*E*(16*(2^(c*N)*(M1^(N - 1)*M2)))^mv.9))<=2^((a1*(N - 1)+a2)+3+(g+e+N*(4+(c*N+(a1*(N - 1)+a2))))):=by
    refine ag (aL D1 (aL n8 (aL W1 qx))) ?_;rw[<- aV,<- aV,<- aV,<- Nat.add_assoc];exact ak _
   refine #[M1,M2,Vx,a1,a2,c,M2*(E*q),E*q,_,a2+(e+N*(4+(c*N+(a1*(N - 1)+a2)))),B,bQ B.m2 Np0,?_,pz _,λx hx'=>by rw[ja hx'];exact Fr.zero,λxs' hx' x hx''=>((hp xs' hx' x hx'').fr Np0).mono hP,by rw[lp];lia,z5];rw[aV,aV];exact aL B.b2 (aL E1 hq')
 refine #[_,_,_,_,ct,λpus q l w s cp q0 q1 tp=>#[l,w,s,cp,ct.en pus q q0 q1 l tp],λpr q l k d cn q0 q1 tp=>#[l,k,d,cn,?_]]
 have y1:(16*(2^(c*N)*(M1^(N - 1)*M2)))^mv.9*(16*(2^g*E+E))<=2^(N*(4+(c*N+(a1*(N - 1)+a2)))+(5+(g+e))):=by
  rw[aV];refine aL qx ?_;have:E<=2^g*E:=b7 _ (d6 ());rw[aV 2 5];generalize 2^g*E=v at this W1 ⊢
  lia
 have fp:mW (N*(4+(c*N+(a1*(N - 1)+a2)))+(5+(g+e))) (N*(4+(c*N+(a1*(N - 1)+a2)))+(5+(g+e))) pr:=#[q,_,q0,ag q1 y1,y1,λx hx=>(tp x hx).fr q0];have t4:a1*(u - 1)<=a1*T:=aO _ ();have t5:c*u<=c*T:=aO _ hu;refine #[#[M1,M2,Vx,a1,a2,c,B,()],#[M1,Vx,a1,c,1,0,0,B.m1,B.b1,B.gm,B.vc,(),(),λx hx=>by rw[ja hx];exact Fr.zero,()],sg,λx hx=>sS (tp x hx) q0 (ag q1 (ag y1 (up ()))) (ag y1 (up ())),λxs hx=>#[_,_,a1*(u - 1)+a2,c*u,fp,#[M1^(u - 1)*M2,_,bQ (d6 B.m1) B.m2,tY B.b1 B.b2,ak _,kf u u (ak _) xs hx],()],?_];rw[NR D.mw lg];exact #[_,_,e,g,fp,#[E,_,E0,E1,ak _,fg],()]
def Wc (n T a1 a2 c b1:Nat) (W:Prop):Prop:=(a1=0/\a2=0/\c=14/\b1=12)\/(a1=12/\a2=12/\c=16/\b1=12/\n<=5)\/(a1=80/\a2=160/\c=33/\b1=165/\n<=2/\T<=3/\W)\/(a1=12/\a2=12/\c=13/\b1=525/\n<=2)
theorem Sj (R:Rg mv pt w) (D:fv mv pt lk) (S:QR mv pt T):∃M1 M2 V a1 a2 c b1 b2,Us mv pt w T M1 M2 V a1 a2 c b1 b2/\Wc mv.9 T a1 a2 c b1 (∀T,QR mv pt T->T<=3):=by
 have i4:=D.i4;have n8:=D.n8;have T12:=S.1;have small:w<=9->∀l:List Rat,(∀x∈l,Dr (max w 6) x)->∃B,0 < B/\6∣B/\(∀x∈l,Fr B (2^22) x)/\(l.9<=2*mv.9+T*pt.9->B<=2^12)/\(l.9<=2*mv.9+2*(T*pt.9)->B<=2^12):=λw9 l h=>#[2520,(),(),λx hx=>(Ej #[ag (h x hx).1 (),ag (h x hx).2 ()] (pz _)).mono (),λ_=>(),λ_=>()]
 have wide:w=1000->∀t,T*pt.9<=t->mv.9<=2->∀l:List Rat,(∀x∈l,Dr (max w 6) x)->∃B,0 < B/\6∣B/\(∀x∈l,Fr B (2^22) x)/\(l.9<=2*mv.9+T*pt.9->B<=2^(45+10*t))/\(l.9<=2*mv.9+2*(T*pt.9)->B<=2^(45+20*t)):=λw9 t ht n2 l h=>by
  obtain B|h0|h1|h2:=CM (c:=10) (l:=l) (λx hx=>#[ag (h x hx).1 (by rw[w9];decide),ag (h x hx).2 (by rw[w9];decide)]) ()
  have up:∀k,3+(10*l.9+2)<=k->6*B<=2^k:=λk hk=>by
   refine ag ?_ (ai () hk);rw[aV 2 3];exact aL () h1
  exact #[6*B,(),pA _ _,λx hx=>(h2 x hx).scaleL 6,λhl=>up _ (),λhl=>up _ ()]
 rcases R with ⟨w9,X⟩ | ⟨w9,n5,X⟩ | ⟨w9,n2,M1,M2,X⟩
 ·exact #[_,_,_,_,_,_,12,12,#[X,me (n':=8) (T':=12) (b':=12) n8 T12 (ak _) (),yP (n':=8) (T':=12) (b':=12) n8 T12 (ak _) (),me (n':=8) (T':=12) (b':=12) n8 T12 (ak _) (),small w9],.inl #[rfl,rfl,rfl,rfl]]
 ·exact #[_,_,_,_,_,_,12,12,#[X,me (n':=5) (T':=12) (b':=12) n5 T12 (ak _) (),yP (n':=5) (T':=12) (b':=12) n5 T12 (ak _) (),me (n':=5) (T':=12) (b':=12) n5 T12 (ak _) (),small w9],.inr (.inl #[rfl,rfl,rfl,rfl,n5])]
 ·by_cases hd:∀xs∈mv++pt,∀x∈xs,x.den<=9/\x.num.natAbs < 1000
  ·have m:T*pt.9<=12*4:=aL T12 i4
   have gf:∀l:LR9,(∀xs∈l,xs∈mv++pt)->GF 2520 1000 l:=λl hl xs hx x hx'=>by
    have:=hd xs (hl xs hx) x hx';exact (Fr.own x (cC this.2)).dvd (Ek this.1)
   have X2:Bd mv pt 2520 2520 1000 12 12 13:=#[(),(),(),(),gf mv λxs hx=>ay.mpr (.inl hx),gf pt λxs hx=>ay.mpr (.inr hx),ag (ax _ (show mv.9+4<=6 by lia)) ()];exact #[_,_,_,_,_,_,525,1005,#[X2,me (n':=2) (T':=12) (b':=525) n2 T12 (ak _) (),yP (n':=2) (T':=12) (b':=525) n2 T12 (ak _) (),me (n':=2) (T':=12) (b':=1005) n2 T12 (ak _) (),wide w9 48 m n2],.inr (.inr (.inr #[rfl,rfl,rfl,rfl,n2]))]
  ·have all3:∀T,QR mv pt T->T<=3:=λT S=>S.2.elim id λz=>absurd z.1 hd
   have T3:=all3 T S;have m:T*pt.9<=3*4:=aL T3 i4;exact #[_,_,_,_,_,_,165,285,#[X,me (n':=2) (T':=3) (b':=165) n2 T3 (ak _) (),yP (n':=2) (T':=3) (b':=165) n2 T3 (ak _) (),me (n':=2) (T':=3) (b':=285) n2 T3 (ak _) (),wide w9 12 m n2],.inr (.inr (.inl #[rfl,rfl,rfl,rfl,n2,T3,all3]))]
theorem Rh (R:Rg mv pt w) (D:fv mv pt lk) (S:QR mv pt T):∃M1 M2 V a1 a2 c b1 b2,Us mv pt w T M1 M2 V a1 a2 c b1 b2/\∀go,go.9=mv.9->GoB mv pt M1 M2 c b1 T (List.replicate mv.9 0) go->(∃E e g,0 < E/\E<=2^e/\(∀x∈go,Fr E (2^g) x)/\e+g<=1900)/\∀u T',u<=12->QR mv pt T'->u<=mv.9+1+T'->TM mv pt (List.replicate mv.9 0) go u (QT mv pt (List.replicate mv.9 0) go u) (Mi mv pt (List.replicate mv.9 0) go u):=by
 obtain M1|M2|V|a1|a2|c|b1|b2|U|P:=Sj R D S;refine #[M1,M2,V,a1,a2,c,b1,b2,U,λgo lg #[B,h0,h1,_,fg]=>?_];have n8:=D.n8;have T12:=S.1;have E0:0 < M1^T*(M2*B):=bQ (d6 U.bd.m1) (bQ U.bd.m2 h0);have E1:M1^T*(M2*B)<=2^(a1*T+(a2+b1)):=tY U.bd.b1 (by rw[aV];exact aL U.bd.b2 h1);have B0:=U.bd
 have go1:∀{N T2 e g:Nat},mv.9<=N->a1*T+(a2+b1)<=e->c*T+23<=g->Z48 N T2 a1 a2 c e g->e+g<=1900->(∀u T',u<=12->QR mv pt T'->u<=mv.9+1+T'->u<=T2)->(∃E e g,0 < E/\E<=2^e/\(∀x∈go,Fr E (2^g) x)/\e+g<=1900)/\∀u T',u<=12->QR mv pt T'->u<=mv.9+1+T'->TM mv pt (List.replicate mv.9 0) go u (QT mv pt (List.replicate mv.9 0) go u) (Mi mv pt (List.replicate mv.9 0) go u):=λhn he hg Z se hu=>by
  have E2:=ag E1 (ai () he);have f2:∀x∈go,Fr (M1^T*(M2*B)) (2^_) x:=λx hx=>(fg x hx).mono (ai () hg)
  exact #[#[_,_,_,E0,E2,f2,se],λu T' u1 u2 u3=>B0.rest D hn lg E0 E2 f2 Z (hu u T' u1 u2 u3)]
 rcases P with ⟨rfl,rfl,rfl,rfl⟩ | ⟨rfl,rfl,rfl,rfl,n5⟩ | ⟨rfl,rfl,rfl,rfl,n2,T3,all3⟩ | ⟨rfl,rfl,rfl,rfl,n2⟩
 ·exact go1 (N:=8) (T2:=12) (e:=12) (g:=191) n8 () () #[(),(),(),(),(),(),(),()] () λ_ _ h _ _=>h
 ·exact go1 (N:=5) (T2:=12) (e:=168) (g:=215) n5 () () #[(),(),(),(),(),(),(),()] () λ_ _ h _ _=>h
 ·exact go1 (N:=2) (T2:=6) (e:=565) (g:=122) n2 () () #[(),(),(),(),(),(),(),()] () λu T' _ h h'=>by have:=all3 T' h;lia
 ·exact go1 (N:=2) (T2:=12) (e:=681) (g:=179) n2 () () #[(),(),(),(),(),(),(),()] () λ_ _ h _ _=>h
end
theorem nP {F:α->V->Prop} {as:List α} (h:Paired F as xs) (hi:i < xs.9):Paired F (c5 as i) (c5 xs i):=by
 have l:=h.9;obtain a|ea|fa:=cF h (ae hi);unfold c5;rw[ea,ae hi];exact bV (bV (.cons fa .nil) (mQ h i)) (pV h (i+1))
inductive Fz (K:FG9) (vs:List V) (H:Hp) (Q:VK) (E9:XK):Prop
 | mk (p:Addr) (i:Nat) (xs:List V):vs=[.ref p,.int i]->H p=some (.lst xs)->i < xs.9->xs.9<=500->(∀l H',H l=none->aH H H'->H' l=some (.lst (c5 xs i))->Q (.ref l) H')->Fz K vs H Q E9
theorem JH {xs:List α} (h:i < xs.9):(c5 xs i)[0]?=some xs[i]:=by
 unfold c5;rw[ae h];rfl
def V8 (mv pt:LR9) (go:List Rat) (k:Nat) (pus:LR9):Prop:=k<=mv.9/\QT mv pt (List.replicate mv.9 0) go k pus/\∀j,j < k->∃pr,Mi mv pt (List.replicate mv.9 0) go j pr
def V9 (mv pt:LR9) (go:List Rat) (R:LR9) (ps:List Nat) (i:Nat):Prop:=bI (kry mv pt mv.9) mv.9 R ps/\i < (aU R ps mv.9).9/\((aU R ps mv.9).map λz=>cA z go).getD i 0≠0/\∃pr,Mi mv pt (List.replicate mv.9 0) go mv.9 pr
theorem Of {ds:List Rat} (h:∃d∈ds,d≠0):∃j,j < ds.9/\ds.getD j 0≠0/\∀c,c < j->ds.getD c 0=0:=by
 induction ds with
 | nil=>obtain _|h|_:=h;exact nomatch h
 | cons x xs ih =>
  by_cases e:x=0
  ·obtain d|hd|ne:=h;rcases aI.mp hd with rfl | hd
   ·exact absurd e ne
   ·obtain j|j1|j2|j3:=ih #[d,hd,ne];refine #[j+1,by rw[bx];lia,by rw[List.getD_cons_succ];exact j2,λc hc=>?_];cases c with
    | zero=>exact e
    | succ c=>rw[List.getD_cons_succ];exact j3 c ()
  ·exact #[0,by rw[bx];lia,e,λc hc=>absurd hc (dP _)]
inductive Cb (K:FG9) (C:Addr) (vs:List V) (H:Hp) (Q:VK) (E9:XK):Prop
 | mk (x g:Addr) (a c:Nat) (H0:Hp) (mv pt lk:LR9) (go:List Rat):vs=[.ref x,.ref g]->j9 K H0 H C x mv pt lk->fv mv pt lk->KJ mv pt lk->jw mv pt a c->cS K H g go->go.9=mv.9->(∀u,u<=mv.9->TM mv pt (List.replicate mv.9 0) go u (QT mv pt (List.replicate mv.9 0) go u) (Mi mv pt (List.replicate mv.9 0) go u))->(∀R ps,bI (kry mv pt mv.9) mv.9 R ps->∀z∈aU R ps mv.9,jV z go)->((∀t p k pus H',H' t=some (.tup [.str (Str.ofString "in"),.int (k:Nat),.ref p])->aH H H'->H p=none->bp K H H' p pus->V8 mv pt go k pus->Q (.ref t) H')/\(∀t p q i R ps H',H' t=some (.tup [.str (Str.ofString "never"),.ref p,.ref q])->aH H H'->H p=none->H q=none->bp K H H' p (c5 (aU R ps mv.9) i)->bp K H H' q ((c5 (nM mv R ps) i).map λxs=>c5 xs i)->V9 mv pt go R ps i->Q (.ref t) H'))->Cb K C vs H Q E9
def sD (mv pt:LR9) (go:List Rat) (rows wts:LR9):Bool :=
 if rows=[]\/wts.map List.length≠rows.map (λ_=>rows.9) then false
 else if ¬(∀z∈rows,∀b∈pt,cA b z=0) then false
 else if dJ rows mv mv.9≠dJ wts rows mv.9 then false
 else decide (cA (rows.getD 0 []) go≠0)
inductive Cn (K:FG9) (C:Addr) (vs:List V) (H:Hp) (Q:VK) (E9:XK):Prop
 | mk (x g p q:Addr) (H0 H1 H2:Hp) (mv pt lk rows wts:LR9) (go:List Rat):vs=[.ref x,.ref g,.ref p,.ref q]->j9 K H0 H C x mv pt lk->fv mv pt lk->cS K H g go->go.9=mv.9->bp K H1 H p rows->bp K H2 H q wts->rows.9<=100->wts.9<=100->(∀xs∈rows,xs.9=mv.9)->(∀z∈rows,∀b∈pt,jV b z)->(∀z∈rows,∀ys∈cu mv mv.9,jV ys z)->(∀ws∈wts,∀ys∈cu rows mv.9,jV ys ws)->(∀z∈rows,jV z go)->(∀H',aH H H'->Q (.bl (sD mv pt go rows wts)) H')->Cn K C vs H Q E9
theorem Cu (l:List Nat) {K:FG9}:Paired (λa x=>Tg.R K H x a) (l.map λ(n:Nat)=>(n:Int)) (l.map λ(n:Nat)=>V.int (n:Int)):=by
 induction l with
 | nil=>exact .nil
 | cons n l ih=>exact .cons rfl ih
theorem yu {a b:List Nat}:(a.map λ(n:Nat)=>(n:Int))=(b.map λ(n:Nat)=>(n:Int))↔a=b:=by
 refine #[λh=>?_,λh=>by rw[h]];have:=congrArg (List.map Int.toNat) h;simpa [il,Function.comp_def] using this
theorem HC (l:List Rat):Bv (l.map nm)=decide (∀x∈l,x=0):=by
 unfold Bv;rw[gW,jA,decide_eq_true_iff];refine #[λh x hx=>?_,λh n hn=>?_]
 ·have:=of_decide_eq_true (h (nm x) (aA.mpr #[x,hx,rfl]));exact NF this
 ·obtain x|hx|rfl:=aA.mp hn;rw[h x hx];rfl
def TQ (rows wts:LR9):Prop:=∃M D W B:Nat,0 < M/\0 < D/\(∀xs∈rows,∀x∈xs,Tp M W x)/\(∀ws∈wts,∀x∈ws,Tp D B x)/\1<=W/\1<=B/\M*D<=2^3990/\128*(W*B)<=2^3990
inductive Ce (K:FG9) (vs:List V) (H:Hp) (Q:VK) (E9:XK):Prop
 | mk (r a:Addr) (H0:Hp) (mv pt lk:LR9) (z:List Rat):vs=[.ref r,.ref a]->gL K H0 H r mv pt lk->fv mv pt lk->cS K H a z->z.9=mv.9->(∀ys∈cu mv mv.9,jV ys z)->(∀q H',H q=none->aH H H'->cS K H' q ((cu mv mv.9).map λys=>cA ys z)->Q (.ref q) H')->Ce K vs H Q E9
inductive zD (K:FG9) (vs:List V) (H:Hp) (Q:VK) (E9:XK):Prop
 | mk (r g p q:Addr) (H0 H1 H2:Hp) (mv pt lk rows wts:LR9) (go:List Rat):vs=[.ref r,.ref g,.ref p,.ref q]->gL K H0 H r mv pt lk->fv mv pt lk->cS K H g go->go.9=mv.9->bp K H1 H p rows->bp K H2 H q wts->rows.9<=100->wts.9<=100->(∀xs∈rows,xs.9=mv.9)->(∀z∈rows,∀b∈pt,jV b z)->(∀z∈rows,∀ys∈cu mv mv.9,jV ys z)->TQ rows wts->(∀z∈rows,jV z go)->(∀H',aH H H'->Q (.bl (sD mv pt go rows wts)) H')->zD K vs H Q E9
theorem zm (h:ws.9=rows.9):AN rows ws n=(cu rows n).map λys=>cA ys ws:=by
 refine fG λc=>?_
 by_cases hc:c < n
 ·rw[aD,yS hc];have l1:(AN rows ws n).9=n:=by unfold AN;exact qK
  have e:=yQ (rows:=rows) (ws:=ws) (n:=n) hc;rw[aa,ae ()] at e;rw[ae ()];show some _=some (cA (rows.map λxs=>xs.getD c 0) ws)
  congr 1;refine Eq.trans e ?_;rw[dR (by rw[af,h]),af,h];refine aP λi hi=>?_
  rw[cP];congr 1;unfold ck;rw[aa (l:=rows.map _),aD,aa (l:=rows),ae hi];rfl
 ·rw[aQ (by unfold AN;rw[qK];lia),aQ (by rw[af,dC];lia)]
theorem lF:sD mv pt go rows wts=true↔rows≠[]/\wts.9=rows.9/\(∀(j:Nat) z ws,rows[j]?=some z->wts[j]?=some ws->ws.9=rows.9/\(∀b∈pt,cA b z=0)/\((cu mv mv.9).map λys=>cA ys z)=AN rows ws mv.9)/\cA (rows.getD 0 []) go≠0:=by
 unfold sD;by_cases c1:rows=[]\/wts.map List.length≠rows.map (λ_=>rows.9)
 ·rw[if_pos c1];refine #[λz=>(nomatch z),λ#[h0,h1,h2,_]=>?_];refine (c1.elim h0 λz=>z ?_).elim;refine fG λj=>?_
  rw[aD,aD];by_cases hj:j < rows.9
  ·rw[ae hj,ae (show j < wts.9 by lia)];exact congrArg some (h2 j _ _ (ae hj) (ae ())).1
  ·rw[aQ (l:=rows) (),aQ (l:=wts) ()];rfl
 rw[if_neg c1];have c0:rows≠[]:=λz=>c1 (.inl z)
 have e1:wts.map List.length=rows.map (λ_=>rows.9):=Classical.byContradiction λz=>c1 (.inr z)
 have l1:wts.9=rows.9:=by have:=congrArg List.length e1;simpa using this
 have l2:∀(j:Nat) ws,wts[j]?=some ws->ws.9=rows.9:=λj ws h=>by
  have:=congrArg (λl=>l[j]?) e1;simp only[aD,h,Option.map_some] at this;cases e:rows[j]? with
  | none=>rw[e] at this;cases this
  | some z=>rw[e] at this;exact cg this
 by_cases c2:∀z∈rows,∀b∈pt,cA b z=0
 case neg =>
  rw[if_pos c2];refine #[λz=>(nomatch z),λ#[_,_,h2,_]=>(c2 λz hz b hb=>?_).elim];obtain j|hj|e:=List.mem_iff_getElem.mp hz;exact (h2 j z _ (by rw[ae hj,e]) (ae ())).2.1 b hb
 rw[if_neg (λz=>z c2)]
 have tm:∀(j:Nat) z ws,rows[j]?=some z->wts[j]?=some ws->(dJ rows mv mv.9)[j]?=some ((cu mv mv.9).map λys=>cA ys z)/\(dJ wts rows mv.9)[j]?=some (AN rows ws mv.9):=λj z ws h h'=>by
  unfold dJ;rw[aD,aD,h,h',zm (l2 j ws h')];exact #[rfl,rfl]
 by_cases c3:dJ rows mv mv.9=dJ wts rows mv.9
 case neg =>
  rw[if_pos c3];refine #[λz=>(nomatch z),λ#[_,_,h2,_]=>(c3 (fG λj=>?_)).elim];by_cases hj:j < rows.9
  ·have h1:=ae hj;have h3:=ae (show j < wts.9 by lia);obtain a|b:=tm j _ _ h1 h3;rw[a,b,(h2 j _ _ h1 h3).2.2]
  ·rw[aQ (by unfold dJ;rw[af];lia),aQ (by unfold dJ;rw[af];lia)]
 rw[if_neg (λz=>z c3),decide_eq_true_iff];refine #[λh=>#[c0,l1,λj z ws h1 h2=>#[l2 j ws h2,c2 z (av h1),?_],h],λh=>h.2.2.2];obtain a|b:=tm j z ws h1 h2;rw[c3,b] at a;exact (cg a).symm
structure nF (n a b c d:Nat) (rows wts:LR9):Prop where
 rl:rows.9<=10
 wl:wts.9<=10
 rn:∀z∈rows,z.9=n
 wn:∀ws∈wts,ws.9<=10
 fr:∃M,0 < M/\M<=2^a/\∀z∈rows,∀x∈z,Fr M (2^b) x
 fw:∃M,0 < M/\M<=2^c/\∀z∈wts,∀x∈z,Fr M (2^d) x
theorem nF.mono (P:nF n a b c d rows wts) (ha:a<=a') (hb:b<=b') (hc:c<=c') (hd:d<=d'):nF n a' b' c' d' rows wts:=by
 have up:∀{p r:Nat},p<=r->2^p<=2^r:=λz=>ai () z
 obtain h1|h2|h3|h4|⟨M,M0,M1,f⟩|⟨N,N0,N1,g⟩:=P;exact #[h1,h2,h3,h4,#[M,M0,ag M1 (up ha),λz hz x hx=>(f z hz x hx).mono (up hb)],#[N,N0,ag N1 (up hc),λz hz x hx=>(g z hz x hx).mono (up hd)]]
theorem nF.s (P:nF n a b c d rows wts) (h:a+b+c+d+7<=3990):TQ rows wts:=by
 obtain _|_|_|_|⟨M,M0,M1,f⟩|⟨N,N0,N1,g⟩:=P;have up:∀{p r:Nat},p<=r->2^p<=2^r:=λz=>ai () z
 have p2:∀k,0 < 2^k:=λk=>d6 ()
 refine #[M,N,2^b*M,2^d*N,M0,N0,λz hz x hx=>Tp.of (f z hz x hx) (ak _),λz hz x hx=>Tp.of (g z hz x hx) (ak _),bQ (p2 b) M0,bQ (p2 d) N0,?_,?_]
 ·refine ag (aL M1 N1) ?_;rw[<- aV];exact up ()
 ·have h1:2^b*M<=2^(b+a):=by rw[aV];exact aO _ M1
  have h2:2^d*N<=2^(d+c):=by rw[aV];exact aO _ N1
  refine ag (aO 128 (aL h1 h2)) ?_;rw[<- aV,show 128=2^7 from rfl,<- aV];exact up ()
theorem nF.fit (P:nF n a b c d rows wts):∀z∈rows,mW a b z:=λz hz=>by
 obtain M|M0|M1|f:=P.fr;exact #[M,_,M0,M1,ak _,f z hz]
theorem nF.f3 (P:nF n a b c d rows wts) (h:a+b+c+d<=3930):∀ws∈wts,∀ys∈cu rows n,jV ys ws:=λws hw ys hy=>by
 obtain _|_|_|_|⟨M,M0,M1,f⟩|⟨N,N0,N1,g⟩:=P;exact #[a,b,c,d,#[M,_,M0,M1,ak _,yR f ys hy],#[N,_,N0,N1,ak _,g ws hw],()]
def yf (K:FG9) (H0 H:Hp) (n a b c d:Nat) (p q:Addr):Prop:=∃rows wts,H0 p=none/\H0 q=none/\bp K H0 H p rows/\bp K H0 H q wts/\nF n a b c d rows wts
def ma (K:FG9) (H0 H:Hp) (n a b c d:Nat) (x:V):Prop:=∃t p q,x=V.ref t/\H t=some (.tup [.ref p,.ref q])/\yf K H0 H n a b c d p q
section
variable {K:FG9}
theorem yf.same (h:yf K H0 H n a b c d p q) (s:aH H H'):yf K H0 H' n a b c d p q:=by
 obtain r|w|h1|h2|g1|g2|f:=h;exact #[r,w,h1,h2,g1.same s,g2.same s,f]
theorem yf.upto (h:yf K H0 H n a b c d p q) (u:c8 bg H H') (B:ig H bg) (nb:H0 bg≠none):yf K H0 H' n a b c d p q:=by
 obtain r|w|h1|h2|g1|g2|f:=h;exact #[r,w,h1,h2,g1.upto u B (λz=>nb (by rw[<- z];exact h1)) nb,g2.upto u B (λz=>nb (by rw[<- z];exact h2)) nb,f]
theorem ma.same (h:ma K H0 H n a b c d x) (s:aH H H'):ma K H0 H' n a b c d x:=by
 obtain t|p|q|e|g|P:=h;exact #[t,p,q,e,s _ _ g,P.same s]
theorem ma.upto (h:ma K H0 H n a b c d x) (u:c8 bg H H') (B:ig H bg) (nb:H0 bg≠none):ma K H0 H' n a b c d x:=by
 obtain t|p|q|e|g|P:=h;exact #[t,p,q,e,u.tup B g,P.upto u B nb]
end
def jU (K:FG9) (A:Addr->Prop) (H:Hp) (L:Nat->Prop) (C:Rat->Prop) (x:V):Prop:=∃q qs,x=V.ref q/\A q/\cS K H q qs/\L qs.9/\∀y∈qs,C y
section
variable {K:FG9}
theorem jU.same (h:jU K A H L C x) (e:aH H H'):jU K A H' L C x:=by obtain q|qs|a|c|r|z:=h;exact #[q,qs,a,c,r.same e,z]
theorem jU.upto (h:jU K A H L C x) (u:c8 bg H H') (B:ig H bg) (nb:¬A bg):jU K A H' L C x:=by obtain q|qs|a|c|r|z:=h;exact #[q,qs,a,c,r.upto u B (λe=>nb (by rw[<- e];exact c)),z]
theorem jU.other (h:jU K A H L C x) (hl:H l=some (.lst zs)) (nl:¬A l):jU K A (upd H l o) L C x:=by obtain q|qs|a|c|r|z:=h;exact #[q,qs,a,c,r.updL hl (λe=>nl (by rw[<- e];exact c)),z]
theorem jU.weak (h:jU K A H L C x) (w:∀q,A q->A' q) (wl:∀k,L k->L' k) (wc:∀y,C y->C' y):jU K A' H L' C' x:=by obtain q|qs|a|c|r|l|z:=h;exact #[q,qs,a,w q c,r,wl _ l,λy hy=>wc y (z y hy)]
theorem jU.chg (h:jU K A H L C x) (hq:H q=some (.lst zs)) (pr:Paired (bW K H) qs' zs') (hl:L qs'.9) (hc:∀y∈qs',C y):jU K A (upd H q (.lst zs')) L C x:=by
 obtain r|qs|e|a|R|l|z:=h;by_cases er:r=q
 ·subst er;exact #[r,qs',e,a,#[zs',aG,Paired.imp' (λ_ _ y=>bW.updL y hq) pr],hl,hc]
 ·exact #[r,qs,e,a,R.updL hq er,l,z]
theorem rj (h:∀x∈us,jU K A H L C x) (w:∀q,A q->H0 q=none):∃rows,Paired (cW K H0 H) rows us/\rows.9=us.9/\∀qs∈rows,L qs.9/\∀y∈qs,C y:=by
 induction us with
 | nil=>exact #[[],.nil,rfl,λ_ z=>nomatch z]
 | cons u us ih =>
  obtain rows|pr|lr|hr:=ih λx hx=>h x (cw _ hx)
  obtain q|qs|e|a|R|l|z:=h u (by simp);refine #[qs :: rows,.cons #[q,e,w q a,R] pr,by rw[bx,bx,lr],λxs hx=>?_];rcases aI.mp hx with rfl | hx
  ·exact #[l,z]
  ·exact hr xs hx
end
theorem lY {α:Type} {as:List α} {a x:α} (h:x∈as.set k a):x=a\/x∈as:=by
 rcases cG h with h | h
 ·exact .inr h
 ·exact .inl h
theorem IQ (K:FG9) (hK:X.K=K) {e st:Expr} (he:PE X e te) (hst:PO X (some st) ts):PE X (.Subscript e (.Slice none none (some st) p2) pos) (RY K te ts):=by
 subst hK;exact xK he hst
inductive yh (K:FG9) (vs:List V) (H:Hp) (Q:VK) (E9:XK):Prop
 | mk (p q:Addr) (H0:Hp) (n a b c d:Nat):vs=[.ref p,.ref q]->yf K H0 H n a b c d p q->(∀q,H q=none->H0 q=none)->(∀t H',aH H H'->ma K H0 H' n a b c d (.ref t)->Q (.ref t) H')->yh K vs H Q E9
def Vl (K:FG9) (H0 H:Hp) (n a b c d:Nat) (p q:Addr) (m:Nat):Prop:=∃rows wts,H0 p=none/\H0 q=none/\bp K H0 H p rows/\bp K H0 H q wts/\nF n a b c d rows wts/\rows.9=m/\wts.9=m/\∀ws∈wts,ws.9=m
inductive yj (K:FG9) (vs:List V) (H:Hp) (Q:VK) (E9:XK):Prop
 | mk (p q:Addr) (k m:Nat) (v:V) (H0:Hp) (n a b c d:Nat) (f:Rat):vs=[.ref p,.ref q,.int k,v]->Vl K H0 H n a b c d p q m->k < m->m<=8->n<=8->bW K H f v->(f=2\/f=-1 / 3)->a+b<=3900->c+d<=3900->(∀q,H q=none->H0 q=none)->(∀t H',aH H H'->ma K H0 H' n (a+3) (b+2) (c+24) (d+18) (.ref t)->Q (.ref t) H')->yj K vs H Q E9
inductive yi (K:FG9) (vs:List V) (H:Hp) (Q:VK) (E9:XK):Prop
 | mk (bg p q:Addr) (m:Nat) (H0:Hp) (n a b c d:Nat):vs=[.ref bg,.ref p,.ref q,.int n]->ig H bg->H0 bg≠none->Vl K H0 H n a b c d p q m->1<=m->m<=8->1<=n->n<=8->a+b<=3900->c+d<=3900->(∀q,H q=none->H0 q=none)->(∀t H',ma K H0 H' n (a+3) (b+2) (c+24) (d+18) (.ref t)->ig H' bg->c8 bg H H'->Q (.ref t) H')->yi K vs H Q E9
theorem Ts (h:f=2\/f=-1 / 3):f≠0/\Fr 6 4 f/\∀{x:Rat} {M V:Nat},Fr M V x->Fr (M*6) (V*4) (x / f):=by
 rcases h with rfl | rfl
 ·refine #[(),#[12,by decide +kernel,()],λ{x M V} h=>?_];have:x / 2=x*(1 / 2):=by grind
  rw[this];exact h.mul #[3,by decide +kernel,()]
 ·refine #[by decide +kernel,#[-2,by decide +kernel,()],λ{x M V} h=>?_];have:x / (-1 / 3)=x*(-3):=by grind
  rw[this];exact h.mul #[-18,by decide +kernel,()]
theorem U6 (h0:0<=v) (h1:v < 3):∃q:Rat,((1,1+v):Int×Int)=nm q/\Fr 6 1 q:=by
 have:v=0\/v=1\/v=2:=()
 rcases this with rfl | rfl | rfl
 ·exact #[1,rfl,#[6,by decide +kernel,()]]
 ·exact #[1 / 2,by decide +kernel,#[3,by decide +kernel,()]]
 ·exact #[1 / 3,by decide +kernel,#[2,by decide +kernel,()]]
def Rj (K:FG9):V->Option Int->Option Int->Hp->VK->Prop:=λx lo hi H Q=>∃(a:Addr) (xs:List V) (k:Nat),x=.ref a/\lo=some (k:Int)/\hi=none/\1<=k/\k<=xs.9/\sL K H a xs/\∀p,H p=none->Q (.ref p) (upd H p (.tup (xs.drop k)))
theorem Pe:VF X (Rj X.K):=by
 intro pins s σ H x v vl vu lo hi sl Q I rx hs pl pu h;obtain a|xs|k|rfl|rfl|rfl|k1|k2|hx|q:=h;cases rx;cases pl;cases pu;obtain its|r|ht|hz:=I.tuple hx;have hlen:=r.9;refine #["tuple",_,slot_tuple_getitem.lookup,ht.typeIs,?_];refine getItem_tuple_from ht hs k1 (by rw[aN];lia) ?_ (by rw[aN];lia);refine #[.ref s.6,_,I.laid (t':=s.toks) (o:=.tup (xs.drop k)) (λb ob q=>Heap.get?_push_of_some _ q) (ak _) ?_,rfl,q _ (I.hok.fresh (ak _))];exact #[by rw[mM];lia,_,r.drop k,#[_,Heap.get?_push_size _ rfl,rfl,_,rfl]]
theorem Pt {K:FG9} (h1:sL K H a xs) (k1:1<=k) (k2:k<=xs.9) (e:xs.drop k=zs) (h:∀p H',aH H H'->H' p=some (.tup zs)->Q (.ref p) H'):Rj K (.ref a) (some (k:Int)) none H Q :=
 #[a,xs,k,rfl,rfl,rfl,k1,k2,h1,λp hp=>h p _ (aH.new hp) (by rw[aG,e])]
section
variable {K:FG9}
theorem bp.offU (h:bp K H0 H p rows) (hl:H l=none):p≠l/\bp K (upd H0 l o) H p rows:=by
 obtain xs|g|r|nn:=h;exact #[(λe=>by rw[e,hl] at g;cases g),xs,g,Paired.imp' (λ_ _ #[q,e,z,zs,gz,qz]=>#[q,e,by rw[bo (λe=>by rw[e,hl] at gz;cases gz)];exact z,zs,gz,qz]) r,nn]
theorem yf.offU (h:yf K H0 H n a b c d p q) (hl:H l=none):yf K (upd H0 l o) H n a b c d p q:=by
 obtain r|w|h1|h2|g1|g2|f:=h;obtain n1|g1:=g1.offU (o:=o) hl;obtain n2|g2:=g2.offU (o:=o) hl;exact #[r,w,by rw[bo n1];exact h1,by rw[bo n2];exact h2,g1,g2,f]
theorem ma.offU (h:ma K H0 H n a b c d x) (hl:H l=none):ma K (upd H0 l o) H n a b c d x:=by
 obtain t|p|q|e|g|P:=h;exact #[t,p,q,e,g,P.offU hl]
theorem ma.on (h:ma K (upd H0 l o) H n a b c d x) (hl:H l=some (.lst ys)) (h0:H0 l=none):ma K H0 (upd H l o') n a b c d x:=by
 obtain t|p|q|e|g|r|w|h1|h2|g1|g2|f:=h;have nl:(upd H0 l o) l≠none:=by rw[aG];simp
 have pl:p≠l:=λe=>nl (by subst e;exact h1)
 have ql:q≠l:=λe=>nl (by subst e;exact h2)
 have wk:∀q,(upd H0 l o) q=none->H0 q=none:=λq h=>by rwa [bo (λe=>nl (by subst e;exact h))] at h
 exact #[t,p,q,e,by rw[bo (λe=>by rw[e,hl] at g;cases g)];exact g,r,w,wk p h1,wk q h2,(g1.updL hl nl pl).weakN wk,(g2.updL hl nl ql).weakN wk,f]
theorem ma.mono (h:ma K H0 H n a b c d x) (ha:a<=a') (hb:b<=b') (hc:c<=c') (hd:d<=d'):ma K H0 H n a' b' c' d' x:=by
 obtain t|p|q|e|g|r|w|h1|h2|g1|g2|f:=h;exact #[t,p,q,e,g,r,w,h1,h2,g1,g2,f.mono ha hb hc hd]
theorem nF.of {M N V W:Nat} (rl:rows.9<=10) (wl:wts.9<=10) (rn:∀z∈rows,z.9=n) (wn:∀ws∈wts,ws.9<=10) (M0:0 < M) (N0:0 < N) (hM:M<=2^a) (hN:N<=2^c) (hV:V<=2^b) (hW:W<=2^d) (f:∀z∈rows,∀x∈z,Fr M V x) (g:∀z∈wts,∀x∈z,Fr N W x):nF n a b c d rows wts :=
 #[rl,wl,rn,wn,#[M,M0,hM,λz hz x hx=>(f z hz x hx).mono hV],#[N,N0,hN,λz hz x hx=>(g z hz x hx).mono hW]]
end
theorem Rn (z k:Nat) (h:12<=k):2520<=2^(z+k):=ag (show 2520<=2^12 by decide) (ai () ())
theorem UW (z k:Nat) (h:12<=k):9<=2^(z+k):=ag (show 9<=2^12 by decide) (ai () ())
theorem dr6 (h:Dr (max 4 6) x):Fr 2520 9 x:=Ej #[ag h.1 (),ag h.2 ()] (pz _)
theorem nF.ahead (P:nF n a b c d N U) (lU:U.9=N.9) (wU:∀xs∈U,xs.9=N.9) (hi:i < N.9):nF n a b c d (c5 N i) ((c5 U i).map λxs=>c5 xs i)/\(c5 N i).9=N.9/\((c5 U i).map λxs=>c5 xs i).9=N.9/\∀ws∈(c5 U i).map λxs=>c5 xs i,ws.9=N.9:=by
 obtain h1|h2|h3|h4|⟨M,M0,M1,f⟩|⟨O,O0,O1,g⟩:=P;have l1:=iC hi;have l2:=iC (xs:=U) (i:=i) ()
 have w:∀ws∈(c5 U i).map λxs=>c5 xs i,ws.9=N.9:=λws hw=>by
  obtain xs|hx|rfl:=aA.mp hw;have:=wU xs (ox hx);rw[iC (),this]
 refine #[#[(),by rw[af];lia,λz hz=>h3 z (ox hz),λws hw=>by rw[w ws hw];exact h1,#[M,M0,M1,λz hz=>f z (ox hz)],#[O,O0,O1,λz hz x hx=>?_]],l1,by rw[af,l2,lU],w];obtain xs|hm|rfl:=aA.mp hz;exact g xs (ox hm) x (ox hx)
def TN (K:FG9) (H0:Hp) (bg:Addr) (H H':Hp) (n z c d:Nat) (l:Addr) (m:Nat):Prop:=c8 bg H H'/\ig H' bg/\H l=none/\∃us,H' l=some (.lst us)/\us.9<=m/\∀u∈us,ma K H0 H' n (z+14) (z+14) (c+24) (d+18) u
inductive yl (K:FG9) (C:Addr) (vs:List V) (H:Hp) (Q:VK) (E9:XK):Prop
 | mk (bg r x g:Addr) (H0:Hp) (mv pt lk:LR9) (go:List Rat) (aK cK z c d:Nat):vs=[.ref bg,.ref r,.ref x,.ref g]->ig H bg->H0 bg≠none->(∀q,H q=none->H0 q=none)->gL K H0 H r mv pt lk->j9 K H0 H C x mv pt lk->fv mv pt lk->KJ mv pt lk->jw mv pt aK cK->cS K H g go->g≠bg->go.9=mv.9->(∀u,u<=mv.9->TM mv pt (List.replicate mv.9 0) go u (QT mv pt (List.replicate mv.9 0) go u) (Mi mv pt (List.replicate mv.9 0) go u))->(∀R ps,bI (kry mv pt mv.9) mv.9 R ps->∀z∈aU R ps mv.9,jV z go)->(∃M,0 < M/\M<=2^c/\∀xs∈mv,∀x∈xs,Fr M (2^d) x)->(∀R ps,bI (kry mv pt mv.9) mv.9 R ps->nF mv.9 z z c d (aU R ps mv.9) (nM mv R ps))->2*z<=3900->c+d<=3900->(∀l us H',H l=none->c8 bg H H'->ig H' bg->H' l=some (.lst us)->us.9<=20->(∀u∈us,ma K H0 H' mv.9 (z+14) (z+14) (c+24) (d+18) u)->Q (.ref l) H')->yl K C vs H Q E9
section
variable {α β:Type} [DecidableEq α] [DecidableEq β] (k1:Kind α) (k2:Kind β) (a:α) (b c:β)
theorem Mw {X:Cx} {pins:List (Addr×Obj)} {σ:St} {H:Hp} {s:Shared} {p q:Addr} {x y z x' y' z':V} {A:Around} (I:Inv X pins σ H s) (hp:bE X.K H p [x,y,z]) (hq:bE X.K H q [x',y',z'])
  (a1:k1.R X.K H x a) (a2:k2.R X.K H y b) (a3:k2.R X.K H z c) (b1:k1.R X.K H x' a) (b2:k2.R X.K H y' b) (b3:k2.R X.K H z' c) (hA:A.units+(max k1.d k2.d+1) < cLine) :
  SeqAt.RcAt A s (.ref p) (.ref q) true/\SeqAt.RcNeAt A s (.ref p) (.ref q) false:=by
 obtain us|r1|t1|_:=I.list hp;obtain ws|r2|t2|_:=I.list hq;have l1:=r1.9;have l2:=r2.9;have it:=E8 k1 k2 k2 (a:=(a,b,c)) (b:=(a,b,c)) (A:=A.in1) I (by show A.units+1+k1.d < cLine;lia) (by show A.units+1+k2.d < cLine;lia) (by show A.units+1+k2.d < cLine;lia) r1 r2 a1 a2 a3 b1 b2 b3;have sz:us.5.7=ws.5.7:=by rw[aN,aN,<- l1,<- l2];rfl
 have z:=SeqAt.RcAt.lists (A:=A) (e:=e3 (a,b,c) (a,b,c)) t1.isList t2.isList sz () it;have z2:=SeqAt.RcNeAt.lists (A:=A) (e:=e3 (a,b,c) (a,b,c)) t1.isList t2.isList sz () it;have e1:us.5.7=3:=by rw[aN,<- l1];rfl
 rw[e1,KZ,decide_eq_true rfl] at z z2;exact #[z,z2]
def kUn:Kind Unit where
 R:=λK H x _=>∃p u v w,x=.ref p/\bE K H p [u,v,w]/\k1.R K H u a/\k2.R K H v b/\k2.R K H w c
 d:=max k1.d k2.d+1
 inj:=λ_ _ _=>rfl
 rc:=λ{X pins σ H s x y v u _ _ A} I rx ry h1 h2 hA=>by
  obtain p|x1|x2|x3|rfl|hp|a1|a2|a3:=h1;obtain q|y1|y2|y3|rfl|hq|b1|b2|b3:=h2;cases rx;cases ry;exact (Mw k1 k2 a b c I hp hq a1 a2 a3 b1 b2 b3 hA).1
 ne:=λ{X pins σ H s x y v u _ _ A} I rx ry h1 h2 hA=>by
  obtain p|x1|x2|x3|rfl|hp|a1|a2|a3:=h1;obtain q|y1|y2|y3|rfl|hq|b1|b2|b3:=h2;cases rx;cases ry;exact (Mw k1 k2 a b c I hp hq a1 a2 a3 b1 b2 b3 hA).2
 eq:=λ{X pins σ H s x y v u _ _ A} I rx ry h1 h2 hA=>by
  obtain p|x1|x2|x3|rfl|hp|a1|a2|a3:=h1;obtain q|y1|y2|y3|rfl|hq|b1|b2|b3:=h2;cases rx;cases ry;by_cases e:p=q
  ·subst e;exact SeqAt.EqAt.same _
  ·exact .of_refs e (Mw k1 k2 a b c I hp hq a1 a2 a3 b1 b2 b3 hA).1
end
theorem LU (hl:ys.9=xs.9) (hi:i < xs.9):cA (c5 xs i) (c5 ys i)=cA xs ys:=by
 have e:∀{l:List Rat},i < l.9->l=l.take i++(l[i]?.toList++l.drop (i+1)):=λ{l} h=>by
  rw[ae h];show l=l.take i++(l[i] :: l.drop (i+1))
  rw[List.getElem_cons_drop,List.take_append_drop]
 have lt:(xs.take i).9=(ys.take i).9:=by rw[bY,bY,hl]
 have l1:(xs[i]?.toList).9=(ys[i]?.toList).9:=by rw[ae hi,ae (show i < ys.9 by lia)];rfl
 have r:cA xs ys=cA (xs.take i++(xs[i]?.toList++xs.drop (i+1))) (ys.take i++(ys[i]?.toList++ys.drop (i+1))):=by rw[<- e hi,<- e (show i < ys.9 by lia)]
 unfold c5;rw[r,kO lt,kO l1,kO (by rw[ar,ar,l1,lt]),kO l1];grind
theorem LS {f:α->β} {xs:List α}:(c5 xs i).map f=c5 (xs.map f) i:=by
 unfold c5;rw[bR,bR,List.map_take,List.map_drop,aD];cases xs[i]? <;> rfl
theorem OG {rows:LR9} (hl:ws.9=rows.9) (hi:i < rows.9):AN (c5 rows i) (c5 ws i) n=AN rows ws n:=by
 rw[zm hl,zm (by rw[iC hi,iC (),hl])];unfold cu;rw[il,il];refine ib λc _=>?_
 show cA ((c5 rows i).map _) (c5 ws i)=cA (rows.map _) ws
 rw[LS,LU (by rw[af,hl]) (by rw[af];exact hi)]
theorem HD {xs:List α} (hi:i < xs.9):(c5 xs i)[j]?=xs[if j=0 then i else if j<=i then j - 1 else j]?:=by
 unfold c5;rw[ae hi];show (xs[i] :: (xs.take i++xs.drop (i+1)))[j]?=_
 cases j with
 | zero=>rw[if_pos rfl,ae hi];rfl
 | succ j =>
  rw[if_neg (),List.getElem?_cons_succ,List.getElem?_append,bY];by_cases h:j < i
  ·rw[if_pos (),if_pos (),List.getElem?_take,if_pos h];rfl
  ·rw[if_neg (),if_neg (),List.getElem?_drop];congr 1
   lia
section
variable {a c i:Nat}
theorem OZ (KF:jw mv pt a c) (D:fv mv pt lk) (RR:bI (kry mv pt mv.9) mv.9 R ps) (hz:(aU R ps mv.9)[i]?=some z) (hw:(nM mv R ps)[i]?=some ws):((cu mv mv.9).map λys=>cA ys z)=AN (aU R ps mv.9) ws mv.9:=by
 have h1:i < (aU R ps mv.9).9:=(aE.mp hz).1;have lN:(aU R ps mv.9).9=(kN ps mv.9).9:=af ..;have lt:i < (dJ (aU R ps mv.9) mv mv.9).9:=by unfold dJ;rw[af];exact h1
 have et:(dJ (aU R ps mv.9) mv mv.9)[i]?=some ((cu mv mv.9).map λys=>cA ys z):=by unfold dJ;rw[aD,hz];rfl
 have ft:∀b,ck (dJ (aU R ps mv.9) mv mv.9) i b=((cu mv mv.9).map λys=>cA ys z).getD b 0:=λb=>by
  unfold ck;rw[aa (l:=dJ _ _ _),et];rfl
 have eu:ws=(kN ps mv.9).map λpl=>ck (dJ (aU R ps mv.9) mv mv.9) i pl:=by
  unfold nM at hw;rw[aD,et] at hw;rw[<- cg hw];exact ib λpl _=>(ft pl).symm
 have l1:(AN (aU R ps mv.9) ws mv.9).9=mv.9:=by unfold AN;exact qK
 have l2:((cu mv mv.9).map λys=>cA ys z).9=mv.9:=by rw[af,dC]
 refine Av (by rw[l1,l2]) λb hb=>?_
 rw[l2] at hb;rw[<- ft b,Qi KF D.n8 D.mw D.pw RR h1 hb,yQ hb,show ws.9=(aU R ps mv.9).9 by rw[eu,af,lN]];refine aP λt ht=>?_
 congr 1;rw[eu,aa,aa,aD,ae ()];rfl
theorem K7 (KF:jw mv pt a c) (D:fv mv pt lk) (RR:bI (kry mv pt mv.9) mv.9 R ps) (hi:i < (aU R ps mv.9).9) (ni:((aU R ps mv.9).map λz=>cA z go).getD i 0≠0):sD mv pt go (c5 (aU R ps mv.9) i) ((c5 (nM mv R ps) i).map λxs=>c5 xs i)=true:=by
 have lU:(nM mv R ps).9=(aU R ps mv.9).9:=uM;have wU:∀xs∈nM mv R ps,xs.9=(aU R ps mv.9).9:=BS;refine lF.mpr #[λe=>?_,by rw[af,iC (),iC hi,lU],λj z ws hz hw=>?_,?_]
 ·have:=iC hi;rw[e] at this;rw[<- this] at hi;exact absurd hi (dP _)
 ·rw[HD hi] at hz;rw[aD,HD ()] at hw;obtain w|ew|rfl:=Option.map_eq_some_iff.mp hw;have lw:=wU w (av ew);refine #[by rw[iC (),iC hi,lw],λb hb=>?_,?_]
  ·have:=Qp KF D RR (av hz);rw[xW];exact List.map_inj_left.mp this b hb
  ·rw[OG lw hi];exact OZ KF D RR hz ew
 ·rw[aa,aD,ae hi] at ni;rw[aa,JH hi];exact ni
end
section
variable {w T M1 M2 V a1 a2 c a0 c0 b:Nat}
theorem QQ.pap (Y:QQ mv pt w T M1 M2 V a1 a2 c a0 c0 b) (D:fv mv pt lk) (RR:bI (L2.kry mv pt mv.9) mv.9 R ps):nF mv.9 (mv.9*((mv.9 - 1)*(a0+c0)+4)) (mv.9*((mv.9 - 1)*(a0+c0)+4)) (a1+mv.9*((mv.9 - 1)*(a0+c0)+4)) (c+mv.9*((mv.9 - 1)*(a0+c0)+4)) (aU R ps mv.9) (nM mv R ps):=by
 obtain q|q0|q1|fN|fU:=Y.un D RR;have n8:=D.n8;have nc:=uP RR;have lU:(nM mv R ps).9=(aU R ps mv.9).9:=uM;exact #[(),(),oX,λws h=>by rw[BS ws h];lia,#[q,q0,q1,fN],#[M1*q,bQ Y.bd.m1 q0,by rw[aV];exact aL Y.bd.b1 q1,fU]]
theorem QQ.pf (Y:QQ mv pt w T M1 M2 V a1 a2 c a0 c0 b) (D:fv mv pt lk) (hE:mv.9*((mv.9 - 1)*(a0+c0)+4)=E) (P:nF mv.9 (E+14) (E+14) (a1+E+24) (c+E+18) rows wts):(∀z∈rows,∀b∈pt,jV b z)/\(∀z∈rows,∀ys∈cu mv mv.9,jV ys z)/\TQ rows wts/\(∀ws∈wts,∀ys∈cu rows mv.9,jV ys ws)/\∀(go:List Rat) e g,mW e g go->e+g<=1900->∀z∈rows,jV z go:=by
 have sz:=Y.sz;rw[hE] at sz;have t1:c<=c*(T+2):=cN _ ();have Vc:V<=2^c:=ag (b7 _ ()) Y.bd.vc;exact #[λz hz b hb=>#[a2,c,_,_,#[M2,V,Y.bd.m2,Y.bd.b2,Vc,Y.bd.gp b hb],P.fit z hz,()],λz hz ys hy=>#[a1,c,_,_,#[M1,V,Y.bd.m1,Y.bd.b1,Vc,yR Y.bd.gm ys hy],P.fit z hz,()],P.s (),P.f3 (),λgo e g f h z hz=>#[_,_,e,g,P.fit z hz,f,()]]
end
def Wd (K:FG9) (H:Hp) (n:Nat) (v:V):Prop:=∃q gv e g,v=V.ref q/\cS K H q gv/\gv.9=n/\mW e g gv/\e+g<=1900
def Nx (N:St->Hp->Prop) (u:TS) (D:Ends):Prop:=∀σ H,u D σ H->N σ H
theorem Pw (h:∀N:St->Hp->Prop,Nx N u D->t { D with nx:=N } σ H):Ul t u D σ H:=h (u D) λ_ _ q=>q
theorem UM (hN:Nx N u D) (h:u D σ H):N σ H:=hN _ _ h
theorem ik {K:FG9}:(G5 CX P w K mg base N qual scope f cd A outer s H E).nox.K=K:=rfl
end L2
open L2
local macro_rules | `(tactic| walk_at "hl") => `(tactic| first | (show _ ≤ sizeLine; with_unfolding_all decide) | (with_unfolding_all exact (by decide)))
local macro_rules | `(tactic| walk_at "sq") => `(tactic| first | with_reducible assumption | with_reducible exact sL.of (by assumption) | with_reducible exact bE.of (by assumption) | with_reducible exact sL.of aG | with_reducible exact bE.of aG | assumption)
local macro_rules | `(tactic| walk_at "sc") => `(tactic| first | (with_reducible show (0 : Int) < _; decide) | with_reducible exact KD (by decide) (by decide) | with_reducible exact EA (by decide) (by decide) | with_reducible exact cpow_of (by decide) (by decide) (by decide))
local macro_rules | `(tactic| walk_at "rd") => `(tactic| first
  | (with_reducible refine Pw ?_; intro N hN)
  | with_reducible refine Pz ?_
  | with_reducible refine SN ?_
  | with_reducible refine Ni ?_
  | ((with_reducible refine' Sl ?hx1 ?_); (case hx1 => with_unfolding_all rfl))
  | with_reducible refine VO ?_
  | with_reducible refine UL ?_
  | with_reducible refine UP ?_
  | with_reducible refine UH ?_
  | with_reducible refine VP ?_
  | with_reducible refine SK ?_
  | with_reducible refine Sv ?_
  | with_reducible refine SJ ?_
  | with_reducible refine rd_neS ?_
  | with_reducible refine rd_eqB ?_
  | with_reducible refine Sw ?_
  | with_reducible refine PD ?_
  | with_reducible refine IK ?_
  | with_reducible refine SI ?_
  | with_reducible refine Pu ?_
  | with_reducible refine PB ?_
  | with_reducible refine PC ?_
  | with_reducible refine Nh ?_
  | with_reducible refine Pq ?_
  | with_reducible refine UI ?_
  | with_reducible refine So ?_
  | with_reducible refine rd_retN ?_
  | with_reducible refine SD ?_
  | with_reducible refine SQ ?_
  | with_reducible refine UK ?_
  | with_reducible refine Ss ?_
  | with_reducible refine PX ?_
  | with_reducible refine Sr ?_
  | with_reducible refine Py ?_
  | with_reducible refine SE ?_
  | with_reducible refine Sk ?_
  | with_reducible refine Th ?_
  | with_reducible refine U2 ?_
  | with_reducible refine U3 ?_
  | with_reducible refine U5 ?_
  | with_reducible refine Ri ?_
  | with_reducible refine Su ?_
  | with_reducible refine PN ?_
  | with_reducible refine Sm ?_
  | with_reducible refine Sx ?_
  | with_reducible refine PU ?_
  | with_reducible refine UN ?_
  | with_reducible refine PM ?_
  | with_reducible refine Sq ?_
  | with_reducible refine PV ?_
  | ((with_reducible refine' rd_aug ?hx1 ?_); (case hx1 => with_unfolding_all rfl))
  | with_reducible refine Sy ?_
  | with_reducible refine PJ ?_
  | with_reducible refine Nj ?_
  | with_reducible refine PK ?_
  | with_reducible refine UJ ?_
  | with_reducible refine Lc ?_
  | with_reducible refine Px ?_
  | with_reducible refine SG ?_
  | with_reducible refine Ng ?_
  | with_reducible refine rd_iTup ?_
  | with_reducible refine Nd ?_
  | with_reducible refine Nc ?_
  | ((with_reducible refine' PR ?hx1 ?_); (case hx1 => with_unfolding_all rfl))
  | with_reducible refine Pp ?_
  | with_reducible refine UO ?_
  | with_reducible refine SM ?_
  | with_reducible refine rd_brk ?_
  | ((with_reducible refine' PH ?hx1 ?hx2 ?_); (case hx1 => walk_at "sq"); (case hx2 => with_unfolding_all rfl))
  | with_reducible refine rd_cont ?_
  | ((with_reducible refine' iF ?hx1 ?_); (case hx1 => walk_at "sc"))
  | ((with_reducible refine' IL ?hx1 ?hx2 ?_); (case hx1 => walk_at "sq"); (case hx2 => with_unfolding_all rfl))
  | ((with_reducible refine' b8 ?hx1 ?hx2 ?_); (case hx1 => walk_at "sq"); (case hx2 => with_unfolding_all rfl))
  | ((with_reducible refine' PL ?hx1 ?hx2 ?_); (case hx1 => walk_at "sq"); (case hx2 => with_unfolding_all rfl))
  | ((with_reducible refine' eC ?hx1 ?hx2 ?hx3 ?_); (case hx1 => with_reducible first | assumption | exact aG); (case hx2 => with_unfolding_all rfl); (case hx3 => with_unfolding_all rfl))
  | ((with_reducible refine' UM ?hx1 ?_); (case hx1 => with_reducible assumption))
  | with_reducible refine ⟨_, rfl, ?_⟩
  | with_reducible refine ⟨_, _, rfl, ?_⟩)
namespace L2
open PySem PySem.Spec PyProof.Rows Nm
section
variable {X:Cx} {e e1 e2 e3:Expr} {te t1 t2 t3:TE}
theorem eH (i:Nat) {x:Str} {pos:Pos} (hN:X.N.Nodup:=by walk_at "u") (hi:X.N[i]?=some x:=by rfl) (hx:Loc X.env.scope x:=by first | exact Or.inl rfl | exact Or.inr rfl) (hf:X.fn x=true\/X.env.scope.names.lookup x=some .local:=by first | exact .inl rfl | exact .inr rfl | assumption):PG X (.Name x pos) (CK i):=Qc hN hi hx hf
theorem eQ (i:Nat) {x:Str} {pos pos':Pos} (hN:X.N.Nodup) (he:PE X e te) (hi:X.N[i]?=some x:=by rfl) (hx:Loc X.env.scope x:=by first | exact Or.inl rfl | exact Or.inr rfl) (hs:swapsWith e (some (.Name x pos')) pos.line X.env=pure false:=by rfl) (hf:X.fn x=true\/X.env.scope.names.lookup x=some .local:=by first | exact .inl rfl | exact .inr rfl | assumption):PS X (.Assign [.Name x pos'] e pos) (MG te (CK i)):=SX hN hi hx he hs hf
theorem dB (a:PE X e te) (h0:starEach [e] X.env=(false,eval e X.env) :: starEach [] X.env:=by rfl):PA X [e] (jC te AS):=(fV a ir h0)
theorem cQ (a:PE X e te) (b:PE X e1 t1) (h0:starEach [e,e1] X.env=(false,eval e X.env) :: starEach [e1] X.env:=by rfl) (h1:starEach [e1] X.env=(false,eval e1 X.env) :: starEach [] X.env:=by rfl):PA X [e,e1] (jC te (jC t1 AS)):=(fV a (fV b ir h1) h0)
theorem rB (a:PE X e te) (b:PE X e1 t1) (c:PE X e2 t2) (h0:starEach [e,e1,e2] X.env=(false,eval e X.env) :: starEach [e1,e2] X.env:=by rfl) (h1:starEach [e1,e2] X.env=(false,eval e1 X.env) :: starEach [e2] X.env:=by rfl) (h2:starEach [e2] X.env=(false,eval e2 X.env) :: starEach [] X.env:=by rfl):PA X [e,e1,e2] (jC te (jC t1 (jC t2 AS))):=(fV a (fV b (fV c ir h2) h1) h0)
theorem Ae (a:PE X e te) (b:PE X e1 t1) (c:PE X e2 t2) (d:PE X e3 t3) (h0:starEach [e,e1,e2,e3] X.env=(false,eval e X.env) :: starEach [e1,e2,e3] X.env:=by rfl) (h1:starEach [e1,e2,e3] X.env=(false,eval e1 X.env) :: starEach [e2,e3] X.env:=by rfl) (h2:starEach [e2,e3] X.env=(false,eval e2 X.env) :: starEach [e3] X.env:=by rfl) (h3:starEach [e3] X.env=(false,eval e3 X.env) :: starEach [] X.env:=by rfl):PA X [e,e1,e2,e3] (jC te (jC t1 (jC t2 (jC t3 AS)))):=(fV a (fV b (fV c (fV d ir h3) h2) h1) h0)
abbrev b6:=@pv X 0
abbrev c9:=@pv X 1
abbrev dW:=@pv X 2
abbrev ic:=@pv X 3
abbrev kU:=@pv X 4
abbrev pU:=@pv X 5
abbrev oQ:=@pv X 6
abbrev AZ:=@pv X 7
abbrev EY:=@pv X 8
abbrev Mf:=@pv X 9
abbrev sC (N:List Str) (k:Nat) (st:Stmt):Prop:=wZ N (N.take k) (fO st)
end
end L2
local macro_rules | `(tactic| walk_at "w") => `(tactic| repeat walk_at "rd")
local macro_rules | `(tactic| walk_at "d") => `(tactic| exact ⟨rfl,rfl,rfl,by decide +kernel,rfl,by decide +kernel,by decide +kernel⟩)
namespace Lw
open PySem PySem.Spec PyProof.Rows L2 Nm
local macro_rules | `(tactic| exists $e) => `(tactic| (walk_at "w";refine $e))
local macro_rules | `(tactic| walk_at "n") => `(tactic| (intro vs H Q E h; first | (cases h; subst_vars; rfl) | (obtain ⟨_, _⟩ := h; subst_vars; rfl) | (obtain ⟨_, _, _⟩ := h; subst_vars; rfl) | (obtain ⟨_, _, _, _⟩ := h; subst_vars; rfl) | (obtain ⟨_, _, _, _, _⟩ := h; subst_vars; rfl) | (obtain ⟨_, _, _, _, _, _⟩ := h; subst_vars; rfl) | (obtain ⟨_, _, _, _, _, _, _⟩ := h; subst_vars; rfl) | (obtain ⟨_, _, _, _, _, _, _, _⟩ := h; subst_vars; rfl) | (obtain ⟨_, _, _, _, _, _, _, _, _⟩ := h; subst_vars; rfl) | (obtain ⟨_, _, _, _, _, _, _, _, _, _⟩ := h; subst_vars; rfl) | (obtain ⟨_, _, _, _, _, _, _, _, _, _, _⟩ := h; subst_vars; rfl)))
local macro_rules | `(tactic| walk_at "i") => `(tactic| set_option tactic.hygienic false in intros)
local macro_rules | `(tactic| walk_at "s") => `(tactic| refine tU (by dsimp only [T8] <;> rfl) ?_)
local macro_rules | `(tactic| walk_at "d") => `(tactic| exact ⟨rfl, rfl, rfl, by decide +kernel, rfl, by decide +kernel, by decide +kernel⟩)
local macro_rules | `(tactic| walk_at "u") => `(tactic| first | (change List.Nodup (α := Str) [_]; decide +kernel) | (change List.Nodup (α := Str) [_, _]; decide +kernel) | (change List.Nodup (α := Str) [_, _, _]; decide +kernel) | (change List.Nodup (α := Str) [_, _, _, _]; decide +kernel) | (change List.Nodup (α := Str) [_, _, _, _, _]; decide +kernel) | (change List.Nodup (α := Str) [_, _, _, _, _, _]; decide +kernel) | (change List.Nodup (α := Str) [_, _, _, _, _, _, _]; decide +kernel) | (change List.Nodup (α := Str) [_, _, _, _, _, _, _, _]; decide +kernel) | (change List.Nodup (α := Str) [_, _, _, _, _, _, _, _, _]; decide +kernel))
set_option maxHeartbeats 4000000
def top (i:Nat):Stmt:=PySem.Challenge.pw_helmsum_k47_papers_of_shut.main.body.getD i (.Pass #[0,0,0,0])
abbrev vM:Stmt:=top 71
abbrev tE:Stmt:=top 72
abbrev nO:Stmt:=top 86
abbrev tQ:Stmt:=top 88
abbrev vJ:Stmt:=top 73
abbrev vH:Stmt:=top 74
abbrev tJ:Stmt:=top 80
abbrev tI:Stmt:=top 75
abbrev xF:Stmt:=top 81
abbrev rh:Stmt:=top 83
abbrev lH:Stmt:=top 89
abbrev pR:Stmt:=top 77
abbrev vI:Stmt:=top 78
abbrev tO:Stmt:=top 82
abbrev rg:Stmt:=top 84
abbrev pM:Stmt:=top 90
abbrev sZ:Stmt:=top 67
abbrev vG:Stmt:=top 9
abbrev lG:Stmt:=top 10
abbrev tw:Stmt:=top 12
abbrev zU:Stmt:=top 16
abbrev pK:Stmt:=top 68
abbrev fA:Stmt:=inClass (top 69) 0
abbrev pS:Stmt:=top 85
abbrev tP:Stmt:=top 91
abbrev vL:Stmt:=top 79
abbrev xE:Stmt:=top 87
abbrev tL:Stmt:=top 94
abbrev vK:Stmt:=top 95
abbrev tH:Stmt:=top 93
abbrev tS:Stmt:=top 96
abbrev qZ:Stmt:=top 92
abbrev pL:Stmt:=top 100
abbrev tq:Stmt:=top 19
abbrev kr:Stmt:=top 11
abbrev nC:Stmt:=top 18
abbrev qX:Stmt:=top 34
abbrev xD:Stmt:=top 36
abbrev qY:Stmt:=top 35
abbrev DH:Stmt:=top 37
abbrev zT:Stmt:=top 13
abbrev xv:Stmt:=top 38
abbrev xu:Stmt:=top 20
abbrev xC:Stmt:=top 25
abbrev qV:Stmt:=top 48
abbrev pE:Stmt:=top 50
abbrev qT:Stmt:=top 51
abbrev vE:Stmt:=top 22
abbrev nk:Stmt:=top 31
abbrev xy:Stmt:=top 32
abbrev DK:Stmt:=top 14
abbrev xx:Stmt:=top 42
abbrev pJ:Stmt:=top 33
abbrev DJ:Stmt:=top 43
abbrev pH:Stmt:=top 26
abbrev qW:Stmt:=top 27
abbrev qS:Stmt:=top 58
abbrev td:Stmt:=top 59
abbrev pO:Stmt:=top 102
abbrev tG:Stmt:=top 76
abbrev pP:Stmt:=top 101
abbrev IF:Stmt:=top 28
abbrev tz:Stmt:=top 49
abbrev qU:Stmt:=top 21
abbrev zS:Stmt:=top 40
abbrev DI:Stmt:=top 41
abbrev pC:Stmt:=top 44
abbrev tu:Stmt:=top 17
abbrev iq:Stmt:=inClass (top 69) 1
abbrev zV:Stmt:=top 46
abbrev pG:Stmt:=top 52
abbrev xA:Stmt:=top 53
abbrev MV:Stmt:=top 29
abbrev IG:Stmt:=top 54
abbrev xt:Stmt:=top 56
abbrev nD:Stmt:=top 60
abbrev vF:Stmt:=top 61
abbrev pQ:Stmt:=top 103
abbrev tx:Stmt:=top 23
abbrev xB:Stmt:=top 62
abbrev pN:Stmt:=top 98
abbrev tK:Stmt:=top 97
abbrev rf:Stmt:=top 99
abbrev MU:Stmt:=top 104
set_option genInjectivity false in
set_option genSizeOf false in
structure Ads where
 JQ:Addr
 JE:FuncData
 HN:Addr
 GC:FuncData
 EM:Addr
 Eu:FuncData
 Ia:Addr
 GX:FuncData
 JN:Addr
 JB:FuncData
 JL:Addr
 Jz:FuncData
 HV:Addr
 GI:FuncData
 HU:Addr
 GH:FuncData
 L9:Addr
 LO:FuncData
 ES:Addr
 Ey:FuncData
 yb:Addr
 xY:FuncData
 BM:Addr
 Bs:FuncData
 JM:Addr
 JA:FuncData
 HY:Addr
 GS:FuncData
 ER:Addr
 Ex:FuncData
 BG:Addr
 Bn:FuncData
 HE:Addr
 Gn:FuncData
 JK:Addr
 Jy:FuncData
 ya:Addr
 xX:FuncData
 HK:Addr
 Gx:FuncData
 OJ:Addr
 Ow:FuncData
 BE:Addr
 Bl:FuncData
 kR:Addr
 kQ:FuncData
 BN:Addr
 Bt:FuncData
 HZ:Addr
 GV:FuncData
 JP:Addr
 JD:FuncData
 L8:Addr
 LN:FuncData
 HX:Addr
 GQ:FuncData
 JO:Addr
 JC:FuncData
 HR:Addr
 GG:FuncData
 Ib:Addr
 GY:FuncData
 EL:Addr
 Et:FuncData
 BF:Addr
 Bm:FuncData
 HI:Addr
 Gu:FuncData
 wY:Addr
 wV:FuncData
 yN:Addr
 yI:FuncData
 EJ:Addr
 Er:FuncData
 L7:Addr
 LM:FuncData
 EK:Addr
 Es:FuncData
 QL:Addr
 Qy:FuncData
 OI:Addr
 Ov:FuncData
 LY:Addr
 LG:FuncData
 LX:Addr
 LF:FuncData
 L6:Addr
 LL:FuncData
 EH:Addr
 Eo:FuncData
 By:Addr
 Bf:FuncData
 EE:Addr
 Em:FuncData
 JI:Addr
 Jw:FuncData
 yM:Addr
 yH:FuncData
 L0:Addr
 LI:FuncData
 QP:Addr
 QD:FuncData
 LZ:Addr
 LH:FuncData
 BD:Addr
 Bj:FuncData
 QN:Addr
 QC:FuncData
 BC:Addr
 Bi:FuncData
 EI:Addr
 Ep:FuncData
 ED:Addr
 El:FuncData
 HH:Addr
 Gs:FuncData
 BI:Addr
 Bp:FuncData
 HQ:Addr
 GD:FuncData
 BK:Addr
 Bq:FuncData
 TK:Addr
 Tz:FuncData
 HM:Addr
 Gz:FuncData
 EG:Addr
 En:FuncData
 OH:Addr
 Ou:FuncData
 QM:Addr
 Qz:FuncData
 Bw:Addr
 Be:FuncData
 HJ:Addr
 Gv:FuncData
 oN:Addr
 oM:FuncData
 OK:Addr
 Ox:FuncData
 BA:Addr
 Bg:FuncData
 L4:Addr
 LJ:FuncData
 Vi:Addr
 Vg:FuncData
 TL:Addr
 TB:FuncData
 LW:Addr
 LD:FuncData
 yO:Addr
 yJ:FuncData
 JJ:Addr
 Jx:FuncData
 BL:Addr
 Br:FuncData
 HL:Addr
 Gy:FuncData
 L5:Addr
 LK:FuncData
 BH:Addr
 Bo:FuncData
 HW:Addr
 GK:FuncData
 EO:Addr
 Ew:FuncData
 RO:Addr
 RN:FuncData
 a_NOUGHT:Addr
 a_ONE:Addr
 t_MOST_STATES:Tok
 t_MOST_PUTS:Tok
 t_MOST_LOOKS:Tok
 a_System:Addr
structure Txt (K:W.Frag) (mg:Str->Option Value) (Z:Ads):Prop where
 o5:Df K mg "_law_bag" vM ["_law_script"] Z.JQ Z.JE
 aR:Df K mg "_law_take" tE ["_law_bag_here","_law_many"] Z.HN Z.GC
 mF:Df K mg "_law_sizes" nO ["_law_bag_here"] Z.EM Z.Eu
 ju:Df K mg "_law_line" tQ ["_law_bag_here","_law_n"] Z.Ia Z.GX
 gQ:Df K mg "_law_low" vJ ["_law_top","_law_bottom"] Z.JN Z.JB
 fY:Df K mg "_law_sum" vH ["_law_one","_law_other"] Z.JL Z.Jz
 jt:Df K mg "_law_plus" tJ ["_law_one","_law_other"] Z.HV Z.GI
 iN:Df K mg "_law_prod" tI ["_law_one","_law_other"] Z.HU Z.GH
 ji:Df K mg "_law_by" xF ["_law_by_here","_law_row_here"] Z.L9 Z.LO
 jI:Df K mg "_law_mixed" rh ["_law_bag_here","_law_move_here","_law_put","_law_look"] Z.ES Z.Ey
 iZ:Df K mg "_law_two_lines" lH ["_law_bag_here"] Z.yb Z.xY
 kJ:Df K mg "_law_number" pR ["_law_bag_here","_law_wide"] Z.BM Z.Bs
 fZ:Df K mg "_law_row" vI ["_law_bag_here","_law_many","_law_wide"] Z.JM Z.JA
 og:Df K mg "_law_move" tO ["_law_bag_here","_law_n","_law_way","_law_first","_law_wide"] Z.HY Z.GS
 mH:Df K mg "_law_parts" rg ["_law_bag_here","_law_n","_law_ins","_law_outs","_law_wide"] Z.ER Z.Ex
 kF:Df K mg "_law_system" pM ["_law_bag_here"] Z.BG Z.Bn
 jq:Df K mg "want_list" sZ ["thing","at","most"] Z.HE Z.Gn
 mS:Df K mg "is_whole" vG ["thing"] Z.JK Z.Jy
 fB:Df K mg "common_divisor" lG ["one","other"] Z.ya Z.xX
 nU:Df K mg "is_number" tw ["thing"] Z.HK Z.Gx
 uR:Df K mg "is_row" zU ["thing","many"] Z.OJ Z.Ow
 iu:Df K mg "copied_rows" pK ["things","wide"] Z.BE Z.Bl
 o8:Binds K Z.kQ ["self","move","put","look"] []
 ph:Ml K "__init__" "System.__init__" fA Z.kR Z.kQ
 gK:Df K mg "_law_copied" pS ["_law_grid"] Z.BN Z.Bt
 oh:Df K mg "_law_made" tP ["_law_parts_here"] Z.HZ Z.GV
 jh:Df K mg "_law_dot" vL ["_law_one","_law_other"] Z.JP Z.JD
 rR:Df K mg "_law_on" xE ["_law_grid","_law_row_here"] Z.L8 Z.LN
 oa:Df K mg "_law_next" tL ["_law_parts_here","_law_state","_law_puts_here"] Z.HX Z.GQ
 oZ:Df K mg "_law_end" vK ["_law_parts_here","_law_start","_law_rows"] Z.JO Z.JC
 nY:Df K mg "_law_puts" tH ["_law_bag_here","_law_parts_here","_law_steps_here","_law_wide"] Z.HR Z.GG
 kK:Df K mg "_law_goal" tS ["_law_bag_here","_law_parts_here","_law_start","_law_steps_here","_law_wide"] Z.Ib Z.GY
 jH:Df K mg "_law_steps" qZ ["_law_bag_here","_law_parts_here"] Z.EL Z.Et
 iw:Df K mg "_law_turned" pL ["_law_rows","_law_weights"] Z.BF Z.Bm
 jr:Df K mg "tops_over" tq ["row","bottom"] Z.HI Z.Gu
 iM:Df K mg "common_multiple" kr ["wholes"] Z.wY Z.wV
 gB:Df K mg "common_bottom" nC ["row"] Z.yN Z.yI
 mD:Df K mg "first_with" qX ["lines","begin","place"] Z.EJ Z.Er
 rQ:Df K mg "cleared" xD ["lines","at","place","before"] Z.L7 Z.LM
 mE:Df K mg "brought_up" qY ["lines","at","to"] Z.EK Z.Es
 uo:Df K mg "swept" DH ["rows","wide"] Z.QL Z.Qy
 lV:Df K mg "lowest" zT ["top","bottom"] Z.OI Z.Ov
 oI:Df K mg "reduced" xv ["rows","wide"] Z.LY Z.LG
 jS:Df K mg "row_dot" xu ["one","other"] Z.LX Z.LF
 lW:Df K mg "grid_on" xC ["grid","row"] Z.L6 Z.LL
 jF:Df K mg "moved_rows" qV ["system","rows"] Z.EH Z.Eo
 jd:Df K mg "reach_grown" pE ["system","steps"] Z.By Z.Bf
 mC:Df K mg "reach_rows" qT ["system","steps"] Z.EE Z.Em
 oY:Df K mg "unit_row" vE ["many","at"] Z.JI Z.Jw
 js:Df K mg "leading_place" nk ["row"] Z.yM Z.yH
 oJ:Df K mg "leading" xy ["rows"] Z.L0 Z.LI
 uq:Df K mg "minus" DK ["one","other"] Z.QP Z.QD
 rN:Df K mg "null_at" xx ["rows","wide","at"] Z.LZ Z.LH
 jf:Df K mg "free_places" pJ ["rows","wide"] Z.BD Z.Bj
 wG:Df K mg "nulls" DJ ["rows","wide"] Z.QN Z.QC
 gI:Df K mg "grid_turned" pH ["grid","wide"] Z.BC Z.Bi
 jG:Df K mg "grid_times" qW ["one","other","wide"] Z.EI Z.Ep
 jE:Df K mg "taken_over" qS ["system","rows"] Z.ED Z.El
 kE:Df K mg "unsteered" td ["system"] Z.HH Z.Gs
 jg:Df K mg "_law_spoilt" pO ["_law_bag_here","_law_rows","_law_weights","_law_n"] Z.BI Z.Bp
 nX:Df K mg "_law_quot" tG ["_law_one","_law_other"] Z.HQ Z.GD
 kH:Df K mg "_law_scaled" pP ["_law_rows","_law_weights","_law_k","_law_factor"] Z.BK Z.Bq
 yW:Df K mg "flat" IF ["lists"] Z.TK Z.Tz
 nW:Df K mg "additions" tz ["system","steps"] Z.HM Z.Gz
 gZ:Df K mg "nought_row" qU ["many"] Z.EG Z.En
 qD:Df K mg "solved" zS ["rows","wide","due"] Z.OH Z.Ou
 wF:Df K mg "solve" DI ["rows","wide","due"] Z.QM Z.Qz
 kD:Df K mg "weights_for" pC ["rows","wide","row"] Z.Bw Z.Be
 nR:Df K mg "row_minus" tu ["one","other"] Z.HJ Z.Gv
 sH:TV K Z.a_System "moved" Z.oN
 uD:Binds K Z.oM ["self","state","puts"] []
 uI:Ml K "moved" "System.moved" iq Z.oN Z.oM
 uS:Df K mg "course" zV ["system","start","puts"] Z.OK Z.Ox
 je:Df K mg "nothing_for" pG ["system","steps"] Z.BA Z.Bg
 rO:Df K mg "lacking" xA ["system","start","goal","steps"] Z.L4 Z.LJ
 D7:Df K mg "cut" MV ["row","many","wide"] Z.Vi Z.Vg
 yX:Df K mg "come" IG ["system","start","goal","steps"] Z.TL Z.TB
 rM:Df K mg "soonest" xt ["system","start","goal","most"] Z.LW Z.LD
 gC:Df K mg "brought_ahead" nD ["things","at"] Z.yO Z.yJ
 mR:Df K mg "shut_off" vF ["system","goal"] Z.JJ Z.Jx
 kI:Df K mg "_law_papers" pQ ["_law_bag_here","_law_parts_here","_law_system_here","_law_goal_here"] Z.BL Z.Br
 nV:Df K mg "is_nought" tx ["row"] Z.HL Z.Gy
 oK:Df K mg "is_shut" xB ["system","goal","rows","weights"] Z.L5 Z.LK
 kG:Df K mg "_law_summed" pN ["_law_weights","_law_rows","_law_n"] Z.BH Z.Bo
 nZ:Df K mg "_law_over" tK ["_law_parts_here","_law_row_here"] Z.HW Z.GK
 mG:Df K mg "_law_shuts" rf ["_law_parts_here","_law_goal_here","_law_rows","_law_weights"] Z.EO Z.Ew
 RQ:Ml K "law" "law" MU Z.RO Z.RN
 abs:mg "abs"=none
 len:mg "len"=none
 min:mg "min"=none
 int:mg "int"=none
 range:mg "range"=none
 isinstance:mg "isinstance"=none
 list:mg "list"=none
 bool:mg "bool"=none
 tuple:mg "tuple"=none
 all:mg "all"=none
 enumerate:mg "enumerate"=none
 max:mg "max"=none
 zip:mg "zip"=none
 sum:mg "sum"=none
 reversed:mg "reversed"=none
 mg_NOUGHT:mg "NOUGHT"=some (.ref Z.a_NOUGHT)
 sq_NOUGHT:∀H,sL K H Z.a_NOUGHT [.int 0,.int 1]
 mg_ONE:mg "ONE"=some (.ref Z.a_ONE)
 sq_ONE:∀H,sL K H Z.a_ONE [.int 1,.int 1]
 mg_MOST_STATES:mg "MOST_STATES"=some (.int 8 Z.t_MOST_STATES)
 mg_MOST_PUTS:mg "MOST_PUTS"=some (.int 4 Z.t_MOST_PUTS)
 mg_MOST_LOOKS:mg "MOST_LOOKS"=some (.int 4 Z.t_MOST_LOOKS)
 mg_System:mg "System"=some (.ref Z.a_System)
 cl_System:Mn K Z.a_System
 na_move:kS K Z.a_System "move"
 na_states:kS K Z.a_System "states"
 na_put:kS K Z.a_System "put"
 na_ins:kS K Z.a_System "ins"
 na_look:kS K Z.a_System "look"
 na_outs:kS K Z.a_System "outs"
 mk_System:Mk K Z.a_System Z.kR
section
variable {K:W.Frag}
theorem FJ:sC ["_law_script"] 1 vM:=by walk_at "d"
theorem FY (T:Txt K mg Z):T.o5.o P w base 1 (MR K):=by
 refine T.o5.F.k FJ ?_;walk_at "i";obtain a|ns|rfl|hS|hlen|k:=h;refine #[_,(aB (a8 (dw (Ae aj aj aj (bX ["_law_cell"] [] [] (b9 (qA Dt b6 we (mo aj))) (λ_=>(eH 0)) (λ_=>bZ) (λ_=>(bB wW (by rfl) T.abs PyProof.Rows.boot_abs (dB b6)))))))),?_];walk_at "s"
 try rw[ik]
 exists #[a,_,rfl,hS,λl hl=>?_];have hcl:(sJ (ns.map V.int) none (some 63)).9<=63:=ag (yx _ _ _) (by simpa using hlen);refine #[l,rfl,#[_,bE.of aG],?_];refine eB (K:=K) (a:=l) (xs:=sJ (ns.map V.int) none (some 63)) (λi ys H'=>H'=upd H l (.lst (sJ (ns.map V.int) none (some 63)))/\∃cs:List Int,ys=cs.map V.int/\∀x∈cs,0<=x) (ag hcl ()) #[rfl,[],rfl,λ_ z=>nomatch z] (λi ys H' _ #[e,_]=>by subst e;exact bE.of aG) ?_ ?_
 ·rintro i x ys H' hx hi ⟨rfl,cs,rfl,hcs⟩
  obtain ⟨z,rfl⟩:∃z,x=V.int z:=by
   have hm:x∈ns.map V.int:=Dc (cH (av hx));obtain z|_|e:=aA.mp hm;exact #[z,e.symm]
  exists #[rfl,cs++[if z < 0 then -z else z],by simp,λx hx=>?_];rcases ay.mp hx with hx | hx
  ·exact hcs x hx
  ·have e:x=if z < 0 then -z else z:=by simpa using hx
   subst e
   split <;> lia
 ·rintro ys H' hy ⟨rfl,cs,rfl,hcs⟩ p hp;exists #[by show 4<=sizeLine;decide,λb hb=>?_];have n1:b≠p:=λz=>by rw[z,aG] at hb;cases hb
  have hb1:(upd H l (.lst (sJ (ns.map V.int) none (some 63)))) b=none:=by rw[bo n1] at hb;exact hb
  have s1:aH H (upd H l (.lst (sJ (ns.map V.int) none (some 63)))):=aH.new hl;refine k b _ (s1.free hb1) #[p,0,1234567891,0,cs,aG,by rw[bo n1.symm];exact aG,(),(),(),hcs] ((s1.trans (aH.new hp)).trans (aH.new hb))
theorem iK:sC ["_law_bag_here","_law_many","_law_more","_law_cell","_law_value","_law_first","_law_second"] 2 tE:=by walk_at "d"
theorem aZ (T:Txt K mg Z):T.aR.o P w base 1 O5:=by
 refine T.aR.F.k iK ?_;walk_at "i";obtain p|n|rfl|⟨q,a,b,c,cs,hp,hq,ha,hc,hcl,hcs⟩|hn|hn2|k:=h;have nqp:q≠p:=LQ hp hq
 refine #[_,(iQ (di (bf dX (aX bC b6 aj) aj (bu _)) (au (eQ 2 iK.nd aj)
  (iQ (di (bf uc (aX bC b6 aj) (bB be (by rfl) T.len aT (dB (aX bC b6 aj))) (bu _)) (au (eQ 3 iK.nd (aX bC (aX bC b6 aj) (aX bC b6 aj)))
  (au (Qa b6 aj NZ aj Ti set_list)
  (au (di (bf Cv ic aj (bu _)) (aB (eP ic (fR b6 aj set_list))) bU)
  (aB (eQ 2 iK.nd (bK fo (bK pW ic aj) aj)))))) bU)
  (aB (eP (bK pW (bK fo (bK dQ (aX bC b6 aj) aj) dW) aj) (fR b6 aj set_list))))) bU)
  (au (di (bf vo (aX bC b6 aj) aj (bu _)) (au (eQ 4 iK.nd (bK pW (aX bC b6 aj) c9))
  (au (eP (bK jD (aX bC b6 aj) c9) (fR b6 aj set_list))
  (aB (a8 kU)))) bU)
  (au (eQ 5 iK.nd (bK pW (bK dQ (aX bC b6 aj) aj) aj))
  (au (eQ 6 iK.nd (bK pW (bK dQ pU aj) aj))
  (au (di (bf vo c9 aj (bu _)) (aB (a8 (bK pW (bK fo (bK dQ oQ aj) pU) c9))) bU)
  (aB (a8 (bK pW (bK jD oQ aj) c9)))))))),?_]
 walk_at "s"
 try rw[ik]
 refine #[λσ' H'=>∃(x y:Option V) (a' b' c':Int),σ'=[some (.ref p),some (.int n),x,y,none,none,none]/\H' p=some (.lst [.int a',.int b',.int c',.ref q])/\0<=a'/\0<=c'/\c'<=cs.9/\c8 p H H',?_,?_]
 ·exists dU (λh0=>?_) (λh0=>?_)
  ·exists #[λσ' H'=>∃(m:Int) (y:Option V) (a' c':Int),σ'=[some (.ref p),some (.int n),some (.int m),y,none,none,none]/\H' p=some (.lst [.int a',.int b,.int c',.ref q])/\0<=a'/\0<=c'/\c'<=cs.9/\c8 p H H',?_,?_]
   ·exists #[_,_,rfl,.inl (bE.of hq),?_];exists dU (λh1=>?_) (λh1=>?_)
    ·have h1':c < cs.9:=by simpa using of_decide_eq_true h1
     obtain ⟨z,hz⟩:∃z,cs[c.toNat]?=some z:=#[_,ae ()];have hz0:0<=z:=hcs z (av hz);exists b8 (bE.of hq) (v:=.int z) ?_ ?_
     ·have:=dq (xs:=cs.map V.int) (j:=c.toNat) (v:=.int z) (by rw[aD,hz];rfl);rwa [Int.toNat_of_nonneg hc] at this
     exists dU (λh2=>?_) (λh2=>?_)
     ·exists #[_,_,z,c+1,rfl,aG,hz0,(),(),(c8.set hp).trans (c8.set aG)]
     ·exists #[_,_,a,c+1,rfl,aG,ha,(),(),c8.set hp]
    ·exists #[_,_,a,c,rfl,hp,ha,hc,hcl,c8.refl _]
   ·rintro σ' H' ⟨m,y,a',c',rfl,hp',ha',hc',hcl',u'⟩;exists #[_,_,a',_,c',rfl,aG,ha',hc',hcl',u'.trans (c8.set hp')]
  ·exists #[_,_,a,b,c,rfl,hp,ha,hc,hcl,c8.refl _]
 ·rintro σ' H' ⟨x,y,a',b',c',rfl,hp',ha',hc',hcl',u'⟩;have hq':H' q=some (.lst (cs.map V.int)):=u'.1 q _ hq nqp
  have sn:Sz 8999 n:=by
   show n.natAbs < 2^8999
   exact bN (show n.natAbs < 2^64 by lia) (ai () ())
  exists dU (λh0=>?_) (λh0=>?_)
  ·exists iF (show (0:Int) < n from hn) ?_;exists iF (show qH _ _ from #[(),sn]) ?_;exists k _ _ (ou _ ()) (jO _ hn) #[q,_,b',c',cs,aG,by rw[bo nqp];exact hq',?_,hc',hcl',hcs] (u'.trans (c8.set hp'));rw[cY _ ()];exact Int.ediv_nonneg ha' ()
  ·exists dU (λh1=>?_) (λh1=>?_)
   ·exists iF (show (0:Int) < n from hn) ?_;exact k _ _ (ou _ ()) (jO _ hn) #[q,a',b',c',cs,hp',hq',ha',hc',hcl',hcs] u'
   ·exists iF (show qH _ _ from #[(),by show (3:Nat) < 2^8999;exact bN (show 3 < 2^2 by decide) (ai () ())]) ?_;exists iF (show (0:Int) < n from hn) ?_;exact k _ _ (ou _ ()) (jO _ hn) #[q,a',b',c',cs,hp',hq',ha',hc',hcl',hcs] u'
theorem Bu:∃x1 x2 x3 x4 x5 x6 x7 x8 x9 x10 x11 x12 x13 x14 x15 x16:Expr,x1=(Expr.Constant (Const.int 0) 0 #[366,16,366,17])/\x2=(Expr.Constant (Const.int 1) 0 #[366,19,366,20])/\x3=(Expr.Constant (Const.int 1) 0 #[366,22,366,23])/\x4=(Expr.Constant (Const.int 1) 0 #[366,25,366,26])/\x5=(Expr.Constant (Const.int 2) 0 #[366,28,366,29])/\x6=(Expr.Constant (Const.int 2) 0 #[366,31,366,32])/\x7=(Expr.Constant (Const.int 3) 0 #[366,34,366,35])/\x8=(Expr.Constant (Const.int 4) 0 #[366,37,366,38])/\x9=(Expr.Constant (Const.int 0) 0 #[367,17,367,18])/\x10=(Expr.Constant (Const.int 1) 0 #[367,20,367,21])/\x11=(Expr.Constant (Const.int 1) 0 #[367,23,367,24])/\x12=(Expr.Constant (Const.int 1) 0 #[367,26,367,27])/\x13=(Expr.Constant (Const.int 2) 0 #[367,29,367,30])/\x14=(Expr.Constant (Const.int 2) 0 #[367,32,367,33])/\x15=(Expr.Constant (Const.int 3) 0 #[367,35,367,36])/\x16=(Expr.Constant (Const.int 4) 0 #[367,38,367,39])/\jL nO=[ (Stmt.Assign (targets:=[(Expr.Name "_law_n" #[363,4,363,10])]) (value:=(Expr.Call (func:=(Expr.Name "_law_take" #[363,13,363,22])) (args:=[ (Expr.Name "_law_bag_here" #[363,23,363,36]),(Expr.Constant (Const.int 5) 0 #[363,38,363,39])]) (keywords:=[]) (pos:=#[363,13,363,40]))) (pos:=#[363,4,363,40])),(Stmt.If (test:=(Expr.Compare (left:=(Expr.Call (func:=(Expr.Name "_law_take" #[364,7,364,16])) (args:=[ (Expr.Name "_law_bag_here" #[364,17,364,30]),(Expr.Constant (Const.int 8) 0 #[364,32,364,33])]) (keywords:=[]) (pos:=#[364,7,364,34]))) (ops:=[PySem.CmpOp.Eq]) (comparators:=[(Expr.Constant (Const.int 7) 0 #[364,38,364,39])]) (pos:=#[364,7,364,39]))) (body:=[ (Stmt.Assign (targets:=[(Expr.Name "_law_n" #[365,8,365,14])]) (value:=(Expr.Constant (Const.int 5) 0 #[365,17,365,18])) (pos:=#[365,8,365,18]))]) (orelse:=[]) (pos:=#[364,4,365,18])),(Stmt.Assign (targets:=[(Expr.Name "_law_ins" #[366,4,366,12])]) (value:=(Expr.Subscript (value:=(Expr.List (elts:=[x1,x2,x3,x4,x5,x6,x7,x8]) (pos:=#[366,15,366,39]))) (slice:=(Expr.Call (func:=(Expr.Name "_law_take" #[366,40,366,49])) (args:=[ (Expr.Name "_law_bag_here" #[366,50,366,63]),(Expr.Constant (Const.int 8) 0 #[366,65,366,66])]) (keywords:=[]) (pos:=#[366,40,366,67]))) (pos:=#[366,15,366,68]))) (pos:=#[366,4,366,68])),(Stmt.Assign (targets:=[(Expr.Name "_law_outs" #[367,4,367,13])]) (value:=(Expr.Subscript (value:=(Expr.List (elts:=[x9,x10,x11,x12,x13,x14,x15,x16]) (pos:=#[367,16,367,40]))) (slice:=(Expr.Call (func:=(Expr.Name "_law_take" #[367,41,367,50])) (args:=[ (Expr.Name "_law_bag_here" #[367,51,367,64]),(Expr.Constant (Const.int 8) 0 #[367,66,367,67])]) (keywords:=[]) (pos:=#[367,41,367,68]))) (pos:=#[367,16,367,69]))) (pos:=#[367,4,367,69])),(Stmt.If (test:=(Expr.Compare (left:=(Expr.Name "_law_n" #[368,7,368,13])) (ops:=[PySem.CmpOp.Eq]) (comparators:=[(Expr.Constant (Const.int 5) 0 #[368,17,368,18])]) (pos:=#[368,7,368,18]))) (body:=[ (Stmt.Assign (targets:=[ (Expr.Tuple (elts:=[(Expr.Name "_law_ins" #[369,8,369,16]),(Expr.Name "_law_outs" #[369,18,369,27])]) (k:=0) (pos:=#[369,8,369,27]))]) (value:=(Expr.Tuple (elts:=[ (Expr.Call (func:=(Expr.Name "min" #[369,31,369,34])) (args:=[ (Expr.Name "_law_ins" #[369,35,369,43]),(Expr.Constant (Const.int 2) 0 #[369,45,369,46])]) (keywords:=[]) (pos:=#[369,31,369,47])),(Expr.Call (func:=(Expr.Name "min" #[369,49,369,52])) (args:=[ (Expr.Name "_law_outs" #[369,53,369,62]),(Expr.Constant (Const.int 2) 0 #[369,64,369,65])]) (keywords:=[]) (pos:=#[369,49,369,66]))]) (k:=0) (pos:=#[369,30,369,67]))) (pos:=#[369,8,369,67]))]) (orelse:=[]) (pos:=#[368,4,369,67])),(Stmt.Assign (targets:=[(Expr.Name "_law_wide" #[370,4,370,13])]) (value:=(Expr.Subscript (value:=(Expr.List (elts:=[ (Expr.Constant (Const.int 4) 0 #[370,17,370,18]),(Expr.Constant (Const.int 4) 0 #[370,20,370,21]),(Expr.Constant (Const.int 9) 0 #[370,23,370,24]),(Expr.Constant (Const.int 1000000) 0 #[370,26,370,33])]) (pos:=#[370,16,370,34]))) (slice:=(Expr.Call (func:=(Expr.Name "_law_take" #[370,35,370,44])) (args:=[ (Expr.Name "_law_bag_here" #[370,45,370,58]),(Expr.Constant (Const.int 4) 0 #[370,60,370,61])]) (keywords:=[]) (pos:=#[370,35,370,62]))) (pos:=#[370,16,370,63]))) (pos:=#[370,4,370,63])),(Stmt.If (test:=(Expr.Compare (left:=(Expr.Name "_law_wide" #[371,7,371,16])) (ops:=[PySem.CmpOp.Gt]) (comparators:=[(Expr.Constant (Const.int 9) 0 #[371,19,371,20])]) (pos:=#[371,7,371,20]))) (body:=[ (Stmt.Assign (targets:=[(Expr.Name "_law_n" #[372,8,372,14])]) (value:=(Expr.Call (func:=(Expr.Name "min" #[372,17,372,20])) (args:=[ (Expr.Name "_law_n" #[372,21,372,27]),(Expr.Constant (Const.int 2) 0 #[372,29,372,30])]) (keywords:=[]) (pos:=#[372,17,372,31]))) (pos:=#[372,8,372,31]))]) (orelse:=[]) (pos:=#[371,4,372,31])),(Stmt.Return (value:=(some (Expr.Tuple (elts:=[ (Expr.Name "_law_n" #[373,12,373,18]),(Expr.Name "_law_ins" #[373,20,373,28]),(Expr.Name "_law_outs" #[373,30,373,39]),(Expr.Name "_law_wide" #[373,41,373,50])]) (k:=0) (pos:=#[373,11,373,51])))) (pos:=#[373,4,373,51]))]:=#[_,_,_,_,_,_,_,_,_,_,_,_,_,_,_,_,rfl,rfl,rfl,rfl,rfl,rfl,rfl,rfl,rfl,rfl,rfl,rfl,rfl,rfl,rfl,rfl,by with_unfolding_all rfl]
theorem fX:sC ["_law_bag_here","_law_n","_law_ins","_law_outs","_law_wide"] 1 nO:=by walk_at "d"
theorem A6 (T:Txt K mg Z):T.mF.o P w base 2 K4:=by
 refine T.mF.F.k fX ?_;walk_at "i";obtain b|rfl|hB|k:=h;obtain x1|x2|x3|x4|x5|x6|x7|x8|x9|x10|x11|x12|x13|x14|x15|x16|hx1|hx2|hx3|hx4|hx5|hx6|hx7|hx8|hx9|hx10|hx11|hx12|hx13|hx14|hx15|hx16|hbd:=Bu;rw[hbd]
 refine #[_,(au (eQ 1 fX.nd (cT (aZ T) hr T.aR (cQ b6 aj)))
  (iQ (di (bf dX (cT (aZ T) hr T.aR (cQ b6 aj)) aj (bu _)) (aB (eQ 1 fX.nd aj)) bU)
  (au (eQ 2 fX.nd (aX bC (dw (fL hx1 aj (fL hx2 aj (fL hx3 aj (fL hx4 aj (fL hx5 aj (fL hx6 aj (fL hx7 aj (fL hx8 aj ir))))))))) (cT (aZ T) hr T.aR (cQ b6 aj))))
  (au (eQ 3 fX.nd (aX bC (dw (fL hx9 aj (fL hx10 aj (fL hx11 aj (fL hx12 aj (fL hx13 aj (fL hx14 aj (fL hx15 aj (fL hx16 aj ir))))))))) (cT (aZ T) hr T.aR (cQ b6 aj))))
  (iQ (di (bf dX c9 aj (bu _)) (aB (Nk (i:=2) (j:=3) rfl fX.nd rfl rfl () rfl rfl (cQ (bB (va rfl) (by rfl) T.min PyProof.Rows.boot_min (cQ dW aj)) (bB (va rfl) (by rfl) T.min PyProof.Rows.boot_min (cQ ic aj))) rfl)) bU)
  (au (eQ 4 fX.nd (aX bC (dw (Ae aj aj aj aj)) (cT (aZ T) hr T.aR (cQ b6 aj))))
  (iQ (di (bf vo kU aj (bu _)) (aB (eQ 1 fX.nd (bB (va rfl) (by rfl) T.min PyProof.Rows.boot_min (cQ c9 aj)))) bU)
  (aB (a8 (cD (Ae c9 dW ic kU))))))))))),?_]
 walk_at "s"
 try rw[ik]
 exists #[b,5,rfl,hB,(),(),λn H1 n0 n1 B1 u1=>?_];obtain n|rfl:=bP n0;exists #[λσ' H'=>(∃n:Nat,σ'=[some (.ref b),some (.int n),none,none,none]/\n<=5)/\ig H' b/\c8 b H H',?_,?_]
 ·exists #[b,8,rfl,B1,(),(),λv H2 v0 v1 B2 u2=>?_];exists dU (λ_=>?_) (λ_=>?_)
  ·exists #[#[5,rfl,()],B2,u1.trans u2]
  ·exists #[#[n,rfl,()],B2,u1.trans u2]
 clear n0 n1 u1 B1;rintro σ' H1 ⟨⟨n,rfl,n5⟩,B1,u1⟩;exists cO λl0 H2 s2 n2 g2=>?_
 exists #[b,8,rfl,B1.same s2,(),(),λv H3 v0 v1 B3 u3=>?_];have g3:=u3.other (λz=>B1.at (by rw[<- z];exact n2)) g2;obtain x|ex|mx|_:=mT (xs:=[V.int 0,V.int 1,V.int 1,V.int 1,V.int 2,V.int 2,V.int 3,V.int 4]) v0 (by simpa using v1)
 obtain ⟨i,rfl,hi⟩:∃z:Nat,x=.int z/\z<=4:=by
  simp only[aI,bw,or_false] at mx;rcases mx with rfl | rfl | rfl | rfl | rfl | rfl | rfl | rfl
  ·exact #[0,rfl,()]
  ·exact #[1,rfl,()]
  ·exact #[1,rfl,()]
  ·exact #[1,rfl,()]
  ·exact #[2,rfl,()]
  ·exact #[2,rfl,()]
  ·exact #[3,rfl,()]
  ·exact #[4,rfl,()]
 exists b8 (bE.of g3) ex ?_;clear ex mx g3 g2;exists cO λl1 H4 s4 n4 g4=>?_
 exists #[b,8,rfl,B3.same s4,(),(),λt H5 t0 t1 B5 u5=>?_];have g5:=u5.other (λz=>B3.at (by rw[<- z];exact n4)) g4;obtain x|ex|mx|_:=mT (xs:=[V.int 0,V.int 1,V.int 1,V.int 1,V.int 2,V.int 2,V.int 3,V.int 4]) t0 (by simpa using t1)
 obtain ⟨o,rfl,ho⟩:∃z:Nat,x=.int z/\z<=4:=by
  simp only[aI,bw,or_false] at mx;rcases mx with rfl | rfl | rfl | rfl | rfl | rfl | rfl | rfl
  ·exact #[0,rfl,()]
  ·exact #[1,rfl,()]
  ·exact #[1,rfl,()]
  ·exact #[1,rfl,()]
  ·exact #[2,rfl,()]
  ·exact #[2,rfl,()]
  ·exact #[3,rfl,()]
  ·exact #[4,rfl,()]
 exists b8 (bE.of g5) ex ?_;clear ex mx g5 g4;have u15:=(((u1.same s2).trans u3).same s4).trans u5;exists #[λσ' H'=>(∃i o:Nat,σ'=[some (.ref b),some (.int n),some (.int i),some (.int o),none]/\i<=4/\o<=4/\(n=5->i<=2/\o<=2))/\ig H' b/\c8 b H H',?_,?_]
 ·exists dU (λh0=>?_) (λh0=>?_)
  ·exists #[#[min i 2,min o 2,?_,(),(),λ_=>#[(),()]],B5,u15];have e1:(if (2:Int) < (i:Int) then (2:Int) else (i:Int))=((min i 2:Nat):Int):=by split <;> lia
   have e2:(if (2:Int) < (o:Int) then (2:Int) else (o:Int))=((min o 2:Nat):Int):=by split <;> lia
   rw[<- e1,<- e2];rfl
  ·exists #[#[i,o,rfl,hi,ho,λz=>absurd (decide_eq_true (show (n:Int)=5 by lia)) h0],B5,u15]
 clear hi ho u15 B5 u5 u3 u1;rintro σ' H5 ⟨⟨i,o,rfl,hi,ho,h5⟩,B5,u5⟩;exists cO λl2 H6 s6 n6 g6=>?_
 exists #[b,4,rfl,B5.same s6,(),(),λv H7 v0 v1 B7 u7=>?_];have g7:=u7.other (λz=>B5.at (by rw[<- z];exact n6)) g6;obtain x|ex|mx|_:=mT (xs:=[V.int 4,V.int 4,V.int 9,V.int 1000000]) v0 (by simpa using v1)
 obtain ⟨w,rfl,hw⟩:∃w:Nat,x=.int w/\(w=4\/w=9\/w=1000000):=by
  simp only[aI,bw,or_false] at mx;rcases mx with rfl | rfl | rfl | rfl
  ·exact #[4,rfl,.inl rfl]
  ·exact #[4,rfl,.inl rfl]
  ·exact #[9,rfl,.inr (.inl rfl)]
  ·exact #[1000000,rfl,.inr (.inr rfl)]
 exists b8 (bE.of g7) ex ?_;have u07:=(u5.same s6).trans u7;exists #[λσ' H'=>(∃n:Nat,σ'=[some (.ref b),some (.int n),some (.int i),some (.int o),some (.int w)]/\n<=5/\(w=4\/w=9\/(w=1000000/\n<=2))/\(n=5->i<=2/\o<=2))/\ig H' b/\c8 b H H',?_,?_]
 ·exists dU (λh0=>?_) (λh0=>?_)
  ·exists #[#[min n 2,?_,(),(),λz=>()],B7,u07];have e1:(if (2:Int) < (n:Int) then (2:Int) else (n:Int))=((min n 2:Nat):Int):=by split <;> lia
   rw[<- e1];rfl
  ·exists #[#[n,rfl,n5,?_,h5],B7,u07];rcases hw with z | z | z
   ·exact .inl z
   ·exact .inr (.inl z)
   ·exact absurd (decide_eq_true (show (9:Int) < (w:Int) by lia)) h0
 ·clear h5 n5;rintro σ' H8 ⟨⟨n',rfl,n5,hwn,h5⟩,B8,u8⟩;exists bF λr H9 s9 g9=>?_
  exact k r n' i o w H9 g9 n5 hi ho hwn h5 (B8.same s9) (u8.same s9)
theorem jo:sC ["_law_bag_here","_law_n","_law_move_here","_law_at","_law_put","_law_first","_law_look"] 2 tQ:=by walk_at "d"
theorem rH (T:Txt K mg Z):T.ju.o P w base 2 (Fo K):=by
 refine T.ju.F.k jo ?_;walk_at "i";obtain b|n|rfl|hB|n1|n8|k:=h
 refine #[_,(au (iY 2 ["_law_i"] ["_law_n"] [1] jo.nd rfl rfl (cE rfl T.range (dB c9)) (λ_=>(eH 0)) (λ_=>bZ) (λ_=>(bX ["_law_j"] ["_law_i"] [0] (cE rfl T.range (dB c9)) (λ_=>(eH 0)) (λ_=>bZ) (λ_=>(cD (cQ (dI ow (by rfl) T.int PyProof.Rows.boot_int (dB (jK dX b6 (bK fo c9 aj) (bu _)))) aj))))))
  (au (eP (bX ["_law_j"] ["_law_bag_here"] [0] (cE rfl T.range (dB c9)) (λ_=>(eH 0)) (λ_=>bZ) (λ_=>(cD (cQ (bK kx (cT (aZ T) hr T.aR (cQ c9 aj)) aj) aj)))) (fR dW (bK kx c9 aj) set_list))
  (au (eQ 3 jo.nd (aX bC (dw (cQ (bK kx c9 aj) (cT (aZ T) hr T.aR (cQ b6 c9)))) (cT (aZ T) hr T.aR (cQ b6 aj))))
  (au (eQ 4 jo.nd (dw (dB (bX ["_law_j"] ["_law_at"] [3] (cE rfl T.range (dB c9)) (λ_=>(eH 0)) (λ_=>bZ) (λ_=>(cD (cQ (dI ow (by rfl) T.int PyProof.Rows.boot_int (dB (jK dX b6 c9 (bu _)))) aj)))))))
  (au (eQ 5 jo.nd (aX bC (dw (rB aj aj (cT (aZ T) hr T.aR (cQ b6 c9)))) (cT (aZ T) hr T.aR (cQ b6 aj))))
  (au (eQ 6 jo.nd (dw (dB (bX ["_law_j"] ["_law_first"] [5] (cE rfl T.range (dB c9)) (λ_=>(eH 0)) (λ_=>bZ) (λ_=>(cD (cQ (dI ow (by rfl) T.int PyProof.Rows.boot_int (dB (jK dX b6 c9 (bu _)))) aj)))))))
  (aB (a8 (cD (rB dW kU oQ)))))))))),?_]
 walk_at "s"
 try rw[ik]
 have bit:∀{z:Int},∀y∈(List.range n).map (λ(j:Nat)=>(((if decide ((j:Int)=z)=true then 1 else 0:Int)):Rat)),Fr 1 1 y:=λy hy=>by
  obtain j|_|rfl:=aA.mp hy;exact UB (by split <;> simp)
 exists #[(),(),?_];refine fD (n:=n) (cW K H) (λ(i:Nat)=>(List.range n).map λ(j:Nat)=>(((if decide ((j:Int)=(i:Int)+1)=true then 1 else 0:Int)):Rat)) () (λa b=>a.same b) ?_ ?_
 ·rintro i Hb NY NN hi sa k1;exists #[(),(),?_];refine fD (n:=n) (bW K) (λ(j:Nat)=>(((if decide ((j:Int)=(i:Int)+1)=true then 1 else 0:Int)):Rat)) () (λa b=>a.same b) ?_ ?_
  ·rintro j Hz NY2 NN2 hj sz k2;exists bF λt Hy sy gy=>?_
   exact k2 _ _ sy (bW.mk gy rfl)
  ·rintro ys Hz t ht sz g pr nx;exact k1 _ _ sz #[t,rfl,sa.none ht,ys,g,pr]
 rintro ys H1 mm hm s1 g1 pr1 nx1;have G1:bp K H H1 mm ((List.range n).map λ(i:Nat)=>(List.range n).map λ(j:Nat)=>(((if decide ((j:Int)=(i:Int)+1)=true then 1 else 0:Int)):Rat)):=#[ys,g1,pr1,iH nx1];clear g1 pr1 nx1;have B1:=hB.same s1;have mb:mm≠b:=λz=>hB.at (by rw[<- z];exact hm)
 obtain q0|I0|xq|gq0:=hB.inner;have mq:mm≠q0:=λz=>by rw[<- z,hm] at gq0;cases gq0
 exists #[(),(),?_];refine uZ (n:=n) (b:=b) (bW K) (Fr 1 1) B1 () (λa u B=>a.upto u B) ?_ ?_
 ·rintro j Ha NY NN hj ua Ba k1;exists #[b,3,rfl,Ba,(),(),λv Hb v0 v1 Bb ub=>?_];exists bF λt Hc sc gc=>?_
  exact k1 _ ((v - 1:Int):Rat) _ (ub.same sc) (Bb.same sc) (Fr.int ()) (bW.mk gc rfl)
 rintro ys2 cs H2 q2 hq2 u2 B2 g2 lc hc pr2 _;have u02:=(s1.upto (p:=b)).trans u2;have nq2:H q2=none:=s1.none hq2;obtain us|gu|pu:=(G1.upto u2 B1 mb hB.at).toE;have lu:=pu.9;rw[af,cz] at lu
 have q2m:q2≠mm:=λz=>by
  obtain _|gg|_:=id G1;rw[z,gg] at hq2;cases hq2
 walk_at "w";rw[show ((n:Int) - 1)=((n - 1:Nat):Int) by lia];refine eC gu (eK ()) rfl ?_;have G3:bp K H (upd H2 mm (.lst (us.set (n - 1) (.ref q2)))) mm (((List.range n).map λ(i:Nat)=>(List.range n).map λ(j:Nat)=>(((if decide ((j:Int)=(i:Int)+1)=true then 1 else 0:Int)):Rat)).set (n - 1) cs):=bp.ofE aG (jQ (Paired.imp' (λ_ _ z=>Mb.updL z gu (λq h=>h.2)) pu) (n - 1) #[q2,rfl,#[nq2,q2m],cS.updL #[ys2,g2,pr2] gu q2m]) (λq h=>h.1) (λq h=>h.2);have B3:ig (upd H2 mm (.lst (us.set (n - 1) (.ref q2)))) b:=B2.upd (u02.2 _ I0) mb mq;have u03:c8 b H (upd H2 mm (.lst (us.set (n - 1) (.ref q2)))):=u02.after hm;obtain ⟨mv,emv⟩:∃mv,mv=((List.range n).map λ(i:Nat)=>(List.range n).map λ(j:Nat)=>(((if decide ((j:Int)=(i:Int)+1)=true then 1 else 0:Int)):Rat)).set (n - 1) cs:=#[_,rfl];have lmv:mv.9=n:=by rw[emv,df,af,cz]
 have hmv:∀xs∈mv,xs.9=n/\∀y∈xs,Fr 1 1 y:=λxs hx=>by
  rw[emv] at hx;rcases cG hx with hx | rfl
  ·obtain i|_|rfl:=aA.mp hx;exact #[by rw[af,cz],bit]
  ·exact #[lc,hc]
 rw[<- emv] at G3;generalize upd H2 mm (.lst (us.set (n - 1) (.ref q2)))=H3 at G3 B3 u03 ⊢;clear emv pu gu G1 u2 pr2 g2 B2;exists #[b,n,rfl,B3,(),(),λa1 H4 a10 a11 B4 u4=>?_];exists cO λl1 H5 s5 nl1 g5=>?_
 exists #[b,2,rfl,B4.same s5,(),(),λv H6 v0 v1 B6 u6=>?_];have g6:=u6.other (λz=>B4.at (by rw[<- z];exact nl1)) g5;obtain x|ex|mx|_:=mT (xs:=[V.int ((n:Int) - 1),V.int a1]) v0 (by simpa using v1)
 obtain ⟨at',rfl⟩:∃a:Int,x=.int a:=by
  simp only[aI,bw,or_false] at mx;rcases mx with rfl | rfl
  ·exact #[_,rfl]
  ·exact #[_,rfl]
 exists b8 (bE.of g6) ex ?_;have u36:=(u4.same s5).trans u6;have G6:=G3.upto u36 B3 mb hB.at;have u06:=u03.trans u36;clear ex mx g6 g5 G3 u4 u6;exists #[(),(),?_];refine fD (n:=n) (bW K) (λ(j:Nat)=>(((if decide ((j:Int)=at')=true then 1 else 0:Int)):Rat)) () (λa b=>a.same b) ?_ ?_
 ·rintro j Hz NY2 NN2 hj sz k2;exists bF λt Hy sy gy=>?_
  exact k2 _ _ sy (bW.mk gy rfl)
 rintro ys7 H7 q7 hq7 s7 g7 pr7 _;have R7:cS K H7 q7 _:=#[ys7,g7,pr7];exists cO λp8 H8 s8 n8' g8=>?_
 have s68:=s7.trans s8;have q78:q7≠p8:=λz=>by rw[z,n8'] at g7;cases g7
 have np8:H p8=none:=u06.none B6 (s7.none n8');have nq7:H q7=none:=u06.none B6 hq7
 have GP:bp K H H8 p8 [(List.range n).map λ(j:Nat)=>(((if decide ((j:Int)=at')=true then 1 else 0:Int)):Rat)]:=#[_,g8,.cons #[q7,rfl,nq7,R7.same s8] .nil,λz=>by
  rw[aS] at z;cases z;exact q78 rfl]
 have B8:=B6.same s68;have u08:=u06.same s68;have G8:=G6.same s68;have pb:p8≠b:=λz=>hB.at (by rw[<- z];exact np8)
 exists #[b,n,rfl,B8,(),(),λa2 H9 a20 a21 B9 u9=>?_];exists cO λl2 Ha sa nl2 ga=>?_
 exists #[b,3,rfl,B9.same sa,(),(),λv' Hb v0' v1' Bb ub=>?_];have gb:=ub.other (λz=>B9.at (by rw[<- z];exact nl2)) ga;obtain x|ex|mx|_:=mT (xs:=[V.int 0,V.int 0,V.int a2]) v0' (by simpa using v1')
 obtain ⟨fi,rfl⟩:∃a:Int,x=.int a:=by
  simp only[aI,bw,or_false] at mx;rcases mx with rfl | rfl | rfl
  ·exact #[_,rfl]
  ·exact #[_,rfl]
  ·exact #[_,rfl]
 exists b8 (bE.of gb) ex ?_;have u8b:=(u9.same sa).trans ub;have Gb:=G8.upto u8b B8 mb hB.at;have GPb:=GP.upto u8b B8 pb hB.at;have u0b:=u08.trans u8b;clear ex mx gb ga G8 GP u9 ub;exists #[(),(),?_];refine fD (n:=n) (bW K) (λ(j:Nat)=>(((if decide ((j:Int)=fi)=true then 1 else 0:Int)):Rat)) () (λa b=>a.same b) ?_ ?_
 ·rintro j Hz NY2 NN2 hj sz k2;exists bF λt Hy sy gy=>?_
  exact k2 _ _ sy (bW.mk gy rfl)
 rintro ysc Hc qc hqc sc gc prc _;have Rc:cS K Hc qc _:=#[ysc,gc,prc];exists cO λpd Hd sd nd gd=>?_
 have sbd:=sc.trans sd;have qcd:qc≠pd:=λz=>by rw[z,nd] at gc;cases gc
 have npd:H pd=none:=u0b.none Bb (sc.none nd);have nqc:H qc=none:=u0b.none Bb hqc
 have GL:bp K H Hd pd [(List.range n).map λ(j:Nat)=>(((if decide ((j:Int)=fi)=true then 1 else 0:Int)):Rat)]:=#[_,gd,.cons #[qc,rfl,nqc,Rc.same sd] .nil,λz=>by
  rw[aS] at z;cases z;exact qcd rfl]
 exists bF λr He se ge=>?_
 have sbe:=sbd.trans se;refine k r mv _ _ He #[mm,p8,pd,ge,hm,np8,npd,Gb.same sbe,GPb.same sbe,GL.same se] lmv rfl rfl #[(),by simp,by simp,λxs hx=>by rw[(hmv xs hx).1,lmv],λxs hx=>?_,λxs hx=>?_] (λxs hx=>(hmv xs hx).2) (λxs hx=>?_) (λxs hx=>?_) (Bb.same sbe) (u0b.same sbe)
 ·rw[aS.mp hx,af,cz,lmv]
 ·rw[aS.mp hx,af,cz,lmv]
 ·rw[aS.mp hx];exact bit
 ·rw[aS.mp hx];exact bit
theorem oS:sC ["_law_top","_law_bottom","_law_one","_law_other"] 2 vJ:=by walk_at "d"
theorem jY (T:Txt K mg Z):T.gQ.o P w base 1 Sf:=by
 refine T.gQ.F.k oS ?_;walk_at "i";obtain t|b|rfl|hb|hs|k:=h
 refine #[_,(au (eQ 2 oS.nd (bB wW (by rfl) T.abs PyProof.Rows.boot_abs (dB b6)))
  (au (eQ 3 oS.nd c9)
  (au (z9 PassesOwn.never (bf yp dW aj (bu _))
   (aB (Nk (i:=2) (j:=3) rfl oS.nd rfl rfl () rfl rfl (cQ (bK pW ic dW) dW) rfl)))
  (aB (a8 (cD (cQ (bK jD b6 ic) (bK jD c9 ic)))))))),?_]
 walk_at "s"
 try rw[ik]
 walk_at "w"
 refine Dk (λσ' H'=>∃(u v:Int),σ'=[some (.int t),some (.int b),some (.int u),some (.int v)]/\H'=H/\0<=u/\0 < v/\Int.gcd u v=Int.gcd t b) (λσ' _=>match σ' with | [_,_,some (.int u),_]=>u.natAbs | _=>0) #[_,b,rfl,rfl,by split <;> lia,hb,by
  split
  ·rw[Int.neg_gcd]
  ·rfl] ?_
 rintro σ' H' ⟨u,v,rfl,rfl,hu,hv,hg⟩;exists dU (λh=>?_) (λh=>?_)
 ·have hu0:u≠0:=λz=>by subst z;simp at h
  exists iF (show (0:Int) < u by lia) ?_;walk_at "w";have h1:=ou v hu0;have h2:=jO v (show 0 < u by lia);exact #[#[v % u,u,rfl,rfl,h1,(),by rw[mO,Oa,mO];exact hg],by show (v % u).natAbs < u.natAbs;lia]
 ·have hu0:u=0:=by
   by_cases z:u=0
   ·exact z
   ·exfalso;apply h;simp [z]
  subst hu0
  have e:v=g t b:=by
   unfold g;rw[<- hg,Int.gcd_zero_left]
   lia
  have hgs:Sz 8999 v:=hs.le (by
   rw[e];have h1:(g t b).natAbs=Int.gcd t b:=by unfold g;simp
   rw[h1];exact nG () (by have:=gV (a:=t) (b:=b);exact iO.mpr this |> λz=>by simpa using z))
  exists iF (show qH _ _ from #[(),hgs]) ?_;exists iF (show qH _ _ from #[(),hgs]) ?_;exists bF λr H' s' h'=>?_
  rw[cY _ (),cY _ (),e] at h';exact k r H' s' h'
theorem FH:sC ["_law_one","_law_other"] 2 vH:=by walk_at "d"
theorem jc (T:Txt K mg Z):T.fY.o P w base 2 (sV K (λx y=>x+y)):=by
 refine T.fY.F.ok FH (λvs H Q E h=>?_) (λcdv A outer s H vs Q E hr h=>?_)
 ·obtain p|q|a|b|c|d|rfl|hp|hq|hb|hd|sa|sb|sc|sd|k:=KH h;rfl
 ·obtain p|q|a|b|c|d|rfl|hp|hq|hb|hd|sa|sb|sc|sd|k:=KH h;refine #[_,(aB (a8 (cT (jY T) hr T.gQ (cQ (bK fo (bK dQ (aX bS b6 aj) (aX bS c9 aj)) (bK dQ (aX bS c9 aj) (aX bS b6 aj))) (bK dQ (aX bS b6 aj) (aX bS c9 aj)))))),?_];refine tU (σ:=[some (.ref p),some (.ref q)]) rfl ?_
  try rw[ik]
  have hbd:0 < b*d:=lC hb hd;have sbd:Sz 8999 (b*d):=(sb.mul sd).mono ();exists iF (show jl _ _ from .inr #[_,_,sa,sd,()]) ?_;exists iF (show jl _ _ from .inr #[_,_,sc,sb,()]) ?_;exists iF (show jl _ _ from .inr #[_,_,sb,sd,()]) ?_;walk_at "w";exists #[_,_,rfl,hbd,sbd,k]
theorem DE:sC ["_law_one","_law_other"] 2 tJ:=by walk_at "d"
theorem rG (T:Txt K mg Z):T.jt.o P w base 3 (Fj K):=by
 refine T.jt.F.k DE ?_;walk_at "i";obtain p|q|xs|ys|rfl|hp|hq|hl|hz|h1|h2|kk:=h;refine #[_,(aB (a8 (bX ["_law_k"] ["_law_one","_law_other"] [0,1] (cE rfl T.range (dB (bB be (by rfl) T.len aT (dB b6)))) (λ_=>(eH 0)) (λ_=>bZ) (λ_=>(cT (jc T) hr T.fY (cQ (aX (kL K (by rfl)) c9 b6) (aX (kL K (by rfl)) dW b6))))))),?_];walk_at "s"
 try rw[ik]
 obtain us|gu|qu:=id hp;obtain ws|gw|qw:=id hq;have lu:=qu.9;exists #[_,_,rfl,.inl (bE.of gu),?_];exists #[(),(),?_];refine fD (n:=us.9) (bW K) (λi=>xs.getD i 0+ys.getD i 0) () (λa b=>a.same b) ?_ ?_
 ·rintro i H' NY NN hi s k1;have ix:i < xs.9:=()
  have iy:i < ys.9:=()
  obtain vx|ex|nx:=Lx (Paired.imp' (λ_ _ z=>z.same s) qu) ix;obtain vy|ey|ny:=Lx (Paired.imp' (λ_ _ z=>z.same s) qw) iy;exists b8 (bE.of (s _ _ gu)) ex ?_;exists b8 (bE.of (s _ _ gw)) ey ?_;exists #[_,_,_,_,rfl,nx,ny,h1 _ (getD_mem ix),h2 _ (getD_mem iy),λr3 H3 s3 n3=>k1 _ _ s3 n3]
 ·rintro ys' H' l hl' s g pr nx;exact kk l H' hl' s #[ys',g,by rw[BP ()];rw[<- lu] at pr;exact pr]
theorem DC:sC ["_law_one","_law_other"] 2 tI:=by walk_at "d"
theorem nQ (T:Txt K mg Z):T.iN.o P w base 2 (sV K (λx y=>x*y)):=by
 refine T.iN.F.ok DC (λvs H Q E h=>?_) (λcdv A outer s H vs Q E hr h=>?_)
 ·obtain p|q|a|b|c|d|rfl|hp|hq|hb|hd|sa|sb|sc|sd|k:=Km h;rfl
 ·obtain p|q|a|b|c|d|rfl|hp|hq|hb|hd|sa|sb|sc|sd|k:=Km h;refine #[_,(aB (a8 (cT (jY T) hr T.gQ (cQ (bK dQ (aX bS b6 aj) (aX bS c9 aj)) (bK dQ (aX bS b6 aj) (aX bS c9 aj)))))),?_];refine tU (σ:=[some (.ref p),some (.ref q)]) rfl ?_
  try rw[ik]
  have hbd:0 < b*d:=lC hb hd;have sbd:Sz 8999 (b*d):=(sb.mul sd).mono ();exists iF (show jl _ _ from .inr #[_,_,sa,sc,()]) ?_;exists iF (show jl _ _ from .inr #[_,_,sb,sd,()]) ?_;walk_at "w";exists #[_,_,rfl,hbd,sbd,k]
theorem IE:sC ["_law_by_here","_law_row_here"] 2 xF:=by walk_at "d"
theorem oH (T:Txt K mg Z):T.ji.o P w base 3 (MQ K):=by
 refine T.ji.F.k IE ?_;walk_at "i";obtain u|q|c|ys|rfl|hc|sc|hq|hz|h2|kk:=h;refine #[_,(aB (a8 (bX ["_law_one"] ["_law_by_here"] [0] (b9 c9) (λ_=>(eH 0)) (λ_=>bZ) (λ_=>(cT (nQ T) hr T.iN (cQ c9 b6)))))),?_];walk_at "s"
 try rw[ik]
 obtain us|gu|qu:=id hq;exists #[#[_,bE.of gu],?_];refine dn (K:=K) (F:=bW K) (bW K) (λy=>c*y) gu qu hz (λa b=>a.same b) (λa b=>a.same b) ?_ ?_
 ·rintro i y x H' NY NN en s hx k;exists #[_,_,_,_,rfl,hc.same s,hx,sc,h2 y (av en),λr H2 s2 h2'=>k _ _ s2 h2']
 ·rintro ys' H' r hr s g pr nx;exact kk r H' hr s #[ys',g,pr]
theorem fk:sC ["_law_bag_here","_law_move_here","_law_put","_law_look","_law_n","_law_turn","_law_i","_law_j","_law_by_here","_law_less","_law_row_here"] 4 rh:=by walk_at "d"
theorem vB (T:Txt K mg Z):T.jI.o P w base 4 (Ck K):=by
 refine T.jI.F.k fk ?_;walk_at "i";obtain b|m|p|l|q0|n|WV|μ|A|us|ws|vs|rfl|MA|X|n8|i4|o4|M0|M1|⟨M,eM⟩|V1|hA|k:=h
 refine #[_,(au (eQ 4 fk.nd (bB be (by rfl) T.len aT (dB c9)))
  (au (di (PW.pt (vn (bf uc kU aj (bu _)) (pT (bf dX (cT (aZ T) hr T.aR (cQ b6 aj)) aj (bu _))))) (aB (a8 (cD (rB c9 dW ic)))) bU)
  (au (eO PassesOwn.never rfl (cE rfl T.range (dB (bK fo aj (cT (aZ T) hr T.aR (cQ b6 aj))))) (eH 5 fk.nd)
   (au (eQ 6 fk.nd (cT (aZ T) hr T.aR (cQ b6 kU)))
  (au (eQ 7 fk.nd (bK pW (bK fo (bK fo oQ aj) (cT (aZ T) hr T.aR (cQ b6 (bK kx kU aj)))) kU))
  (au (eQ 8 fk.nd (cD (cQ (aX bC (dw (Ae aj (qq lD aj) aj (qq lD aj))) (cT (aZ T) hr T.aR (cQ b6 aj))) aj)))
  (au (eQ 9 fk.nd (cD (cQ (bK kx aj (aX bS EY aj)) aj)))
  (au (eP (cT (rG T) hr T.jt (cQ (aX bC c9 oQ) (cT (oH T) hr T.ji (cQ EY (aX bC c9 AZ))))) (fR c9 oQ set_list))
  (au (eO PassesOwn.never rfl (b9 (bK iU c9 ic)) (eH 10 fk.nd)
   (aB (eP (cT (jc T) hr T.fY (cQ (aX bC (pv 10) AZ) (cT (nQ T) hr T.iN (cQ Mf (aX bC (pv 10) oQ))))) (fR (pv 10) AZ set_list))))
  (aB (eO PassesOwn.never rfl (b9 dW) (eH 10 fk.nd)
   (aB (eP (cT (jc T) hr T.fY (cQ (aX bC (pv 10) oQ) (cT (nQ T) hr T.iN (cQ EY (aX bC (pv 10) AZ))))) (fR (pv 10) oQ set_list))))))))))))
  (aB (a8 (cD (rB c9 dW ic))))))),?_]
 walk_at "s"
 try rw[ik]
 have done:∀r us' H' t,t<=3->H' r=some (.tup [.ref m,.ref p,.ref l])->kT K A H' n (λx=>Fr (μ x) (9^t*WV)) m p l b q0 us' ws vs->jy A b m H H'->Q (.ref r) H':=λr us' H' t ht g x kp=>k r us' H' g (x.weak λ_ _ y h=>h.mono (ax _ (ai () ht))) kp
 have X0:kT K A H n (λx=>Fr (μ x) (9^0*WV)) m p l b q0 us ws vs:=X.weak λ_ _ y h=>h.mono (by simp)
 clear X k;have gu:=X0.gm;have lu:=X0.lm;exists #[_,_,rfl,.inl (bE.of gu),?_];rw[lu];clear gu lu;have kp0:jy A b m H H:=λ_ _ h _ _ _=>h
 exists dU (λh0=>?_) (λh0=>?_)
 ·exists bF λr H' s' g'=>?_
  exact done r us H' 0 () g' (X0.same s') (kp0.same s')
 have n2:2<=n:=by
  rcases cB n 2 with z | z
  ·exact absurd (decide_eq_true (show (n:Int) < 2 by lia)) h0
  ·exact z
 exists #[b,2,rfl,X0.bag,(),(),λv H1 v0 v1 B1 u1=>?_];have X1:=X0.upto MA u1 B1;have kp1:=kp0.upto u1;exists dU (λh1=>?_) (λh1=>?_)
 ·exists bF λr H' s' g'=>?_
  exact done r us H' 0 () g' (X1.same s') (kp1.same s')
 exists #[b,3,rfl,B1,(),(),λc H2 c0 c1 B2 u2=>?_];have X2:=X1.upto MA u2 B2;have kp2:=kp1.upto u2;clear X0 X1 kp0 kp1 u1 u2 B1;exists #[(),(),?_];refine fH (n:=(1+c).toNat) (λt σ' H'=>∃(x1 x2 x3 x4 x5 x6:Option V) (us:List V),σ'=[some (.ref b),some (.ref m),some (.ref p),some (.ref l),some (.int n),x1,x2,x3,x4,x5,x6]/\kT K A H' n (λx=>Fr (μ x) (9^t*WV)) m p l b q0 us ws vs/\jy A b m H H') #[none,none,none,none,none,none,us,rfl,X2,kp2] ?_ ?_
 ·rintro t σ' H' ht ⟨x1,x2,x3,x4,x5,x6,us,rfl,X,kp⟩;have t3:t<=2:=()
  exists #[b,n,rfl,X.bag,(),(),λii Ha i0 i1 Ba ua=>?_];obtain ii|rfl:=bP i0;have Xa:=X.upto MA ua Ba;have kpa:=kp.upto ua;exists #[b,_,rfl,Ba,(),(),λd Hb d0 d1 Bb ub=>?_];have Xb:=Xa.upto MA ub Bb;have kpb:=kpa.upto ub;exists iF (show (0:Int) < n by lia) ?_;have j0:=ou ((ii:Int)+1+d) (show (n:Int)≠0 by lia);have j1:=jO ((ii:Int)+1+d) (show (0:Int) < n by lia);generalize ((ii:Int)+1+d) % (n:Int)=jj at j0 j1 ⊢;obtain jj|rfl:=bP j0;exists cO λl0 Hc sc nc gc=>?_
  exists #[b,4,rfl,Bb.same sc,(),(),λv' Hd v0' v1' Bd ud=>?_];have gd:=ud.other (λz=>Bb.at (by rw[<- z];exact nc)) gc;obtain x|ex|mx|_:=mT (xs:=[V.int 1,V.int (-1),V.int 2,V.int (-2)]) v0' (by simpa using v1')
  obtain ⟨z,rfl,hz⟩:∃z:Int,x=.int z/\z.natAbs<=2:=by
   simp only[aI,bw,or_false] at mx;rcases mx with rfl | rfl | rfl | rfl
   ·exact #[1,rfl,()]
   ·exact #[-1,rfl,()]
   ·exact #[2,rfl,()]
   ·exact #[-2,rfl,()]
  have Xd:=(Xb.same sc).upto MA ud Bd;have kpd:=(kpb.same sc).upto ud;exists b8 (bE.of gd) ex ?_;exists bF λbt He se ge=>?_
  exists bF λlt Hf sf gf=>?_
  have Xf:=(Xd.same se).same sf;have kpf:=(kpd.same se).same sf;have nb:bW K Hf ((z:Int):Rat) (.ref bt):=bW.mk (sf _ _ ge) rfl;have nl:bW K Hf ((0 - z:Int):Rat) (.ref lt):=bW.mk gf rfl;clear X Xa Xb Xd kp kpa kpb kpd ua ub ud sc gc gd ex mx ge gf se sf Ba Bb Bd nc;have gu:=Xf.gm;have lu:=Xf.lm
  have ru:∀x∈us,ie K A Hf n (Fr M (9^t*WV)) x:=λx hx=>by
   have:=Xf.row x (by simp [hx]);rwa [eM x (Xf.apart.1 x hx).1 (Xf.apart.1 x hx).2] at this
  have hM:0 < M/\M<=2^800:=by
   have hx:us[ii]'()∈us:=aM _;have:=eM _ (Xf.apart.1 _ hx).1 (Xf.apart.1 _ hx).2;rw[<- this];exact #[M0 _,M1 _]
  have e1:us[ii]?=some (us[ii]'()):=by simp
  have e2:us[jj]?=some (us[jj]'()):=by simp
  obtain q1|z1|qs1|w1|a1|g1|k1|p1|l1|c1:=(ru _ (av e1)).at;obtain q2|z2|qs2|w2|a2|g2|k2|p2|l2|c2:=(ru _ (av e2)).at;rw[w1] at e1;rw[w2] at e2;generalize eW:9^t*WV=W at *
  have W9:9*W<=2^140:=by rw[<- eW];exact Qb () V1 ()
  have sz9M:∀{x:Rat} {U:Nat},U<=9*W->Fr M U x->mU x:=λhU h=>Kw hM.1 hM.2 (ag hU W9) h
  have sz9:∀{x:Rat} {U:Nat} {v:V},U<=9*W->Fr (μ v) U x->mU x:=λhU h=>Kw (M0 _) (M1 _) (ag hU W9) h
  exists b8 (bE.of gu) (dq e1) ?_;exists b8 (bE.of gu) (dq e2) ?_;exists #[_,q2,_,qs2,rfl,nb,Dn (),#[z2,g2,p2],(),λy hy=>sz9M () (c2 y hy),λr1 Hg n1 sg R1=>?_];exists #[q1,r1,qs1,_,rfl,#[z1,sg _ _ g1,Paired.imp' (λ_ _ y=>y.same sg) p1],R1,by rw[af,l1,l2],(),λy hy=>sz9M () (c1 y hy),λy hy=>?_,λr2 Hh n2' sh R2=>?_]
  ·obtain y'|hy'|rfl:=aA.mp hy;exact zv hz (c2 y' hy') hM.1 hM.2 ()
  have sfh:=sg.trans sh
  have new:V.ref r2∉us++vs++ws:=λz=>by
   obtain q'|_|_|e'|_|g'|_:=((Xf.same sg).row _ z).at;cases e';rw[n2'] at g';cases g'
  have Xh:=(Xf.same sfh).weak (C':=λx y=>(x∈ws->Fr (μ x) W y)/\Fr (μ x) (3*W) y) λx _ y h=>#[λ_=>h,h.mono ()]
  have kph:=kpf.same sfh;have guh:=sfh _ _ gu;have ar2:A r2:=(kpf.same sg).new hA (Xf.same sg).bag (by rw[sg _ _ gu];simp) n2'
  have rp2:ie K A Hh n (λy=>(V.ref r2∈ws->Fr (μ (.ref r2)) W y)/\Fr (μ (.ref r2)) (3*W) y) (.ref r2):=by
   rw[eM (.ref r2) (λz=>new (ay.mpr (.inr z))) (λz=>new (ay.mpr (.inl (ay.mpr (.inr z)))))];refine #[r2,_,rfl,ar2,R2,by rw[cV,af];lia,λy hy=>#[λz=>absurd (ay.mpr (.inr z)) new,?_]];obtain j'|hj'|e:=bM hy;rw[k9,iE] at e;rw[<- e];exact Ed hz (c1 _ (aM _)) (c2 _ (aM _))
  exists eC guh (eK ()) rfl ?_;have Xi:=Xh.set MA rp2 new ii;have kpi:=kph.upd (o:=.lst (us.set ii (.ref r2))) (q:=m) (.inr rfl);have nli:bW K (upd Hh m (.lst (us.set ii (.ref r2)))) ((0 - z:Int):Rat) (.ref lt):=(nl.same sfh).updL guh;have nbi:bW K (upd Hh m (.lst (us.set ii (.ref r2)))) ((z:Int):Rat) (.ref bt):=(nb.same sfh).updL guh;generalize upd Hh m (.lst (us.set ii (.ref r2)))=Hi at Xi kpi nli nbi ⊢;generalize us.set ii (.ref r2)=um at Xi;clear nb nl Xf kpf gu ru e1 e2 g1 p1 g2 p2 R1 R2 Xh kph guh rp2 sg sh sfh new;have gm:=Xi.gm;have lm:=Xi.lm;have gl:=Xi.gl;have nd:=Xi.nd;obtain nd1|nd2|nd3:=eN.mp nd;exists iT gm gl j8 λcl Hj sj nj gj=>?_
  have kpj:=kpi.same sj
  have rows:∀x∈um++vs,∀q,x=V.ref q->q≠cl:=λx hx q e y=>by
   obtain q'|zs|_|e'|_|g'|_:=(Xi.row x (ay.mpr (.inl hx))).at;rw[e] at e';cases e';rw[y,nj] at g';cases g'
  have Xj:=(Xi.same sj).weak (C':=λx y=>(x∈ws->Fr (μ x) W y)/\(x∈(um++vs).drop 0->Fr (μ x) (3*W) y)/\Fr (μ x) (9*W) y) λx _ y h=>#[h.1,λ_=>h.2,h.2.mono ()]
  have lj:bW K Hj ((0 - z:Int):Rat) (.ref lt):=nli.same sj;have bj:bW K Hj ((z:Int):Rat) (.ref bt):=nbi.same sj;clear Xi kpi nli nbi;refine #[_,rfl,#[_,bE.of gj],?_];refine iP (K:=K) (a:=cl) (xs:=um++vs) (λs σ' H'=>∃x6:Option V,σ'=[some (.ref b),some (.ref m),some (.ref p),some (.ref l),some (.int n),some (.int t),some (.int ii),some (.int jj),some (.ref bt),some (.ref lt),x6]/\kT K A H' n (λx y=>(x∈ws->Fr (μ x) W y)/\(x∈(um++vs).drop s->Fr (μ x) (3*W) y)/\Fr (μ x) (9*W) y) m p l b q0 um ws vs/\jy A b m H H'/\H' cl=some (.lst (um++vs))/\bW K H' ((0 - z:Int):Rat) (.ref lt)/\bW K H' ((z:Int):Rat) (.ref bt)) #[_,rfl,Xj,kpj,gj,lj,bj] (λs σ' H' _ #[_,_,_,_,e,_]=>bE.of e) ?_ ?_
  ·rintro s x σ' Hk hx ⟨y6,rfl,Xk,kpk,gk,lk,bk⟩;have hs:s < (um++vs).9:=(aE.mp hx).1;have mx:=av hx
   have xd:x∈(um++vs).drop s:=by
    rw[fW hs,(aE.mp hx).2];exact .head _
   have xd2:x∉(um++vs).drop (s+1):=λz=>by
    have:=nd1.sublist (List.drop_sublist s _);rw[fW hs,fQ,(aE.mp hx).2] at this;exact this.1 z
   have xw:x∉ws:=λz=>nd3 x mx x z rfl
   have rx:=Xk.row x (ay.mpr (.inl mx));obtain q|zs|qs|rfl|aq|gq|lq|pq|lq2|cq:=rx.at;have qcl:=rows _ mx q rfl;obtain vj|ej|nj':=Lx pq (j:=jj) ();obtain vi|ei|ni':=Lx pq (j:=ii) ();have cj:=(cq _ (getD_mem (xs:=qs) (i:=jj) ())).2.1 xd;have ci:=(cq _ (getD_mem (xs:=qs) (i:=ii) ())).2.1 xd;exists b8 (bE.of gq) ej ?_;exists b8 (bE.of gq) ei ?_;exists #[_,_,_,_,rfl,lk,ni',Dn (),sz9 () ci,λr3 Hl sl n3=>?_];exists #[_,_,_,_,rfl,nj'.same sl,n3,sz9 () cj,zv () ci (M0 _) (M1 _) (),λr4 Hm sm n4=>?_];have slm:=sl.trans sm;exists eC (slm _ _ gq) (eK ()) rfl ?_;refine #[_,rfl,?_,(kpk.same slm).upd (.inl aq),by rw[bo qcl.symm];exact slm _ _ gk,(lk.same slm).updL (slm _ _ gq),(bk.same slm).updL (slm _ _ gq)];refine ((Xk.same slm).weak λx' _ y h=>#[h.1,λz=>h.2.1 ?_,h.2.2]).put MA aq (slm _ _ gq) n4 #[λz=>absurd z xw,λz=>absurd z xd2,?_] jj
   ·rw[fW hs];exact .tail _ z
   ·exact (Ed () cj ci).mono ()
  ·rintro σ' Hk ⟨y6,rfl,Xk,kpk,gk,lk,bk⟩;have gp:=Xk.gp;have Xk2:=Xk.weak (C':=λx y=>(x∈ws.drop 0->Fr (μ x) W y)/\Fr (μ x) (9*W) y) λx _ y h=>#[λz=>h.1 (by simpa using z),h.2.2]
   clear Xk;exists #[#[_,bE.of gp],?_];refine iP (K:=K) (a:=p) (xs:=ws) (λs σ' H'=>∃x6:Option V,σ'=[some (.ref b),some (.ref m),some (.ref p),some (.ref l),some (.int n),some (.int t),some (.int ii),some (.int jj),some (.ref bt),some (.ref lt),x6]/\kT K A H' n (λx y=>(x∈ws.drop s->Fr (μ x) W y)/\Fr (μ x) (9*W) y) m p l b q0 um ws vs/\jy A b m H H'/\bW K H' ((z:Int):Rat) (.ref bt)) #[_,rfl,Xk2,kpk,bk] (λs σ' H' _ #[_,_,X,_]=>bE.of X.gp) ?_ ?_
   ·rintro s x σ' Hl hx ⟨w6,rfl,Xl,kpl,bl⟩;have hs:s < ws.9:=(aE.mp hx).1;have mx:=av hx
    have xd:x∈ws.drop s:=by
     rw[fW hs,(aE.mp hx).2];exact .head _
    have xd2:x∉ws.drop (s+1):=λz=>by
     have:=nd2.sublist (List.drop_sublist s _);rw[fW hs,fQ,(aE.mp hx).2] at this;exact this.1 z
    have rx:=Xl.row x (ay.mpr (.inr mx));obtain q|zs|qs|rfl|aq|gq|lq|pq|lq2|cq:=rx.at;obtain vj|ej|nj':=Lx pq (j:=jj) ();obtain vi|ei|ni':=Lx pq (j:=ii) ();have cj:=(cq _ (getD_mem (xs:=qs) (i:=jj) ())).1 xd;have ci:=(cq _ (getD_mem (xs:=qs) (i:=ii) ())).1 xd;exists b8 (bE.of gq) ei ?_;exists b8 (bE.of gq) ej ?_;exists #[_,_,_,_,rfl,bl,nj',Dn (),sz9 () cj,λr3 Hm sm n3=>?_];exists #[_,_,_,_,rfl,ni'.same sm,n3,sz9 () ci,zv () cj (M0 _) (M1 _) (),λr4 Hn sn n4=>?_];have smn:=sm.trans sn;exists eC (smn _ _ gq) (eK ()) rfl ?_;refine #[_,rfl,?_,(kpl.same smn).upd (.inl aq),(bl.same smn).updL (smn _ _ gq)];refine ((Xl.same smn).weak λx' _ y h=>#[λz=>h.1 ?_,h.2]).put MA aq (smn _ _ gq) n4 #[λz=>absurd z xd2,?_] ii
    ·rw[fW hs];exact .tail _ z
    ·exact (Ed () ci cj).mono ()
   ·rintro σ' Hl ⟨w6,rfl,Xl,kpl,bl⟩;refine #[_,_,_,_,_,_,um,rfl,Xl.weak λ_ _ y h=>h.2.mono ?_,kpl];rw[<- eW,eF,cv (9^t) 9,dm];exact ak _
 ·rintro σ' H' ⟨x1,x2,x3,x4,x5,x6,us',rfl,X,kp⟩;exists bF λr H2' s' g'=>?_
  exact done r us' H2' _ () g' (X.same s') (kp.same s')
theorem eJ:sC ["_law_bag_here","_law_one","_law_other","_law_ahead","_law_behind","_law_found","_law_k"] 1 lH:=by walk_at "d"
theorem wq (T:Txt K mg Z):T.iZ.o P w base 5 (O4 K):=by
 refine T.iZ.F.k eJ ?_;walk_at "i";obtain b|rfl|hB|k:=h
 refine #[_,(au (eQ 1 eJ.nd (cT (rH T) hr T.ju (cQ b6 aj)))
  (au (eQ 2 eJ.nd (cT (rH T) hr T.ju (cQ b6 (bK fo aj (cT (aZ T) hr T.aR (cQ b6 aj))))))
  (au (eQ 3 eJ.nd (bK Nu (dw (dB (cD (cQ aj aj)))) aj))
  (au (eQ 4 eJ.nd (bK Nu (dw (dB (cD (cQ aj aj)))) (bB be (by rfl) T.len aT (dB (aX bS dW aj)))))
  (au (eQ 5 eJ.nd (dw ir))
  (au (eO PassesOwn.never rfl (cE rfl T.range (dB aj)) (eH 6 eJ.nd)
   (aB (gP (qB cb dk dj iS pU (dB (bK iU (bX ["_law_row_here"] ["_law_behind"] [4] (b9 (aX bS c9 oQ)) (λ_=>(eH 0)) (λ_=>bZ) (λ_=>(bK iU b6 c9))) (bX ["_law_row_here"] ["_law_ahead"] [3] (b9 (aX bS dW oQ)) (λ_=>(eH 0)) (λ_=>bZ) (λ_=>(bK iU c9 b6)))))))))
  (aB (a8 (cT (vB T) hr T.jI (Ae b6 (aX bC pU aj) (aX bC pU aj) (aX bC pU aj))))))))))),?_]
 walk_at "s"
 try rw[ik]
 obtain q0|I0|xq|gq0:=hB.inner;exists #[b,3,rfl,hB,(),(),λr1 mv1 pt1 lk1 H1 P1 lm1 lp1 ll1 D1 fm1 fp1 fl1 B1 u1=>?_];exists #[b,3,rfl,B1,(),(),λv H2 v0 v1 B2 u2=>?_];obtain v|rfl:=bP v0;have u02:=u1.trans u2;walk_at "w";rw[show ((3:Int)+(v:Int))=((3+v:Nat):Int) by lia];refine #[b,3+v,rfl,B2,(),(),λr2 mv2 pt2 lk2 H3 P2 lm2 lp2 ll2 D2 fm2 fp2 fl2 B3 u3=>?_];have u03:=u02.trans u3;have P1c:=(P1.upto (u2.trans u3) B1 hB.at);have P2c:gL K H H3 r2 mv2 pt2 lk2:=P2.weak λq h=>u02.none B2 h
 exists bF λt0 H4 s4 g4=>?_
 exists cO λa1 H5 s5 n5 g5=>?_
 exists Nb (k:=3) g5 () λah H6 s6 n6 g6=>?_
 have s36:=(s4.trans s5).trans s6;obtain m1|p1|l1|gt1|m1n|p1n|l1n|Gm1|Gp1|Gl1:=P1c.same s36;obtain m2|p2|l2|gt2|m2n|p2n|l2n|Gm2|Gp2|Gl2:=P2c.same s36;have N0:bW K H6 0 (V.ref t0):=bW.mk (q:=0) ((s5.trans s6) _ _ g4) rfl;exists bF λt1 H7 s7 g7=>?_
 exists cO λa2 H8 s8 n8' g8=>?_
 have s68:=s7.trans s8;have gt2':=s68 _ _ gt2;obtain um2|gm2|qm2|_:=id (Gm2.same s68);have lum2:=qm2.9;exists #[_,_,rfl,.inl (bE.of gm2),?_];rw[<- lum2,lm2];exists Nb (k:=3+v) g8 () λbh H9 s9 n9 g9=>?_
 have s69:=s68.trans s9;have s39:=s36.trans s69;have N1:bW K H9 0 (V.ref t1):=bW.mk (q:=0) ((s8.trans s9) _ _ g7) rfl;have u09:=u03.same s39;have B9:=B3.same s39;have g6':=s69 _ _ g6;have N0':=N0.same s69;exists cO λfd H10 s10 n10 g10=>?_
 have X1:∀i:Nat,i < 3->∃q1 R1 q2 R2,[V.ref m1,V.ref p1,V.ref l1][i]?=some (V.ref q1)/\bp K H H9 q1 R1/\(∀xs∈R1,xs.9=3/\∀y∈xs,Fr 1 1 y)/\[V.ref m2,V.ref p2,V.ref l2][i]?=some (V.ref q2)/\bp K H H9 q2 R2/\(∀xs∈R2,xs.9=3+v/\∀y∈xs,Fr 1 1 y)/\R1.9<=100/\R2.length<=100/\[6+v,2,2][i]?=some (R1.9+R2.length):=λi hi=>by
  rcases (show i=0\/i=1\/i=2 by lia) with rfl | rfl | rfl
  ·exact #[m1,mv1,m2,mv2,rfl,Gm1.same s69,λxs hx=>#[by rw[D1.mw xs hx,lm1],fm1 xs hx],rfl,Gm2.same s69,λxs hx=>#[by rw[D2.mw xs hx,lm2],fm2 xs hx],(),(),by rw[lm1,lm2,show 3+(3+v)=6+v by lia];rfl]
  ·exact #[p1,pt1,p2,pt2,rfl,Gp1.same s69,λxs hx=>#[by rw[D1.pw xs hx,lm1],fp1 xs hx],rfl,Gp2.same s69,λxs hx=>#[by rw[D2.pw xs hx,lm2],fp2 xs hx],(),(),by rw[lp1,lp2];rfl]
  ·exact #[l1,lk1,l2,lk2,rfl,Gl1.same s69,λxs hx=>#[by rw[D1.lw xs hx,lm1],fl1 xs hx],rfl,Gl2.same s69,λxs hx=>#[by rw[D2.lw xs hx,lm2],fl2 xs hx],(),(),by rw[ll1,ll2];rfl]
 exists #[(),(),?_];refine fH (n:=3) (λi σ' H'=>aH H9 H'/\∃x6 L,σ'=[some (.ref b),some (.ref r1),some (.ref r2),some (.ref ah),some (.ref bh),some (.ref fd),x6]/\VE K H9 H' (6+v) fd L/\L.9=i/\∀(j:Nat) (e:Addr×List V),L[j]?=some e->[6+v,2,2][j]?=some e.2.9) #[s10,none,[],rfl,#[g10,n10,(λ_ z=>nomatch z),pB,(λ_ z=>nomatch z),pB],rfl,λj e h=>by simp at h] ?_ ?_
 ·rintro i σ' H' hi ⟨s',x6,L,rfl,T,lL,hL⟩;obtain q1|R1|q2|R2|e1|G1|w1|e2|G2|w2|b1|b2|hlen:=X1 i hi;have gt1':=s' _ _ (s69 _ _ gt1);have gt2'':=s' _ _ (s69 _ _ gt2);obtain ux1|gx1|qx1|_:=id (G1.same s');have gb:=s' _ _ g9;have ga:=s' _ _ g6';exists #[.inl #[rfl,_,bE.of T.gf],?_];exists IL (sL.of gt1') (dq e1) ?_;exists #[#[_,bE.of gx1],?_];refine CS (K:=K) (F:=cW K H) (λH'' c x=>∃q,x=V.ref q/\cS K H'' q c) (λr=>r++List.replicate (3+v) 0) gx1 qx1 () (λa b=>a.same b) (λa b=>by obtain q|e|r:=a;exact #[q,e,r.same b]) (λa=>by obtain q|e|_|gg|_:=a;exact #[q,e,by rw[gg];exact λz=>nomatch z]) ?_ ?_
  ·rintro j ns x Hi NY NN en si ⟨q,rfl,_,zs,gz,qz⟩ k1;have ws:=(w1 ns (av en)).1;have lz:=qz.9;exists iT gz (si _ _ gb) (cC (cU (by rw[aJ];lia))) λc Hj sj nj gj=>?_
   exact k1 _ _ sj #[c,rfl,_,gj,bV (Paired.imp' (λ_ _ z=>z.same sj) qz) (vO (((N1.same s').same si).same sj) _)] #[c,rfl,nj]
  rintro ys1 Ha c1 hc1 sa ga1 nd1 ne1 pr1;obtain ux2|gx2|qx2|_:=id ((G2.same s').same sa);have gt2a:=sa _ _ gt2'';exists IL (sL.of gt2a) (dq e2) ?_;exists #[#[_,bE.of gx2],?_];refine CS (K:=K) (F:=cW K H) (λH'' c x=>∃q,x=V.ref q/\cS K H'' q c) (λr=>List.replicate 3 0++r) gx2 qx2 () (λa b=>a.same b) (λa b=>by obtain q|e|r:=a;exact #[q,e,r.same b]) (λa=>by obtain q|e|_|gg|_:=a;exact #[q,e,by rw[gg];exact λz=>nomatch z]) ?_ ?_
  ·rintro j ns x Hi NY NN en si ⟨q,rfl,_,zs,gz,qz⟩ k1;have ws:=(w2 ns (av en)).1;have lz:=qz.9;exists iT ((sa.trans si) _ _ ga) gz (cC (cU (by rw[aJ];lia))) λc Hj sj nj gj=>?_
   exact k1 _ _ sj #[c,rfl,_,gj,bV (vO ((((N0'.same s').same sa).same si).same sj) _) (Paired.imp' (λ_ _ z=>z.same sj) qz)] #[c,rfl,nj]
  rintro ys2 Hb c2 hc2 sb gb2 nd2 ne2 pr2;have sab:=sa.trans sb;have ly1:=pr1.9;have ly2:=pr2.9;rw[af] at ly1 ly2;exists iT (sb _ _ ga1) gb2 j8 λqn Hc sc nc gc=>?_
  have sac:=sab.trans sc;have gfc:=sac _ _ T.gf;exists lJ gfc (cU (by rw[af];lia)) ?_
  have rP:∀{c:List Rat} {x:V},(∃q,x=V.ref q/\cS K Hb q c)->(∃q,x=V.ref q/\H' q=none)->c.9=6+v->(∀y∈c,Fr 1 1 y)->ie K (λz=>H' z=none/\z≠qn) Hc (6+v) (Fr 1 1) x:=λ#[q,e,r] #[q',e',nq] hl hf=>by
   rw[e] at e';cases e';exact #[q,_,e,#[nq,λz=>by obtain _|gg|_:=r;rw[z,nc] at gg;cases gg],r.same sc,hl,hf]
  refine #[(s'.trans sac).after n10,some (.int i),L++[(qn,ys1++ys2)],rfl,T.snoc s' sac (sab.none nc) gc ?_ (λx hx=>?_),by rw[ar,a9,lL],λj e he=>?_]
  ·refine eN.mpr #[nd1,nd2,λx hx y hy z=>?_];obtain _|_|q|e|_|gg|_:=cZ pr1 hx;obtain q'|e'|nq|_:=ne2 y hy;rw[<- z,e] at e';cases e';rw[nq] at gg;cases gg
  ·rcases ay.mp hx with hx | hx
   ·obtain c|mc|q|e|r:=cZ pr1 hx;obtain ns|mn|rfl:=aA.mp mc;obtain q'|e'|nq|_:=ne1 x hx;refine rP #[q,e,r.same sb] #[q',e',nq] (by rw[ar,aJ,(w1 ns mn).1];lia) λy hy=>?_
    rcases ay.mp hy with hy | hy
    ·exact (w1 ns mn).2 y hy
    ·rw[(du.mp hy).2];exact Fr.zero
   ·obtain c|mc|q|e|r:=cZ pr2 hx;obtain ns|mn|rfl:=aA.mp mc;obtain q'|e'|nq|_:=ne2 x hx;refine rP #[q,e,r] #[q',e',sa.none nq] (by rw[ar,aJ,(w2 ns mn).1];lia) λy hy=>?_
    rcases ay.mp hy with hy | hy
    ·rw[(du.mp hy).2];exact Fr.zero
    ·exact (w2 ns mn).2 y hy
  ·rcases cB j L.9 with z | z
   ·rw[bG z] at he;exact hL j e he
   ·have hj:=(aE.mp he).1;rw[ar,a9] at hj;have ej:j=L.9:=()
    subst ej;rw[bc (ak _),gM] at he;cases he;rw[lL,hlen,ar,ly1,ly2]
 ·rintro σ' H' ⟨s',x6,L,rfl,T,lL,hL⟩
  obtain ⟨⟨m,us⟩,⟨p,ws⟩,⟨l,vs⟩,rfl⟩:∃a b c,L=[a,b,c]:=by
   rcases L with _ | ⟨a,_ | ⟨b,_ | ⟨c,_ | ⟨d,L⟩⟩⟩⟩
   ·cases lL
   ·cases lL
   ·cases lL
   ·exact #[a,b,c,rfl]
   ·simp at lL
  have lu:us.9=6+v:=by have:=hL 0 _ rfl;simpa using this.symm
  have lw:ws.9=2:=by have:=hL 1 _ rfl;simpa using this.symm
  have lv:vs.9=2:=by have:=hL 2 _ rfl;simpa using this.symm
  have gf:=T.gf;obtain mn|mf|gm:=T.ls (m,us) (by simp);obtain pn|pf|gp:=T.ls (p,ws) (by simp);obtain ln|lf|gl:=T.ls (l,vs) (by simp);have nd:=T.nd;have rw':=T.rows;have rd:=T.rd;clear T hL;have gf:H' fd=some (.lst [.ref m,.ref p,.ref l]):=gf;have nd:[m,p,l].Nodup:=nd;have rd:(us++(ws++(vs++[]))).Nodup:=rd;have u0':=u09.same s';have B':=B9.same s';have hm0:H m=none:=u09.none B9 mn;have hp0:H p=none:=u09.none B9 pn;have hl0:H l=none:=u09.none B9 ln;obtain ⟨A,eA⟩:∃A:Addr->Prop,A=λq=>H q=none/\q≠m/\q≠p/\q≠l:=#[_,rfl]
  have mkA:∀{q},H q=none->q≠m->q≠p->q≠l->A q:=λh1 h2 h3 h4=>by rw[eA];exact #[h1,h2,h3,h4]
  have unA:∀{q},A q->H q=none/\q≠m/\q≠p/\q≠l:=λh=>by rw[eA] at h;exact h
  have nb:∀{q},H q=none->q≠b:=λh z=>hB.at (by rw[<- z];exact h)
  have MA:Ig A m p l b q0:=#[λz=>(unA z).2.1 rfl,λz=>(unA z).2.2.1 rfl,λz=>(unA z).2.2.2 rfl,λz=>hB.at (unA z).1,(λz=>by have z1:=(unA z).1;rw[gq0] at z1;cases z1),nb hm0,nb hp0,nb hl0,by intro z;subst z;simp at nd,by intro z;subst z;simp at nd,λz=>by rw[<- z,hm0] at gq0;cases gq0];have X:kT K A H' (6+v) (λ_=>Fr 1 1) m p l b q0 us ws vs:=#[B',u0'.2 _ I0,gm,gp,gl,lu,λx hx=>?_,?_]
  ·exists #[b,m,p,l,q0,6+v,1,λ_=>1,A,us,ws,vs,rfl,MA,X,(),(),(),λ_=>Nat.zero_lt_one,λ_=>bJ,#[1,λ_ _ _=>rfl],(),λq hq=>?_,λr us' H'' g Y kp=>?_]
   ·exact mkA (u0'.none B' hq) (λz=>by rw[z,gm] at hq;cases hq) (λz=>by rw[z,gp] at hq;cases hq) (λz=>by rw[z,gl] at hq;cases hq)
   ·obtain mv|Gm|lmv|hmv:=l9 (H0:=H) (n:=6+v) (C:=Fr 1 (9^3*1)) (m:=6+v) #[us',Y.gm,Y.lm,MA.am,λx hx=>Y.row x (by simp [hx])] λq h=>(unA h).1
    obtain pt|Gp|lpt|hpt:=l9 (H0:=H) (n:=6+v) (C:=Fr 1 (9^3*1)) (m:=2) #[ws,Y.gp,lw,MA.ap,λx hx=>Y.row x (by simp [hx])] λq h=>(unA h).1
    obtain lk|Gl|llk|hlk:=l9 (H0:=H) (n:=6+v) (C:=Fr 1 (9^3*1)) (m:=2) #[vs,Y.gl,lv,MA.al,λx hx=>Y.row x (by simp [hx])] λq h=>(unA h).1
    refine k r mv pt lk H'' #[m,p,l,g,hm0,hp0,hl0,Gm,Gp,Gl] () #[(),(),(),λxs hx=>by rw[(hmv xs hx).1,lmv],λxs hx=>by rw[(hpt xs hx).1,lmv],λxs hx=>by rw[(hlk xs hx).1,lmv]] (λxs hx=>(hmv xs hx).2) (λxs hx=>(hpt xs hx).2) (λxs hx=>(hlk xs hx).2) Y.bag #[λc' u e n1=>kp c' u (u0'.1 _ _ e n1) n1 (λz=>by have:=(unA z).1;rw[e] at this;cases this) (λz=>by rw[z,hm0] at e;cases e),λq h=>by rw[<- Inner.inj I0 h];exact Y.inn]
  ·have hx:∃e∈[(m,us),(p,ws),(l,vs)],x∈e.2:=by
    rcases ay.mp hx with hx | hx
    ·rcases ay.mp hx with hx | hx
     ·exact #[(m,us),by simp,hx]
     ·exact #[(l,vs),by simp,hx]
    ·exact #[(p,ws),by simp,hx]
   obtain e|he|hx:=hx;refine (rw' e he x hx).weak (λq hq=>?_) (λ_ w=>w);obtain ⟨h1,_⟩|h2:=hq;have h2:q∉[m,p,l]:=h2;simp only[aI,bw,or_false,not_or] at h2;exact mkA (u09.none B9 h1) h2.1 h2.2.1 h2.2.2
  ·rw[oo] at rd
   have e:(us++vs++ws).Perm (us++(ws++vs)):=by
    rw[dc];exact List.Perm.append_left _ List.perm_append_comm
   exact e.nodup_iff.mpr rd
theorem sY:sC ["_law_bag_here","_law_wide","_law_way"] 2 pR:=by walk_at "d"
theorem Ao (T:Txt K mg Z):T.kJ.o P w base 2 (zF K):=by
 refine T.kJ.F.k sY ?_;walk_at "i";obtain b|w|rfl|hB|w0|w1|k:=h
 refine #[_,(au (eQ 2 sY.nd (cT (aZ T) hr T.aR (cQ b6 aj)))
  (au (di (bf uc dW aj (bu _)) (aB (a8 (cD (cQ aj aj)))) bU)
  (au (di (bf uc dW aj (bu _)) (aB (a8 (cD (cQ (bK kx (cT (aZ T) hr T.aR (cQ b6 aj)) aj) aj)))) bU)
  (au (di (bf dX dW aj (bu _)) (aB (a8 (cT (jY T) hr T.gQ (cQ (bK kx (cT (aZ T) hr T.aR (cQ b6 aj)) aj) (bK fo aj (cT (aZ T) hr T.aR (cQ b6 aj))))))) bU)
  (aB (a8 (cT (jY T) hr T.gQ (cQ (bK kx (cT (aZ T) hr T.aR (cQ b6 (bK fo (bK dQ aj c9) aj))) c9) (bK fo aj (cT (aZ T) hr T.aR (cQ b6 c9))))))))))),?_]
 walk_at "s"
 try rw[ik]
 exists #[b,8,rfl,hB,(),(),λv H1 v0 v1 B1 u1=>?_];exists dU (λh0=>?_) (λh0=>?_)
 ·exists bF λr H2 s2 g2=>?_
  exact k r 0 _ #[br _,by show 1<=_;lia] (bW.mk g2 rfl) (B1.same s2) (u1.same s2)
 exists dU (λh1=>?_) (λh1=>?_)
 ·exists #[b,7,rfl,B1,(),(),λa H2 a0 a1 B2 u2=>?_];exists bF λr H3 s3 g3=>?_
  exact k r ((a - 3:Int):Rat) _ #[by show (a - 3).natAbs<=_;lia,by show 1<=_;lia] (bW.mk g3 rfl) (B2.same s3) ((u1.trans u2).same s3)
 exists dU (λh2=>?_) (λh2=>?_)
 ·exists #[b,13,rfl,B1,(),(),λa H2 a0 a1 B2 u2=>?_];exists #[b,6,rfl,B2,(),(),λc H3 c0 c1 B3 u3=>?_];exists #[_,_,rfl,(),(MI ()).mono (),λr H4 s4 g4=>?_];obtain q|e|d|_:=NO (t:=a - 6) (b:=1+c) (W:=max w 6) () () ();exact k r q _ d (bW.mk g4 e) (B3.same s4) (((u1.trans u2).trans u3).same s4)
 exists #[b,_,rfl,B1,(),(),λa H2 a0 a1 B2 u2=>?_];exists #[b,_,rfl,B2,(),(),λc H3 c0 c1 B3 u3=>?_];exists #[_,_,rfl,(),(MI ()).mono (),λr H4 s4 g4=>?_];obtain q|e|d|_:=NO (t:=a - w) (b:=1+c) (W:=max w 6) () () ();exact k r q _ d (bW.mk g4 e) (B3.same s4) (((u1.trans u2).trans u3).same s4)
theorem FI:sC ["_law_bag_here","_law_many","_law_wide"] 3 vI:=by walk_at "d"
theorem jX (T:Txt K mg Z):T.fZ.o P w base 3 (Fx K):=by
 refine T.fZ.F.k FI ?_;walk_at "i";obtain b|m|w|rfl|hB|hm|w0|w1|k:=h;refine #[_,(aB (a8 (bX ["_law_k"] ["_law_bag_here","_law_wide"] [0,2] (cE rfl T.range (dB c9)) (λ_=>(eH 0)) (λ_=>bZ) (λ_=>(cT (Ao T) hr T.kJ (cQ c9 dW)))))),?_];walk_at "s"
 try rw[ik]
 exists #[(),(),?_];refine uZ (n:=m) (bW K) (Dr (max w 6)) hB hm (λa u B=>a.upto u B) ?_ ?_
 ·rintro i H' NY NN hi u B k1;exists #[b,w,rfl,B,w0,w1,λr x H2 hx h2 B2 u2=>k1 _ x _ u2 B2 hx h2]
 ·rintro ys cs H' p hp u B g lc hc pr nx;exact k p cs H' hp #[ys,g,pr] lc hc B u
theorem ko:sC ["_law_bag_here","_law_n","_law_way","_law_first","_law_wide","_law_move_here","_law_i","_law_row_here","_law_j"] 5 tO:=by walk_at "d"
theorem D3 (T:Txt K mg Z):T.og.o P w base 4 (Fn K):=by
 refine T.og.F.k ko ?_;walk_at "i";obtain b|n|w|way|first|rfl|hB|n8|w0|w1|k:=h
 refine #[_,(au (eQ 5 ko.nd (dw ir))
  (au (eO PassesOwn.never rfl (cE rfl T.range (dB c9)) (eH 6 ko.nd)
   (au (eQ 7 ko.nd (cT (jX T) hr T.fZ (rB b6 c9 kU)))
  (au (eO PassesOwn.never rfl (cE rfl T.range (dB c9)) (eH 8 ko.nd)
   (iQ (di (PW.pt (ks (bf dX dW aj (bu _)) (mi (bf vo (cT (aZ T) hr T.aR (cQ b6 aj)) aj (bu _))))) (aB (eP (cD (cQ aj aj)) (fR AZ EY set_list))) bU)
  (iQ (di (PW.pt (ks (bf dX dW aj (bu _)) (mi (bf uc (bK fo oQ aj) c9 (bu _))))) (aB (eP (cD (cQ (dI ow (by rfl) T.int PyProof.Rows.boot_int (dB (jK dX EY (bK fo oQ aj) (bu _)))) aj)) (fR AZ EY set_list))) bU)
  (iQ (di (PW.pt (vn (PW.pt (ks (bf dX dW aj (bu _)) (ks (bf Cv oQ ic (bu _)) (mi (bf uc EY ic (bu _)))))) (pT (PW.pt (ks (bf dX dW aj (bu _)) (ks (bf uc oQ ic (bu _)) (mi (bf Cv EY ic (bu _))))))))) (aB (eP (cD (cQ aj aj)) (fR AZ EY set_list))) bU)
  (aB (di (bf dX dW aj (bu _)) (aB (eP (cD (cQ (bK dQ (aX bC (dw (Ae aj aj (qq lD aj) aj)) (bK pW ic aj)) (dI ow (by rfl) T.int PyProof.Rows.boot_int (dB (jK dX oQ EY (bu _))))) aj)) (fR AZ EY set_list))) bU))))))
  (aB (gP (qB cb dk dj iS pU (dB AZ)))))))
  (aB (a8 pU)))),?_]
 walk_at "s"
 try rw[ik]
 have W1:1<=max w 6:=()
 exists cO λr H1 s1 n1 g1=>?_
 have rb:r≠b:=λz=>hB.at (by rw[<- z];exact n1)
 obtain q0|I0|xs0|gq0:=hB.inner;have I1:Inner H1 b q0:=(s1.upto (p:=b)).2 _ I0;obtain ⟨A,eA⟩:∃A:Addr->Prop,A=λq=>H q=none/\q≠r:=#[_,rfl]
 have nb:¬A b:=by rw[eA];exact λz=>hB.at z.1
 have nr:¬A r:=by rw[eA];exact λz=>z.2 rfl
 have nq:¬A q0:=by rw[eA];exact λz=>by have z1:=z.1;rw[gq0] at z1;cases z1
 have rq:r≠q0:=λz=>by rw[<- z,n1] at gq0;cases gq0
 exists #[(),(),?_];refine fH (n:=n) (λi σ' H'=>∃(x1 x2 x3:Option V) (us:List V),σ'=[some (.ref b),some (.int n),some (.int way),some (.int first),some (.int w),some (.ref r),x1,x2,x3]/\H' r=some (.lst us)/\us.9=i/\us.Nodup/\(∀x∈us,ie K A H' n (Dr (max w 6)) x)/\ig H' b/\Inner H' b q0/\c8 b H H') #[none,none,none,[],rfl,g1,rfl,pB,(λ_ z=>nomatch z),hB.same s1,I1,s1.upto] ?_ ?_
 ·rintro i σ' H' hi ⟨x1,x2,x3,us,rfl,gu,lu,nd,ru,B',I',u'⟩;exists #[b,n,w,rfl,B',(),w0,w1,λp xs Ha np Ra la da Ba ua=>?_];have hp0:H p=none:=u'.none B' np
  have pn:V.ref p∉us:=λz=>by
   obtain q'|_|_|e'|_|g'|_:=(ru _ z).at;cases e';rw[np] at g';cases g'
  have ap':H p=none/\p≠r:=#[hp0,λz=>by rw[z,gu] at np;cases np];have ap:A p:=by rw[eA];exact ap'
  have X0:KN K A n (Dr (max w 6)) r p b q0 us H Ha:=#[ua.other rb gu,λx hx=>(ru x hx).upto ua B' nb,#[p,xs,rfl,ap,Ra,la,da],Ba,ua.2 _ I',u'.trans ua];clear ru Ra gu;exists #[(),(),?_];refine fH (n:=n) (λj σ' H'=>(∃x3,σ'=[some (.ref b),some (.int n),some (.int way),some (.int first),some (.int w),some (.ref r),some (.int i),some (.ref p),x3])/\KN K A n (Dr (max w 6)) r p b q0 us H H') #[#[_,rfl],X0] ?_ ?_
  ·rintro j σ' Hj hj ⟨⟨x3,rfl⟩,X⟩;exists #[λσ' H'=>σ'=[some (.ref b),some (.int n),some (.int way),some (.int first),some (.int w),some (.ref r),some (.int i),some (.ref p),some (.int j)]/\KN K A n (Dr (max w 6)) r p b q0 us H H',?_,?_]
   ·exists dU (λ_=>?_) (λ_=>?_)
    ·exists #[b,3,rfl,X.bag,(),(),λd Hd d0 d1 Bd ud=>?_];replace X:=X.upto ud Bd nb rb
     repeat' (first | walk_at "rd" | refine dU (λ_=>?_) (λ_=>?_))
     all_goals first
      | exact ⟨rfl,X⟩
      | (refine bF λt Hb sb gb=>?_;walk_at "w";obtain zs|gz|lz|Xz:=(X.same sb).put ap nr nb nq hp0 (bW.mk (q:=0) gb rfl) (uA (i:=0) (br _) W1) j;refine eC gz (eK ()) rfl ?_;exact #[rfl,Xz])
    ·exists #[rfl,X]
   clear X;rintro σ' Hj ⟨rfl,X⟩;refine #[λσ' H'=>σ'=[some (.ref b),some (.int n),some (.int way),some (.int first),some (.int w),some (.ref r),some (.int i),some (.ref p),some (.int j)]/\KN K A n (Dr (max w 6)) r p b q0 us H H',?_,?_]
   ·repeat' (first | walk_at "rd" | refine dU (λ_=>?_) (λ_=>?_))
    all_goals first
     | exact ⟨rfl,X⟩
     | (refine bF λt Hb sb gb=>?_;walk_at "w";obtain zs|gz|lz|Xz:=(X.same sb).put ap nr nb nq hp0 (bW.mk (q:=((if decide ((j:Int)=(i:Int)+1)=true then (1:Int) else 0:Int):Rat)) gb rfl) (uA (by split <;> lia) W1) j;refine eC gz (eK ()) rfl ?_;exact #[rfl,Xz])
   clear X;rintro σ' Hj ⟨rfl,X⟩;refine #[λσ' H'=>σ'=[some (.ref b),some (.int n),some (.int way),some (.int first),some (.int w),some (.ref r),some (.int i),some (.ref p),some (.int j)]/\KN K A n (Dr (max w 6)) r p b q0 us H H',?_,?_]
   ·repeat' (first | walk_at "rd" | refine dU (λ_=>?_) (λ_=>?_))
    all_goals first
     | exact ⟨rfl,X⟩
     | (refine bF λt Hb sb gb=>?_;walk_at "w";obtain zs|gz|lz|Xz:=(X.same sb).put ap nr nb nq hp0 (bW.mk (q:=0) gb rfl) (uA (i:=0) (br _) W1) j;refine eC gz (eK ()) rfl ?_;exact #[rfl,Xz])
   clear X;rintro σ' Hj ⟨rfl,X⟩;exists dU (λ_=>?_) (λ_=>?_)
   ·exists cO λl0 Hc sc nc gc=>?_
    walk_at "w";obtain x|ex|mx|_:=mT (xs:=[V.int 2,V.int 1,V.int (-1),V.int 0]) (i:=first % 4) (ou _ ()) (by have:=jO first (show (0:Int) < 4 by decide);simpa using this)
    obtain ⟨z,rfl,hz⟩:∃z:Int,x=.int z/\z.natAbs<=2:=by
     simp only[aI,bw,or_false] at mx;rcases mx with rfl | rfl | rfl | rfl
     ·exact #[2,rfl,()]
     ·exact #[1,rfl,()]
     ·exact #[-1,rfl,()]
     ·exact #[0,rfl,()]
    refine b8 (bE.of gc) ex ?_;exists iF (EA () ()) ?_;exists bF λt Hb sb gb=>?_
    walk_at "w";obtain zs|gz|lz|Xz:=((X.same sc).same sb).put ap nr nb nq hp0 (bW.mk (q:=((z*(if decide ((i:Int)=(j:Int))=true then (1:Int) else 0):Int):Rat)) gb rfl) (uA (by split <;> lia) W1) j;refine eC gz (eK ()) rfl ?_;exact #[#[_,rfl],Xz]
   ·exists #[#[_,rfl],X]
  ·rintro σ' Hj ⟨⟨x3,rfl⟩,X⟩;exists #[.inl #[rfl,_,bE.of X.gr],?_];exists lJ X.gr (cU ()) ?_;refine #[_,_,_,us++[.ref p],rfl,aG,by simp [lu],rL nd pn,λx hx=>?_,X.bag.upd X.inn rb rq,X.inn.upd rb,X.up.after n1];rcases ay.mp hx with hx | hx
   ·exact (X.ru x hx).other X.gr nr
   ·have e:x=V.ref p:=by simpa using hx
    rw[e];exact X.rp.other X.gr nr
 ·rintro σ' H' ⟨x1,x2,x3,us,rfl,gu,lu,nd,ru,B',I',u'⟩;exists k r us H' n1 gu lu nd (by rw[eA] at ru;exact ru) B' u'
theorem fj:sC ["_law_bag_here","_law_n","_law_ins","_law_outs","_law_wide","_law_way","_law_first","_law_move_here","_law_put","_law_look","_law_k","_law_row_here"] 5 rg:=by walk_at "d"
theorem A8 (T : Txt K mg Z) : T.mH.o P w base 5 (Cd K) := by
  have o9 := aZ (P := P) (w := w) (base := base) T;have Ih := D3 (P := P) (w := w) (base := base) T;have AG := jX (P := P) (w := w) (base := base) T;have EV := vB (P := P) (w := w) (base := base) T;refine T.mH.F.k fj ?_;walk_at "i";obtain b|n|i|o|w|c|rfl|hB|n8|i4|o4|w0|w1|hc|hc20|hcM|k:= h
  refine #[_, (au (eQ 5 fj.nd (cT o9 hr T.aR (cQ b6 aj)))
    (au (eQ 6 fj.nd (cT o9 hr T.aR (cQ b6 (bK fo c9 aj))))
    (au (eQ 7 fj.nd (cT Ih hr T.og (fV b6 (Ae c9 pU oQ kU))))
    (au (iY 8 ["_law_k"] ["_law_bag_here", "_law_n", "_law_wide"] [0, 1, 4] fj.nd rfl rfl (cE rfl T.range (dB dW)) (λ_ => (eH 0)) (λ_ => bZ) (λ_ => (cT AG hr T.fZ (rB c9 dW ic))))
    (au (iY 9 ["_law_k"] ["_law_bag_here", "_law_n", "_law_wide"] [0, 1, 4] fj.nd rfl rfl (cE rfl T.range (dB ic)) (λ_ => (eH 0)) (λ_ => bZ) (λ_ => (cT AG hr T.fZ (rB c9 dW ic))))
    (au (eO PassesOwn.never rfl (cE rfl T.range (dB c9)) (eH 10 fj.nd)
      (au (eO PassesOwn.never rfl (b9 EY) (eH 11 fj.nd)
      (aB (di (PW.pt (vn (PW.pt (ks (bf dX pU aj (bu _)) (mi (bf Cv (pv 10) oQ (bu _))))) (pT (PW.pt (ks (bf dX pU aj (bu _)) (ks (bf uc (bK fo (pv 10) aj) c9 (bu _)) (mi (bf dX (cT o9 hr T.aR (cQ b6 aj)) aj (bu _))))))))) (aB (eP (cD (cQ aj aj)) (fR (pv 11) (pv 10) set_list))) bU)))
    (aB (eO PassesOwn.never rfl (b9 Mf) (eH 11 fj.nd)
      (aB (di (PW.pt (vn (PW.pt (ks (bf dX pU aj (bu _)) (mi (bf Cv (pv 10) oQ (bu _))))) (pT (PW.pt (ks (bf dX pU aj (bu _)) (ks (bf vo (pv 10) aj (bu _)) (mi (bf dX (cT o9 hr T.aR (cQ b6 aj)) aj (bu _))))))))) (aB (eP (cD (cQ aj aj)) (fR (pv 11) (pv 10) set_list))) bU))))))
    (aB (a8 (cT EV hr T.jI (Ae b6 AZ EY Mf)))))))))), ?_]
  walk_at "s"
  try rw [ik]
  have W1 : 1 ≤ max w 6 := by lia
  obtain q0|I0|xs0|gq0:= hB.inner;exists #[b, 6, rfl, hB, by decide, by decide, λway H1 a0 a1 B1 u1 => ?_];exists #[b, _, rfl, B1, by lia, by lia, λfirst H2 f0 f1 B2 u2 => ?_];have u02 := u1.trans u2;exists #[b, n, w, way, first, rfl, B2, n8, w0, w1, λm us H3 nm0 gm lm ndm rm B3 u3 => ?_];have u03 := u02.trans u3;exists #[(), by lia, ?_];refine CY (n := i) (b := b) (cW K H3) (λxs => xs.9 = n /\ ∀ x ∈ xs, Dr (max w 6) x) B3 () (λa u B => a.upto u B B3.at) (λ#[q, e, _, _, g, _] => #[q, e, by rw [g]; exact λz => nomatch z]) ?_ ?_
  · rintro s H' NY NN hi u B k1;exists #[b, n, w, rfl, B, by lia, w0, w1, λr xs H2 nr R lx dx B2 u2 => k1 _ xs _ u2 B2 #[lx, dx] #[r, rfl, u.none B nr, R] #[r, rfl, nr]]
  rintro ws puts H4 p np u4 B4 gp lp ndp hp pr4 nx4;have u04 := u03.trans u4;exists #[(), by lia, ?_];refine CY (n := o) (b := b) (cW K H4) (λxs => xs.9 = n /\ ∀ x ∈ xs, Dr (max w 6) x) B4 () (λa u B => a.upto u B B4.at) (λ#[q, e, _, _, g, _] => #[q, e, by rw [g]; exact λz => nomatch z]) ?_ ?_
  · rintro s H' NY NN hi u B k1;exists #[b, n, w, rfl, B, by lia, w0, w1, λr xs H2 nr R lx dx B2 u2 => k1 _ xs _ u2 B2 #[lx, dx] #[r, rfl, u.none B nr, R] #[r, rfl, nr]]
  rintro vs looks H5 l nl u5 B5 gl ll ndl hl pr5 nx5;have u05 := u04.trans u5;have hm0 : H m = none := u02.none B2 nm0;have hp0 : H p = none := u03.none B3 np;have hl0 : H l = none := u04.none B4 nl;have mb : m ≠ b := λz => B2.at (by rw [<- z]; exact nm0)
  have pb : p ≠ b := λz => B3.at (by rw [<- z]; exact np)
  have lb : l ≠ b := λz => B4.at (by rw [<- z]; exact nl)
  have gm4 := u4.other mb gm;have gm5 := u5.other mb gm4;have gp5 := u5.other pb gp;have mp : m ≠ p := λz => by rw [z, np] at gm; cases gm
  have ml : m ≠ l := λz => by rw [z, nl] at gm4; cases gm4
  have pl : p ≠ l := λz => by rw [z, nl] at gp; cases gp
  have mq : m ≠ q0 := λz => Inner.at B2 (u02.2 _ I0) (by rw [<- z]; exact nm0)
  obtain ⟨A, eA⟩ : ∃ A : Addr → Prop, A = λq => H q = none /\ q ≠ m /\ q ≠ p /\ q ≠ l := #[_, rfl]
  have mkA : ∀ {q}, H q = none → q ≠ m → q ≠ p → q ≠ l → A q := λh1 h2 h3 h4 => by rw [eA]; exact #[h1, h2, h3, h4]
  have unA : ∀ {q}, A q → H q = none /\ q ≠ m /\ q ≠ p /\ q ≠ l := λh => by rw [eA] at h; exact h
  have MA : Ig A m p l b q0 := #[λz => (unA z).2.1 rfl, λz => (unA z).2.2.1 rfl, λz => (unA z).2.2.2 rfl, λz => hB.at (unA z).1, (λz => by have z1 := (unA z).1; rw [gq0] at z1; cases z1), mb, pb, lb, mp, ml, mq];clear eA;have lws : ws.9 = i := by rw [<- pr4.9]; exact lp
  have lvs : vs.9 = o := by rw [<- pr5.9]; exact ll
  have alM : ∀ q, V.ref q ∈ us → H3 q ≠ none /\ q ≠ b /\ H4 q ≠ none := λq hq => by
    obtain q'|qs|e|⟨a1, a2⟩|r|z:= rm _ hq;cases e;have qb : q ≠ b := λy => B2.at (by rw [<- y]; exact a1)
    obtain xq|gq|_:= id r;obtain xq4|gq4|_:= r.upto u4 B3 qb;exact #[(by rw [gq]; exact λz => nomatch z), qb, (by rw [gq4]; exact λz => nomatch z)]
  have alP : ∀ q, V.ref q ∈ ws → H3 q = none /\ H4 q ≠ none := λq hq => by
    obtain _|_|q'|e|a|_|g|_:= cZ pr4 hq;cases e;exact #[a, by rw [g]; exact λz => nomatch z]
  have alL : ∀ q, V.ref q ∈ vs → H4 q = none := λq hq => by
    obtain _|_|q'|e|a|_:= cZ pr5 hq;cases e;exact a
  have isR : ∀ x, x ∈ us \/ x ∈ ws \/ x ∈ vs → ∃ q, x = V.ref q := λx hx => by
    rcases hx with hx | hx | hx
    · obtain q|_|e|_:= rm x hx; exact #[q, e]
    · obtain _|_|q|e|_:= cZ pr4 hx; exact #[q, e]
    · obtain _|_|q|e|_:= cZ pr5 hx; exact #[q, e]
  have nd : (us ++ vs ++ ws).Nodup := by
    refine eN.mpr #[eN.mpr #[ndm, ndl, λx hx y hy e => ?_], ndp, λx hx y hy e => ?_]
    · subst e;obtain q|rfl:= isR x (.inl hx);exact (alM q hx).2.2 (alL q hy)
    · subst e;obtain q|rfl:= isR x (.inr (.inl hy));rcases ay.mp hx with hx | hx
      · exact (alM q hx).1 (alP q hy).1
      · exact (alP q hy).2 (alL q hx)
  have X5 : JT K A n (Dr (max w 6)) m p l b q0 us ws vs H H5 := by
    refine #[#[B5, u05.2 _ I0, gm5, gp5, gl, lm, λx hx => ?_, nd], gp5, gl, λc u e n1 _ _ => u05.1 c u e n1];rcases ay.mp hx with hx | hx
    · rcases ay.mp hx with hx | hx
      · obtain q|qs|e|⟨a1, a2⟩|r|z:= rm x hx;obtain xq|gq|_:= id r;have qb : q ≠ b := λy => B2.at (by rw [<- y]; exact a1)
        have r4 := r.upto u4 B3 qb;obtain xq4|gq4|_:= id r4;exact #[q, qs, e, mkA (u02.none B2 a1) a2 (λy => by rw [y, np] at gq; cases gq) (λy => by rw [y, nl] at gq4; cases gq4), r4.upto u5 B4 qb, z]
      · refine M6 (A := A) pr5 hl (λq hq a b' => ?_) x hx;exact mkA (u04.none B4 a) (λy => by rw [y, gm4] at a; cases a) (λy => by rw [y, gp] at a; cases a) (λy => iH nx5 (by rw [<- y]; exact hq))
    · refine ie.upto (M6 (A := A) pr4 hp (λq hq a b' => ?_) x hx) u5 B4 MA.ab;exact mkA (u03.none B3 a) (λy => by rw [y, gm] at a; cases a) (λy => iH nx4 (by rw [<- y]; exact hq)) (λy => b' (by rw [y]; exact nl))
  clear alM alP alL isR rm pr4 pr5 nx4 nx5 gm gm4 gm5 gp gp5 gl hp hl;exists #[(), by lia, ?_];refine fH (n := n) (λkk σ' H' => (∃ x1 x2, σ' = [some (.ref b), some (.int n), some (.int i), some (.int o), some (.int w), some (.int way), some (.int first), some (.ref m), some (.ref p), some (.ref l), x1, x2]) /\ JT K A n (Dr (max w 6)) m p l b q0 us ws vs H H') #[#[_, _, rfl], X5] ?_ ?_
  · rintro kk σ' Hj hk ⟨⟨x1, x2, rfl⟩, X⟩;exists #[#[_, bE.of X.gp], ?_];refine iP (K := K) (a := p) (xs := ws) (λs σ' H' => (∃ x2, σ' = [some (.ref b), some (.int n), some (.int i), some (.int o), some (.int w), some (.int way), some (.int first), some (.ref m), some (.ref p), some (.ref l), some (.int kk), x2]) /\ JT K A n (Dr (max w 6)) m p l b q0 us ws vs H H') #[#[_, rfl], X] (λs σ' H' _ #[_, e] => bE.of e.gp) ?_ ?_
    · rintro s x σ' Hk hx ⟨⟨y2, rfl⟩, X⟩;have mx := av hx;obtain q|_|rfl|_:= X.row (.inl mx)
      repeat' (first | walk_at "rd" | refine dU (λ_ => ?_) (λ_ => ?_))
      all_goals first
        | exact ⟨⟨_, rfl⟩, X⟩
        | (refine bF λt Hb sb gb => ?_; walk_at "w"; obtain zs|gz|lz|Xz:= (X.same sb).put MA (.inl mx) (bW.mk (q := 0) gb rfl) (uA (i := 0) (br _) W1) kk; refine eC gz (eK ()) rfl ?_; exact #[#[_, rfl], Xz])
        | (refine ⟨b, 2, rfl, X.mix.bag, by decide, by decide, λd Hd d0 d1 Bd ud => ?_⟩
           replace X := X.upto MA ud Bd
           repeat' (first | walk_at "rd" | refine dU (λ_ => ?_) (λ_ => ?_))
           all_goals first
             | exact ⟨⟨_, rfl⟩, X⟩
             | (refine bF λt Hb sb gb => ?_
                walk_at "w";obtain zs|gz|lz|Xz:= (X.same sb).put MA (.inl mx) (bW.mk (q := 0) gb rfl) (uA (i := 0) (br _) W1) kk;refine eC gz (eK ()) rfl ?_;exact #[#[_, rfl], Xz]))
    · rintro σ' Hk ⟨⟨y2, rfl⟩, X⟩;exists #[#[_, bE.of X.gl], ?_];refine iP (K := K) (a := l) (xs := vs) (λs σ' H' => (∃ x2, σ' = [some (.ref b), some (.int n), some (.int i), some (.int o), some (.int w), some (.int way), some (.int first), some (.ref m), some (.ref p), some (.ref l), some (.int kk), x2]) /\ JT K A n (Dr (max w 6)) m p l b q0 us ws vs H H') #[#[_, rfl], X] (λs σ' H' _ #[_, e] => bE.of e.gl) ?_ ?_
      · rintro s x σ' Hk hx ⟨⟨y2, rfl⟩, X⟩;have mx := av hx;obtain q|_|rfl|_:= X.row (.inr mx)
        repeat' (first | walk_at "rd" | refine dU (λ_ => ?_) (λ_ => ?_))
        all_goals first
          | exact ⟨⟨_, rfl⟩, X⟩
          | (refine bF λt Hb sb gb => ?_; walk_at "w"; obtain zs|gz|lz|Xz:= (X.same sb).put MA (.inr mx) (bW.mk (q := 0) gb rfl) (uA (i := 0) (br _) W1) kk; refine eC gz (eK ()) rfl ?_; exact #[#[_, rfl], Xz])
          | (refine ⟨b, 2, rfl, X.mix.bag, by decide, by decide, λd Hd d0 d1 Bd ud => ?_⟩
             replace X := X.upto MA ud Bd
             repeat' (first | walk_at "rd" | refine dU (λ_ => ?_) (λ_ => ?_))
             all_goals first
               | exact ⟨⟨_, rfl⟩, X⟩
               | (refine bF λt Hb sb gb => ?_
                  walk_at "w";obtain zs|gz|lz|Xz:= (X.same sb).put MA (.inr mx) (bW.mk (q := 0) gb rfl) (uA (i := 0) (br _) W1) kk;refine eC gz (eK ()) rfl ?_;exact #[#[_, rfl], Xz]))
      · rintro σ' Hk ⟨⟨y2, rfl⟩, X⟩;exact #[#[_, _, rfl], X]
  · rintro σ' Hj ⟨⟨x1, x2, rfl⟩, X⟩
    obtain ⟨M1, M2, M3, V0, a1, a2, a3, V2, hcs, R1, R2, R3⟩ : ∃ M1 M2 M3 V0 : Nat, (0 < M1 /\ M1 ≤ 2 ^ 800) /\ (0 < M2 /\ M2 ≤ 2 ^ 800) /\ (0 < M3 /\ M3 ≤ 2 ^ 800) /\ V0 ≤ 2 ^ 20 /\ ((w ≤ 9 /\ M1 = 2520 /\ M2 = 2520 /\ M3 = 2520 /\ V0 = 9) \/ (9 < w /\ M1 ≤ 2 ^ (c * (n * n)) /\ M2 ≤ 2 ^ (c * (i * n)) /\ M3 ≤ 2 ^ (c * (o * n)) /\ V0 = 2 ^ c)) /\ (∀ x ∈ us, ie K A Hj n (Fr M1 V0) x) /\ (∀ x ∈ ws, ie K A Hj n (Fr M2 V0) x) /\ ∀ x ∈ vs, ie K A Hj n (Fr M3 V0) x := by
      by_cases w9 : w ≤ 9
      · have XM := X.mix.weak (C' := λ_ => Fr 2520 9) λ_ _ y h => Ej #[ag h.1 (), ag h.2 ()] (pz _)
        have z : 0 < 2520 /\ 2520 ≤ 2 ^ 800 := #[(), ag (show 2520 ≤ 2 ^ 12 by decide) (ai () ())];exact #[2520, 2520, 2520, 9, z, z, z, by decide, .inl #[w9, rfl, rfl, rfl, rfl], λx hx => XM.row x (by simp [hx]), λx hx => XM.row x (by simp [hx]), λx hx => XM.row x (by simp [hx])]
      · obtain M1|M2|M3|a1|a2|a3|b1|b2|b3|R1|R2|R3:= (X.mix.weak (C' := λ_ => Dr (2 ^ c)) λ_ _ y h => #[ag h.1 hc, ag h.2 hc]).fr3;rw [lws] at b2;rw [lvs] at b3;have up : ∀ {M k : Nat}, M ≤ 2 ^ (c * k) → k ≤ (n + i + o) * n → M ≤ 2 ^ 800 := λh hk => ag h (ai () (ag (aO _ hk) hcM))
        exact #[M1, M2, M3, 2 ^ c, #[a1, up b1 (ax _ ())], #[a2, up b2 (ax _ ())], #[a3, up b3 (ax _ ())], ai () hc20, .inr #[(), b1, b2, b3, rfl], R1, R2, R3]
    obtain μ|e2|e3|e1|e4:= NH ws vs M1 M2 M3;obtain ap1|ap2:= X.mix.apart
    have XM : kT K A Hj n (λx => Fr (μ x) V0) m p l b q0 us ws vs := by
      refine #[X.mix.bag, X.mix.inn, X.mix.gm, X.mix.gp, X.mix.gl, X.mix.lm, λx hx => ?_, X.mix.nd];rcases ay.mp hx with hx | hx
      · rcases ay.mp hx with hx | hx
        · rw [e1 x (ap1 x hx).1 (ap1 x hx).2]; exact R1 x hx
        · rw [e3 x hx (ap2 x hx)]; exact R3 x hx
      · rw [e2 x hx]; exact R2 x hx
    have p1 : ∀ x, 0 < μ x := λx => by
      rcases e4 x with e | e | e
      · rw [e]; exact a1.1
      · rw [e]; exact a2.1
      · rw [e]; exact a3.1
    have p2 : ∀ x, μ x ≤ 2 ^ 800 := λx => by
      rcases e4 x with e | e | e
      · rw [e]; exact a1.2
      · rw [e]; exact a2.2
      · rw [e]; exact a3.2
    have gmj := X.mix.gm;exists #[b, m, p, l, q0, n, V0, μ, A, us, ws, vs, rfl, MA, XM, n8, by lia, by lia, p1, p2, #[M1, e1], V2, λq hq => ?_, λr us' H' g Y kp => ?_]
    · refine mkA ?_ (λz => by rw [z, gmj] at hq; cases hq) (λz => by rw [z, X.gp] at hq; cases hq) (λz => by rw [z, X.gl] at hq; cases hq);cases e : H q with
      | none => rfl
      | some u =>
        have := X.kp q u e (λz => X.mix.bag.at (by rw [<- z]; exact hq)) (λz => by have := (unA z).1; rw [e] at this; cases this) (λz => by rw [z, hm0] at e; cases e);rw [hq] at this; cases this
    · obtain yp1|yp2:= Y.apart;obtain mv|Gm|lmv|hmv:= l9 (H0 := H) (n := n) (C := Fr M1 (9 ^ 3 * V0)) (m := n) #[us', Y.gm, Y.lm, MA.am, λx hx => by have := Y.row x (by simp [hx]); rwa [e1 x (yp1 x hx).1 (yp1 x hx).2] at this] λq h => (unA h).1
      obtain pt|Gp|lpt|hpt:= l9 (H0 := H) (n := n) (C := Fr M2 (9 ^ 3 * V0)) (m := i) #[ws, Y.gp, lws, MA.ap, λx hx => by have := Y.row x (by simp [hx]); rwa [e2 x hx] at this] λq h => (unA h).1
      obtain lk|Gl|llk|hlk:= l9 (H0 := H) (n := n) (C := Fr M3 (9 ^ 3 * V0)) (m := o) #[vs, Y.gl, lvs, MA.al, λx hx => by have := Y.row x (by simp [hx]); rwa [e3 x hx (yp2 x hx)] at this] λq h => (unA h).1
      refine k r mv pt lk H' #[m, p, l, g, hm0, hp0, hl0, Gm, Gp, Gl] lmv lpt llk #[(), by lia, by lia, λxs hx => by rw [(hmv xs hx).1, lmv], λxs hx => by rw [(hpt xs hx).1, lmv], λxs hx => by rw [(hlk xs hx).1, lmv]] #[M1, M2, M3, 9 ^ 3 * V0, a1.1, a2.1, a3.1, λxs hx => (hmv xs hx).2, λxs hx => (hpt xs hx).2, λxs hx => (hlk xs hx).2, ?_] Y.bag #[λc' u e n1 => (X.kp.trans kp) c' u e n1 (λz => by have := (unA z).1; rw [e] at this; cases this) (λz => by rw [z, hm0] at e; cases e), λq h => by rw [<- Inner.inj I0 h]; exact Y.inn];rcases hcs with ⟨b1, b2, b3, b4, b5⟩ | ⟨b1, b2, b3, b4, b5⟩
      · exact .inl #[b1, b2, b3, b4, by rw [b5]]
      · exact .inr #[b1, b2, b3, b4, by rw [b5]]
theorem jb:sC ["_law_bag_here","_law_n","_law_ins","_law_outs","_law_wide"] 1 pM:=by walk_at "d"
theorem Ak (T:Txt K mg Z):T.kF.o P w base 6 (O6 K):=by
 refine T.kF.F.k jb ?_;walk_at "i";obtain b|rfl|hB|k:=h
 refine #[_,(au (eP (cT (A6 T) hr T.mF (dB b6)) (rA rfl (cM (eH 1 jb.nd) (cM (eH 2 jb.nd) (cM (eH 3 jb.nd) (cM (eH 4 jb.nd) ij))))))
  (au (di (bf dX (cT (aZ T) hr T.aR (cQ b6 aj)) aj (bu _)) (au (di (bf dX (cT (aZ T) hr T.aR (cQ b6 aj)) aj (bu _)) (aB (a8 (cD (cQ (cT (wq T) hr T.iZ (dB b6)) aj)))) bU)
  (aB (a8 (cD (cQ (cT (rH T) hr T.ju (cQ b6 (bK fo aj (cT (aZ T) hr T.aR (cQ b6 aj))))) aj))))) bU)
  (aB (a8 (cD (cQ (cT (A8 T) hr T.mH (fV b6 (Ae c9 dW ic kU))) (bB (va rfl) (by rfl) T.min PyProof.Rows.boot_min (cQ kU aj)))))))),?_]
 walk_at "s"
 try rw[ik]
 have sf:∀{mv pt lk:LR9} {M V1:Nat},0 < M->M<=2^400->V1<=2^30->GF M V1 mv->GF M V1 pt->GF M V1 lk->KJ mv pt lk:=λh0 h1 h2 a b c=>#[_,_,h0,h1,ag h2 (ai () ()),a,b,c]
 exists #[b,rfl,hB,λr n i o w H1 g1 n5 i4 o4 hw h5 B1 u1=>?_];exists #[b,16,rfl,B1,(),(),λv H2 v0 v1 B2 u2=>?_];have u02:=u1.trans u2;exists dU (λh0=>?_) (λh0=>?_)
 ·exists #[b,2,rfl,B2,(),(),λv2 H3 _ _ B3 u3=>?_];have u03:=u02.trans u3;exists dU (λh1=>?_) (λh1=>?_)
  ·exists #[b,rfl,B3,λr4 mv pt lk H4 P4 l6 D fm fp fl B4 u4=>?_];exists bF λt H5 s5 g5=>?_
   exact k t r4 4 0 13 mv pt lk H5 g5 ((P4.weak λq h=>u03.none B3 h).same s5) D (sf () bJ () fm fp fl) (o6 (n0:=8) () () D.n8 () fm fp ()) (.inl #[(),(),(),(),(),fm,fp,ag (ax _ (show mv.9+4<=12 by have:=D.n8;lia)) ()]) () () (B4.same s5) ((u03.trans u4).same s5)
  ·exists #[b,3,rfl,B3,(),(),λv3 H4 v30 v31 B4 u4=>?_];obtain v3|rfl:=bP v30;have u04:=u03.trans u4;walk_at "w";rw[show ((6:Int)+(v3:Int))=((6+v3:Nat):Int) by lia];refine #[b,6+v3,rfl,B4,(),(),λr4 mv pt lk H5 P5 lm _ _ D fm fp fl B5 u5=>?_];exists bF λt H6 s6 g6=>?_
   exact k t r4 4 0 4 mv pt lk H6 g6 ((P5.weak λq h=>u04.none B4 h).same s6) D (sf () bJ () fm fp fl) (o6 (n0:=8) () () D.n8 () fm fp ()) (.inl #[(),(),(),(),(),(λxs hx x hx'=>(fm xs hx x hx').mono ()),(λxs hx x hx'=>(fp xs hx x hx').mono ()),ag (ax _ (show mv.9+4<=12 by have:=D.n8;lia)) ()]) () () (B5.same s6) ((u04.trans u5).same s6)
 ·obtain ⟨c,hc,hc20,hcM⟩:∃c:Nat,max w 6<=2^c/\c<=20/\c*((n+i+o)*n)<=800/\(9 < w->c=20/\(n+i+o)*n<=20/\n<=2):=by
   have m1:(n+i+o)*n<=13*5:=aL () n5;rcases hw with rfl | rfl | ⟨rfl,n2⟩
   ·exact #[4,(),(),(),λz=>()]
   ·exact #[4,(),(),(),λz=>()]
   ·have m2:(n+i+o)*n<=10*2:=aL () n2;exact #[20,(),(),(),λ_=>#[rfl,(),n2]]
  obtain hcM|hbig:=hcM;exists #[b,n,i,o,w,c,rfl,B2,(),i4,o4,(),(),hc,hc20,hcM,λr4 mv pt lk H4 P4 lm lp ll D PF B4 u4=>?_];have hmin:(if (1000:Int) < (w:Int) then (1000:Int) else (w:Int))=((min w 1000:Nat):Int):=by split <;> lia
  have PG:=PF;obtain M|V1|M0|fm|fp|fl|hcs:=PF.n
  obtain ⟨a',c',KF,SF⟩:∃a' c',jw mv pt a' c'/\KJ mv pt lk:=by
   rcases hcs with ⟨w9,rfl,rfl⟩ | ⟨w9,M1,rfl⟩
   ·exact #[12,16,o6 (n0:=5) () () () () fm fp (),sf () (ag (show 2520<=2^12 by decide) (ai () ())) () fm fp fl]
   ·obtain rfl|e1|e2:=hbig w9;have M4:M<=2^400:=ag M1 (ai () ());exact #[400,32,o6 (n0:=2) M0 M4 () () fm fp (),sf M0 M4 () fm fp fl]
  have RG:Rg mv pt (min w 1000):=by
   obtain M1|M2|M3|V1|a1|a2|a3|f1|f2|f3|hc':=PG;rcases hc' with ⟨w9,rfl,rfl,_,rfl⟩ | ⟨w9,b1,b2,_,rfl⟩
   ·exact .inr (.inl #[(),(),(),(),(),(),f1,f2,ag (ax _ (show mv.9+4<=9 by lia)) ()])
   ·obtain rfl|e1|e2:=hbig w9;have q1:n*n<=2*2:=aL e2 e2;have q2:i*n<=4*2:=aL i4 e2;have w6:w=1000000:=()
    exact .inr (.inr #[(),(),M1,M2,a1,a2,ag b1 (ai () ()),ag b2 (ai () ()),f1,f2,ag (ax _ (show mv.9+4<=6 by lia)) ()])
  exists bF λt H5 s5 g5=>?_
  rw[hmin] at g5;exact k t r4 (min w 1000) a' c' mv pt lk H5 g5 ((P4.weak λq h=>u02.none B2 h).same s5) D SF KF RG () () (B4.same s5) ((u02.trans u4).same s5)
theorem Du:sC ["thing","at","most"] 3 sZ:=by walk_at "d"
theorem rD (T:Txt K mg Z):T.jq.o P w base 1 J8:=by
 refine T.jq.F.k Du ?_;walk_at "i";obtain p|xs|a|m|rfl|gx|hm|k:=h
 refine #[_,(au (di (tW (tV (Ac rfl T.isinstance PyProof.Rows.boot_list T.list b6))) (aB Nl) bU)
  (aB (di (bf vo (bB be (by rfl) T.len aT (dB b6)) dW (bu _)) (aB Nl) bU))),?_]
 walk_at "s"
 try rw[ik]
 exists #[_,_,.lst gx,rfl,?_];exists #[_,_,rfl,.inl (bE.of gx),?_];walk_at "w";rw[decide_eq_false (show ¬m < (xs.9:Int) by lia)];exists k
theorem FF:sC ["thing"] 1 vG:=by walk_at "d"
theorem yt (T:Txt K mg Z):T.mS.o P w base 1 K3:=by
 refine T.mS.F.k FF ?_;walk_at "i";obtain i|rfl|k:=h;refine #[_,(aB (a8 (Nr (Ac rfl T.isinstance PyProof.Rows.boot_int T.int b6) (IS (S0 (Ac rfl T.isinstance PyProof.Rows.boot_bool T.bool b6)))))),?_];walk_at "s"
 try rw[ik]
 exists #[_,_,.int i,rfl,?_];exists #[_,_,.int i,rfl,?_];exists k
theorem iX:sC ["one","other","rest"] 2 lG:=by walk_at "d"
theorem kB (T:Txt K mg Z):T.fB.o P w base 1 Uz:=by
 refine T.fB.F.k iX ?_;walk_at "i";obtain a|b|rfl|k:=h
 refine #[_,(au (z9 PassesOwn.never (bf yp c9 aj (bu _))
   (au (eQ 2 iX.nd (bK Qj b6 c9))
  (au (eQ 0 iX.nd c9)
  (aB (eQ 1 iX.nd dW)))))
  (aB (a8 (bB wW (by rfl) T.abs PyProof.Rows.boot_abs (dB b6))))),?_]
 walk_at "s"
 try rw[ik]
 exists Dk (λσ' H'=>∃(u v:Int) (r:Option V),σ'=[some (.int u),some (.int v),r]/\H'=H/\Int.gcd u v=Int.gcd a b) (λσ' _=>match σ' with | [_,some (.int v),_]=>v.natAbs | _=>0) #[a,b,none,rfl,rfl,rfl] ?_;rintro σ' H' ⟨u,v,r,rfl,rfl,hg⟩;exists dU (λh=>?_) (λh=>?_)
 ·have hv:v≠0:=λz=>by subst z;simp at h
  exists iF (show v≠0 from hv) ?_;exists #[#[v,u.fmod v,_,rfl,rfl,(N7 u v).trans hg],Qu u v hv]
 ·have hv:v=0:=by
   by_cases z:v=0
   ·exact z
   ·exfalso;apply h;simp [z]
  subst hv;walk_at "w"
  have e:(if u < 0 then -u else u)=g a b:=by
   unfold g;rw[<- hg,Int.gcd_zero_right]
   split <;> lia
  rw[e];exact k
theorem Dx:sC ["thing"] 1 tw:=by walk_at "d"
theorem DT (T:Txt K mg Z):T.nU.o P w base 2 (K6 K):=by
 refine T.nU.F.k Dx ?_;walk_at "i";obtain x|n|rfl|⟨p,rfl,hp⟩|hn|k:=h
 refine #[_,(au (di (PW.pt (vn (tW (tV (Qg rfl T.isinstance PyProof.Rows.boot_tuple T.tuple b6))) (pT (bf yp (bB be (by rfl) T.len aT (dB b6)) aj (bu _))))) (aB (a8 sF)) bU)
  (au (di (PW.pt (vn (tW (tV (cT (yt T) hr T.mS (dB (aX bS b6 aj))))) (pT (tW (tV (cT (yt T) hr T.mS (dB (aX bS b6 aj)))))))) (aB (a8 sF)) bU)
  (aB (a8 (Nr (jK Cv (aX bS b6 aj) aj (bu _)) (IS (jK dX (cT (kB T) hr T.fB (cQ (aX bS b6 aj) (aX bS b6 aj))) aj (bu _)))))))),?_]
 walk_at "s"
 try rw[ik]
 obtain hb|hg|s1|s2:=hn;exists .inr #[p,_,_,rfl,hp,rfl,?_];exists #[_,_,rfl,.inr hp,?_];walk_at "w"
 try refine Th ?_
 exists #[n.1,rfl,?_];exists #[n.2,rfl,?_];walk_at "w";rw[decide_eq_true (show (1:Int)<=n.2 by lia)];exists #[n.1,n.2,rfl,?_];walk_at "w";have e:g n.1 n.2=1:=by unfold g;rw[hg];rfl
 rw[e,decide_eq_true rfl];exact k _ (aH.refl _)
theorem K9:sC ["thing","many"] 2 zU:=by walk_at "d"
theorem Lm (T:Txt K mg Z):T.uR.o P w base 3 (Co K):=by
 refine T.uR.F.k K9 ?_;walk_at "i";obtain p|ns|rfl|hp|hl|hn|k:=h
 refine #[_,(au (di (PW.pt (vn (tW (tV (Ac rfl T.isinstance PyProof.Rows.boot_list T.list b6))) (pT (bf yp (bB be (by rfl) T.len aT (dB b6)) c9 (bu _))))) (aB (a8 sF)) bU)
  (aB (a8 (bB (AB rfl) (by rfl) T.all PyProof.Rows.boot_all (dB (bX ["value"] [] [] (b9 b6) (λ_=>(eH 0)) (λ_=>bZ) (λ_=>(cT (DT T) hr T.nU (dB b6))))))))),?_]
 walk_at "s"
 try rw[ik]
 obtain xs|gx|qx:=id hp;have lx:=qx.9;exists #[_,_,.lst gx,rfl,?_];exists #[_,_,rfl,.inl (bE.of gx),?_];walk_at "w";rw[show ((xs.9:Nat):Int)=(ns.9:Nat) by rw[lx],decide_eq_true rfl];exists #[#[_,bE.of gx],?_];refine eB (K:=K) (xs:=xs) (λi ys H'=>aH H H'/\ys=List.replicate i (.bl true)) j8 #[aH.refl _,rfl] (λi ys H' _ #[s,_]=>bE.of (s _ _ gx)) ?_ ?_
 ·rintro i x ys H' hx hlen ⟨s,rfl⟩;obtain n|en|z:=cF qx hx;exists #[x,n,rfl,s.num z,hn n (av en),λH2 s2=>#[s.trans s2,by rw[List.replicate_succ']]]
 ·rintro ys H' hy ⟨s,rfl⟩ l hl';exists #[l,List.replicate xs.9 true,rfl,bE.of (by rw[aG];simp),?_];have e4:(List.replicate xs.9 true).all id=true:=by simp
  rw[e4];exact k _ (s.trans (aH.new hl'))
theorem oC:sC ["things","wide","place","thing"] 2 pK:=by walk_at "d"
theorem oF (T:Txt K mg Z):T.iu.o P w base 4 (Kc K):=by
 refine T.iu.F.k oC ?_;walk_at "i";obtain p|H0|rows|w|rfl|hp|hl|hw|hn|k:=h
 refine #[_,(au (eO PassesOwn.never rfl (DN rfl T.enumerate (dB b6)) (rA rfl (cM (eH 2 oC.nd) (cM (eH 3 oC.nd) ij)))
   (aB (di (tW (tV (cT (Lm T) hr T.uR (cQ ic c9)))) (aB Nl) bU)))
  (aB (a8 (bX ["row"] [] [] (b9 b6) (λ_=>(eH 0)) (λ_=>bZ) (λ_=>(dI (dO K (by rfl)) (by rfl) T.list PyProof.Rows.boot_list (dB b6))))))),?_]
 walk_at "s"
 try rw[ik]
 obtain xs|gx|qx|_:=id hp;exists #[#[_,bE.of gx],?_];refine Od (K:=K) (l:=p) (xs:=xs) (λi σ' H'=>aH H H'/\∃x y,σ'=[some (.ref p),some (.int w),x,y]) #[aH.refl _,none,none,rfl] (λi σ' H' _ #[s,_]=>bE.of (s _ _ gx)) ?_ ?_
 ·rintro i x σ' H' t hx ⟨s,x1,y1,rfl⟩ ht;obtain qs|eq|q|rfl|_|Rq:=cF qx hx;have hm:=av eq;have st:aH H' (upd H' t (.tup [.int i,.ref q])):=aH.new ht;have gt:(upd H' t (.tup [.int i,.ref q])) t=some (.tup [.int i,.ref q]):=aG;have s2:=s.trans st;generalize upd H' t (.tup [.int i,.ref q])=H2 at st gt s2 ⊢;have lq:(qs.map nm).9=w:=by rw[af];exact (hn qs hm).1
  exists #[q,_,by rw[lq],(Rq.same s2).rowK,by rw[lq];exact hw,λn hn'=>?_,λH3 s3=>?_]
  ·obtain y|hy|rfl:=aA.mp hn';exact (hn qs hm).2 y hy
  exists #[s2.trans s3,_,_,rfl]
 ·rintro σ' H' ⟨s,x1,y1,rfl⟩;exists #[#[_,bE.of (s _ _ gx)],?_];refine dn (K:=K) (F:=cW K H0) (cW K H) id (s _ _ gx) (Paired.imp' (λ_ _ z=>z.same s) qx) hl (λa b=>a.same b) (λa b=>a.same b) ?_ ?_
  ·rintro i ns x H2 NY NN en s2 ⟨u,rfl,_,zs,gz,qz⟩ k1;exists #[u,zs,rfl,.inl (bE.of gz),λl1 hl1=>?_];exact k1 _ _ (aH.new hl1) #[l1,rfl,s.none (s2.none hl1),zs,aG,Paired.imp' (λ_ _ z=>z.same (aH.new hl1)) qz]
  ·rintro ys' H2 r hr s2 g pr nx;rw[Dd] at pr nx;exact k r H2 (s.none hr) (s.trans s2) #[ys',g,pr,iH nx]
theorem vD:sC ["self","move","put","look"] 4 fA:=by walk_at "d"
theorem vS (T:Txt K mg Z):uH P w K mg base Mc 5 Z.kR Z.kQ ["self","move","put","look"] (J9 K Z.a_System):=by
 refine T.ph.k vD ?_;walk_at "i";obtain x|dx|p|q|r|Hb|H0|H1|H2|mv|pt|lk|rfl|nx|ndx|nex|rfl|gp|gq|gr|D|om|op|ol|k:=h
 refine #[_,(au (gP (cT (rD T) hr T.jq (rB c9 aj (jJ (v:=.int 8) rfl T.mg_MOST_STATES #[_,rfl]))))
  (au (xG b6 (cT (oF T) hr T.iu (cQ c9 (bB be (by rfl) T.len aT (dB c9)))) rfl)
  (au (xG b6 (bB be (by rfl) T.len aT (dB (gN b6 rfl))) rfl)
  (au (gP (cT (rD T) hr T.jq (rB dW aj (jJ (v:=.int 4) rfl T.mg_MOST_PUTS #[_,rfl]))))
  (au (xG b6 (cT (oF T) hr T.iu (cQ dW (gN b6 rfl))) rfl)
  (au (xG b6 (bB be (by rfl) T.len aT (dB (gN b6 rfl))) rfl)
  (au (gP (cT (rD T) hr T.jq (rB ic aj (jJ (v:=.int 4) rfl T.mg_MOST_LOOKS #[_,rfl]))))
  (au (xG b6 (cT (oF T) hr T.iu (cQ ic (gN b6 rfl))) rfl)
  (aB (xG b6 (bB be (by rfl) T.len aT (dB (gN b6 rfl))) rfl)))))))))),?_]
 walk_at "s"
 try rw[ik]
 have s0:aH Hb (upd (upd Hb dx (.own x)) x (.ins Z.a_System dx [])):=λb o e=>by
  rw[bo (gY e nx),bo (gY e ndx)];exact e
 have hx:(upd (upd Hb dx (.own x)) x (.ins Z.a_System dx [])) x=some (.ins Z.a_System dx []):=aG;have back:∀{b},(upd (upd Hb dx (.own x)) x (.ins Z.a_System dx [])) b=none->Hb b=none:=λh=>s0.none h
 generalize upd (upd Hb dx (.own x)) x (.ins Z.a_System dx [])=Ha at s0 hx back ⊢;obtain xs|gx|qx|_:=id gp;obtain ys|gy|qy|_:=id gq;obtain zs|gz|qz|_:=id gr;have lx:=qx.9;have ly:=qy.9;have lz:=qz.9;have d1:=D.n8;have d2:=D.i4;have d3:=D.o4;exists #[p,xs,0,8,rfl,s0 _ _ gx,(),?_];exists #[_,_,rfl,.inl (bE.of (s0 _ _ gx)),?_];exists #[p,H0,mv,mv.9,by rw[lx],gp.same s0,(),(),λws hw=>#[D.mw ws hw,om ws hw],λa H3 na s3 Ga=>?_];have hx3:=s3 _ _ hx;exists #[x,Z.a_System,dx,_,rfl,hx3,T.cl_System,T.na_move,(by show 0 < 1000;decide),?_];have e3:EW x H3 (upd H3 x (.ins Z.a_System dx (cX "move" (.ref a) []))):=EW.upd;have i3:vC H3 x:=#[_,_,_,hx3];have hx4:(upd H3 x (.ins Z.a_System dx (cX "move" (.ref a) []))) x=some (.ins Z.a_System dx (cX "move" (.ref a) [])):=aG;have Ga4:=Ga.exc e3 i3;have k4:aH Hb (upd H3 x (.ins Z.a_System dx (cX "move" (.ref a) []))):=(s0.trans s3).after nx;generalize upd H3 x (.ins Z.a_System dx (cX "move" (.ref a) []))=H4 at e3 hx4 Ga4 k4 ⊢;exists #[x,Z.a_System,dx,_,_,rfl,hx4,T.cl_System,T.na_move,(by rw[bT,if_pos rfl]),?_];obtain as|ga|qa|_:=id Ga4;have la:=qa.9;exists #[_,_,rfl,.inl (bE.of ga),?_];exists #[x,Z.a_System,dx,_,rfl,hx4,T.cl_System,T.na_states,bO fK (by show 1 < 1000;decide),?_];rw[show ((as.9:Nat):Int)=((mv.9:Nat):Int) by rw[la]];have e4:EW x H4 (upd H4 x (.ins Z.a_System dx (cX "states" (.int mv.9) (cX "move" (.ref a) [])))):=EW.upd;have i4:vC H4 x:=#[_,_,_,hx4];have hx5:(upd H4 x (.ins Z.a_System dx (cX "states" (.int mv.9) (cX "move" (.ref a) [])))) x=some (.ins Z.a_System dx (cX "states" (.int mv.9) (cX "move" (.ref a) []))):=aG;have Ga5:=Ga4.exc e4 i4;have k5:aH Hb (upd H4 x (.ins Z.a_System dx (cX "states" (.int mv.9) (cX "move" (.ref a) [])))):=k4.after nx;generalize upd H4 x (.ins Z.a_System dx (cX "states" (.int mv.9) (cX "move" (.ref a) [])))=H5 at e4 hx5 Ga5 k5 ⊢;clear e3 e4 i3 i4 hx4 Ga4 ga qa;exists #[q,ys,1,4,rfl,k5 _ _ gy,(),?_];exists #[x,Z.a_System,dx,_,_,rfl,hx5,T.cl_System,T.na_states,(by rw[bT,if_pos rfl]),?_];exists #[q,H1,pt,mv.9,rfl,gq.same k5,(),(),λws hw=>#[D.pw ws hw,op ws hw],λb H6 nb s6 Gb=>?_];have hx6:=s6 _ _ hx5;have i6:vC H6 x:=#[_,_,_,hx6];exists #[x,Z.a_System,dx,_,rfl,hx6,T.cl_System,T.na_put,bO fK (bO (eE fK) (by show 2 < 1000;decide)),?_];have e6:EW x H6 (upd H6 x (.ins Z.a_System dx (cX "put" (.ref b) (cX "states" (.int mv.9) (cX "move" (.ref a) []))))):=EW.upd;have hx7:(upd H6 x (.ins Z.a_System dx (cX "put" (.ref b) (cX "states" (.int mv.9) (cX "move" (.ref a) []))))) x=some (.ins Z.a_System dx (cX "put" (.ref b) (cX "states" (.int mv.9) (cX "move" (.ref a) [])))):=aG;have Ga7:=(Ga5.same s6).exc e6 i6;have Gb7:=(Gb.weak k5).exc e6 i6;have k7:aH Hb (upd H6 x (.ins Z.a_System dx (cX "put" (.ref b) (cX "states" (.int mv.9) (cX "move" (.ref a) []))))):=(k5.trans s6).after nx;generalize upd H6 x (.ins Z.a_System dx (cX "put" (.ref b) (cX "states" (.int mv.9) (cX "move" (.ref a) []))))=H7 at e6 hx7 Ga7 Gb7 k7 ⊢;obtain bs|gb|qb|_:=id Gb7;have lb:=qb.9;exists #[x,Z.a_System,dx,_,_,rfl,hx7,T.cl_System,T.na_put,(by rw[bT,if_pos rfl]),?_];exists #[_,_,rfl,.inl (bE.of gb),?_];exists #[x,Z.a_System,dx,_,rfl,hx7,T.cl_System,T.na_ins,bO fK (bO (eE (ag fK (eE fK))) (by show 3 < 1000;decide)),?_];rw[show ((bs.9:Nat):Int)=((pt.9:Nat):Int) by rw[lb]];have i7:vC H7 x:=#[_,_,_,hx7];have e7:EW x H7 (upd H7 x (.ins Z.a_System dx (cX "ins" (.int pt.9) (cX "put" (.ref b) (cX "states" (.int mv.9) (cX "move" (.ref a) [])))))):=EW.upd;have hx8:(upd H7 x (.ins Z.a_System dx (cX "ins" (.int pt.9) (cX "put" (.ref b) (cX "states" (.int mv.9) (cX "move" (.ref a) [])))))) x=some (.ins Z.a_System dx (cX "ins" (.int pt.9) (cX "put" (.ref b) (cX "states" (.int mv.9) (cX "move" (.ref a) []))))):=aG;have Ga8:=Ga7.exc e7 i7;have Gb8:=Gb7.exc e7 i7;have k8:aH Hb (upd H7 x (.ins Z.a_System dx (cX "ins" (.int pt.9) (cX "put" (.ref b) (cX "states" (.int mv.9) (cX "move" (.ref a) [])))))):=k7.after nx;generalize upd H7 x (.ins Z.a_System dx (cX "ins" (.int pt.9) (cX "put" (.ref b) (cX "states" (.int mv.9) (cX "move" (.ref a) [])))))=H8 at e7 hx8 Ga8 Gb8 k8 ⊢;clear e6 e7 i6 i7 hx7 Ga7 Gb7 gb qb;exists #[r,zs,2,4,rfl,k8 _ _ gz,(),?_];exists #[x,Z.a_System,dx,_,_,rfl,hx8,T.cl_System,T.na_states,(by rw[bT,if_neg (by decide +kernel),bT,if_neg (by decide +kernel),bT,if_pos rfl]),?_];exists #[r,H2,lk,mv.9,rfl,gr.same k8,(),(),λws hw=>#[D.lw ws hw,ol ws hw],λc H9 nc s9 Gc=>?_];have hx9:=s9 _ _ hx8;have i9:vC H9 x:=#[_,_,_,hx9];exists #[x,Z.a_System,dx,_,rfl,hx9,T.cl_System,T.na_look,bO fK (bO (eE (ag fK (eE (ag fK (eE fK))))) (by show 4 < 1000;decide)),?_];have e9:EW x H9 (upd H9 x (.ins Z.a_System dx (cX "look" (.ref c) (cX "ins" (.int pt.9) (cX "put" (.ref b) (cX "states" (.int mv.9) (cX "move" (.ref a) []))))))):=EW.upd;have hxA:(upd H9 x (.ins Z.a_System dx (cX "look" (.ref c) (cX "ins" (.int pt.9) (cX "put" (.ref b) (cX "states" (.int mv.9) (cX "move" (.ref a) []))))))) x=some (.ins Z.a_System dx (cX "look" (.ref c) (cX "ins" (.int pt.9) (cX "put" (.ref b) (cX "states" (.int mv.9) (cX "move" (.ref a) [])))))):=aG;have GaA:=(Ga8.same s9).exc e9 i9;have GbA:=(Gb8.same s9).exc e9 i9;have GcA:=(Gc.weak k8).exc e9 i9;have kA:aH Hb (upd H9 x (.ins Z.a_System dx (cX "look" (.ref c) (cX "ins" (.int pt.9) (cX "put" (.ref b) (cX "states" (.int mv.9) (cX "move" (.ref a) []))))))):=(k8.trans s9).after nx;generalize upd H9 x (.ins Z.a_System dx (cX "look" (.ref c) (cX "ins" (.int pt.9) (cX "put" (.ref b) (cX "states" (.int mv.9) (cX "move" (.ref a) []))))))=HA at e9 hxA GaA GbA GcA kA ⊢;obtain cs|gc|qc|_:=id GcA;have lc:=qc.9;exists #[x,Z.a_System,dx,_,_,rfl,hxA,T.cl_System,T.na_look,(by rw[bT,if_pos rfl]),?_];exists #[_,_,rfl,.inl (bE.of gc),?_];exists #[x,Z.a_System,dx,_,rfl,hxA,T.cl_System,T.na_outs,bO fK (bO (eE (ag fK (eE (ag fK (eE (ag fK (eE fK))))))) (by show 5 < 1000;decide)),?_];rw[show ((cs.9:Nat):Int)=((lk.9:Nat):Int) by rw[lc]];have iA:vC HA x:=#[_,_,_,hxA];exact k _ (kA.after nx) #[dx,a,b,c,aG,back na,k5.none nb,k8.none nc,(GaA.exc EW.upd iA).weak s0,GbA.exc EW.upd iA,GcA.exc EW.upd iA]
theorem zR:sC ["_law_grid"] 1 pS:=by walk_at "d"
theorem kC (T:Txt K mg Z):T.gK.o P w base 1 (zJ K):=by
 refine T.gK.F.k zR ?_;walk_at "i";obtain p|H0|rows|rfl|hp|hl|hm|k:=h;refine #[_,(aB (a8 (bX ["_law_row_here"] [] [] (b9 b6) (λ_=>(eH 0)) (λ_=>bZ) (λ_=>(dI (dO K (by rfl)) (by rfl) T.list PyProof.Rows.boot_list (dB b6)))))),?_];walk_at "s"
 try rw[ik]
 obtain xs|gx|qx|_:=id hp;exists #[#[_,bE.of gx],?_];refine dn (K:=K) (F:=cW K H0) (cW K H) id gx qx hl (λa b=>a.same b) (λa b=>a.same b) ?_ ?_
 ·rintro i ns x H' NY NN en s ⟨u,rfl,_,zs,gz,qz⟩ k1;exists #[u,zs,rfl,.inl (bE.of gz),λl1 hl1=>?_];exact k1 _ _ (aH.new hl1) #[l1,rfl,s.none hl1,zs,aG,Paired.imp' (λ_ _ z=>z.same (aH.new hl1)) qz]
 ·rintro ys' H' r hr s g pr nx;rw[Dd] at pr nx;exact k r H' hr s #[ys',g,pr,iH nx]
theorem DG:sC ["_law_parts_here"] 1 tP:=by walk_at "d"
theorem D4 (T:Txt K mg Z):T.oh.o P w base 7 (zB K Z.a_System):=by
 refine T.oh.F.k DG ?_;walk_at "i";obtain r|H0|mv|pt|lk|rfl|PQ|D|F|k:=h;refine #[_,(aB (a8 (Qf T.mk_System (vS T) (hr.mono ()) rfl T.mg_System T.o8 .nil Nt (rB (cT (kC T) hr T.gK (dB (aX bS b6 aj))) (cT (kC T) hr T.gK (dB (aX bS b6 aj))) (cT (kC T) hr T.gK (dB (aX bS b6 aj))))))),?_];walk_at "s"
 try rw[ik]
 obtain m|p|l|g|n1|n2|n3|Gm|Gp|Gl:=id PQ;have d1:=D.n8;have d2:=D.i4;have d3:=D.o4;exists #[m,H0,mv,rfl,Gm,(),λxs hx=>by rw[D.mw xs hx];lia,λa H1 na s1 Ga=>?_];have g1:=s1 _ _ g;exists #[p,H0,pt,rfl,Gp.same s1,(),λxs hx=>by rw[D.pw xs hx];lia,λb H2 nb s2 Gb=>?_];have s12:=s1.trans s2;have g2:=s12 _ _ g;exists #[l,H0,lk,rfl,Gl.same s12,(),λxs hx=>by rw[D.lw xs hx];lia,λc H3 nc s3 Gc=>?_];have s13:=s12.trans s3;walk_at "w";intro x dx nx ndx nex;exact #[x,dx,a,b,c,H3,H,H1,H2,mv,pt,lk,rfl,nx,ndx,nex,rfl,(Ga.same s2).same s3,Gb.same s3,Gc,D,F.ok.1,F.ok.2.1,F.ok.2.2,λH' s' S'=>#[rfl,k x H' (s13.none nx) (s13.trans s') (S'.weak s13)]]
theorem oU:sC ["_law_one","_law_other","_law_total","_law_k"] 2 vL:=by walk_at "d"
theorem oW (T:Txt K mg Z):T.jh.o P w base 3 (Dq K):=by
 refine T.jh.F.k oU ?_;walk_at "i";obtain p|q|xs|ys|rfl|hp|hq|hl|hz|⟨k1,j1,k2,j2,h1,h2,hkj⟩|kk:=h
 refine #[_,(au (eQ 2 oU.nd (cD (cQ aj aj)))
  (au (eO PassesOwn.never rfl (cE rfl T.range (dB (bB be (by rfl) T.len aT (dB b6)))) (eH 3 oU.nd)
   (aB (eQ 2 oU.nd (cT (jc T) hr T.fY (cQ dW (cT (nQ T) hr T.iN (cQ (aX bC b6 ic) (aX bC c9 ic))))))))
  (aB (a8 dW)))),?_]
 walk_at "s"
 try rw[ik]
 obtain us|gu|qu:=id hp;obtain ws|gw|qw:=id hq;have lu:=qu.9;have lw:=qw.9;exists bF λr0 H0 s0 g0=>?_
 exists #[_,_,rfl,.inl (bE.of (s0 _ _ gu)),?_];exists #[(),(),?_];refine fH (n:=us.9) (λi σ' H'=>aH H H'/\∃(r:V) (v:Option V),σ'=[some (.ref p),some (.ref q),some r,v]/\bW K H' (cA (xs.take i) (ys.take i)) r) #[s0,_,none,rfl,bW.mk g0 rfl] ?_ ?_
 ·rintro i σ' H' hi ⟨s,r,v,rfl,hr⟩;have ix:i < xs.9:=()
  have iy:i < ys.9:=()
  obtain vx|ex|nx:=Lx (Paired.imp' (λ_ _ z=>z.same s) qu) ix;obtain vy|ey|ny:=Lx (Paired.imp' (λ_ _ z=>z.same s) qw) iy;exists b8 (bE.of (s _ _ gu)) ex ?_;exists b8 (bE.of (s _ _ gw)) ey ?_;exists #[_,_,_,_,rfl,nx,ny,h1.szn (getD_mem ix) (),h2.szn (getD_mem iy) (),λr3 H3 s3 n3=>?_];exists #[_,_,_,_,rfl,hr.same s3,n3,Om h1 h2 hz i hkj,NG (h1.one (getD_mem ix)) (h2.one (getD_mem iy)) hkj,λr4 H4 s4 n4=>?_];exists #[(s.trans s3).trans s4,_,_,rfl,by rw[CN ix iy];exact n4]
 ·rintro σ' H' ⟨s,r,v,rfl,hr⟩;rw[aF (),aF ()] at hr;obtain t|rfl|ht:=hr;exists kk _ H' s #[t,rfl,ht]
theorem ID:sC ["_law_grid","_law_row_here"] 2 xE:=by walk_at "d"
theorem Ja (T:Txt K mg Z):T.rR.o P w base 4 (Dp K):=by
 refine T.rR.F.k ID ?_;walk_at "i";obtain p|q|H0|rows|ys|rfl|hp|hq|hz|hl|hr1|kk:=h;refine #[_,(aB (a8 (bX ["_law_one"] ["_law_row_here"] [1] (b9 b6) (λ_=>(eH 0)) (λ_=>bZ) (λ_=>(cT (oW T) hr T.jh (cQ b6 c9)))))),?_];walk_at "s"
 try rw[ik]
 obtain xs|gx|qx|_:=id hp;exists #[#[_,bE.of gx],?_];refine dn (K:=K) (F:=cW K H0) (bW K) (λxs=>cA xs ys) gx qx hz (λa b=>a.same b) (λa b=>a.same b) ?_ ?_
 ·rintro i ns x H' NY NN en s ⟨u,rfl,_,hu⟩ k;obtain e1|e2:=hr1 ns (av en);exists #[u,q,ns,ys,rfl,hu,hq.same s,e1.symm,(),e2,λr H2 s2 h2'=>k _ _ s2 h2']
 ·rintro ys' H' r hr s g pr nx;exact kk r H' hr s #[ys',g,pr]
theorem iL:sC ["_law_parts_here","_law_state","_law_puts_here","_law_move_here","_law_put","_law_look","_law_found","_law_k"] 3 tL:=by walk_at "d"
theorem DZ (T:Txt K mg Z):T.oa.o P w base 5 (Fm K):=by
 refine T.oa.F.k iL ?_;walk_at "i";obtain r|s0|u0|H0|mv|pt|lk|st|pu|rfl|PQ|D|hs|hu|l1|l2|NX|k:=h
 refine #[_,(au (eP b6 (rA rfl (cM (eH 3 iL.nd) (cM (eH 4 iL.nd) (cM (eH 5 iL.nd) ij)))))
  (au (eQ 6 iL.nd (cT (Ja T) hr T.rR (cQ ic c9)))
  (au (eO PassesOwn.never rfl (cE rfl T.range (dB (bB be (by rfl) T.len aT (dB kU)))) (eH 7 iL.nd)
   (aB (eQ 6 iL.nd (cT (rG T) hr T.jt (cQ oQ (cT (oH T) hr T.ji (cQ (aX bC dW AZ) (aX bC kU AZ))))))))
  (aB (a8 oQ))))),?_]
 walk_at "s"
 try rw[ik]
 obtain m|p|l|g|n1|n2|n3|Gm|Gp|Gl:=id PQ;have d1:=D.n8;have d2:=D.i4;exists #[m,s0,H0,mv,st,rfl,Gm,hs,(),(),λxs hx=>#[by rw[D.mw xs hx,l1],NX.f2 xs hx],λf H1 nf s1 R1=>?_];obtain ps|gp|qp|_:=Gp.same s1;have lp:=qp.9;exists #[_,_,rfl,.inl (bE.of gp),?_];exists #[(),(),?_];refine fH (n:=ps.9) (λkk σ' H'=>∃(f:Addr) (x:Option V),σ'=[some (.ref r),some (.ref s0),some (.ref u0),some (.ref m),some (.ref p),some (.ref l),some (.ref f),x]/\H f=none/\aH H1 H'/\cS K H' f (nextK mv pt st pu kk)) #[f,none,rfl,nf,aH.refl _,by rw[Jd];exact R1] ?_ ?_
 ·rintro kk σ' H' hk ⟨f',x,rfl,nf',s',R'⟩;have kp:kk < pt.9:=()
  have ku:kk < pu.9:=()
  obtain zs|gz|qz:=(hu.same s1).same s';have lz:=qz.9;obtain vu|eu|nu:=Lx qz ku;obtain row|vr|er|ev|mr|q|rfl|_|Rq:=dM qp kp
  have er':pt[kk]=row:=by
   rw[ae kp] at er;exact cg er
  have eu':pu.getD kk 0=pu[kk]:=by rw[aa,ae ku];rfl
  have mu:pu.getD kk 0∈pu:=getD_mem ku;exists b8 (bE.of gz) eu ?_;exists b8 (bE.of (s' _ _ gp)) (dq ev) ?_;exists #[vu,q,_,row,rfl,nu,NX.su _ mu,Rq.same s',by rw[D.pw row mr];lia,NX.sp row mr,λr1 H2 n1' s2 R2=>?_];exists #[f',r1,_,_,rfl,R'.same s2,R2,by rw[af,jZ,D.pw row mr],by rw[jZ];lia,NX.part kk,λy hy=>?_,λr2 H3 n2' s3 R3=>?_]
  ·obtain y'|hy'|rfl:=aA.mp hy;exact NX.mul _ mu row mr y' hy'
  ·exists #[s1.none (s'.none (s2.none n2')),(s'.trans s2).trans s3,?_];have e:=Je (st:=st) (pu:=pu) (λxs hx=>by rw[D.mw xs hx,l1]) kp ku (by rw[er'];exact D.pw row mr);rw[er',<- eu'] at e;rw[<- e];exact R3
 ·rintro σ' H' ⟨f',x,rfl,nf',s',R'⟩;rw[uQ () ()] at R';exists k f' H' nf' (s1.trans s') R'
theorem oT:sC ["_law_parts_here","_law_start","_law_rows","_law_state","_law_puts_here"] 3 vK:=by walk_at "d"
theorem FX (T:Txt K mg Z):T.oZ.o P w base 6 (Ka K):=by
 refine T.oZ.F.k oT ?_;walk_at "i";obtain r|s|p|H0|H1|mv|pt|lk|pus|st|rfl|PQ|D|Rs|ls|Gp|lp|wp|EF|k:=h
 refine #[_,(au (eQ 3 oT.nd (dI (dO K (by rfl)) (by rfl) T.list PyProof.Rows.boot_list (dB c9)))
  (au (eO PassesOwn.never rfl (b9 dW) (eH 4 oT.nd)
   (aB (eQ 3 oT.nd (cT (DZ T) hr T.oa (rB b6 ic kU)))))
  (aB (a8 ic)))),?_]
 walk_at "s"
 try rw[ik]
 have d1:=D.n8;obtain ss|gs|qs:=id Rs;obtain ps|gp|qp|_:=id Gp;have lps:=qp.9;exists #[s,ss,rfl,.inl (bE.of gs),λc hc=>?_];have sc:aH H (upd H c (.lst ss)):=aH.new hc;have Rc:cS K (upd H c (.lst ss)) c st:=#[ss,aG,Paired.imp' (λ_ _ z=>z.same sc) qs];generalize upd H c (.lst ss)=Hc at sc Rc ⊢;exists #[#[_,bE.of (sc _ _ gp)],?_];refine iP (K:=K) (a:=p) (xs:=ps) (λi σ' H'=>aH H H'/\∃q y,σ'=[some (.ref r),some (.ref s),some (.ref p),some (.ref q),y]/\H q=none/\cS K H' q (qJ mv pt st pus i)) #[sc,c,_,rfl,hc,Rc] (λi σ' H' _ #[e,_]=>bE.of (e _ _ gp)) ?_ ?_
 ·rintro i v σ' H' hv ⟨e,q,y,rfl,nq,Rq⟩;obtain pu|epu|u|rfl|_|Ru:=cF qp hv;have hi:i < pus.9:=(aE.mp epu).1;have mp:=av epu;exists #[r,q,u,H0,mv,pt,lk,_,pu,rfl,PQ.same e,D,Rq,cS.same Ru e,qM ls (),wp pu mp,EF.nx D ls wp () epu,λq2 H2 n2 s2 R2=>?_];rw[<- sT epu] at R2;exact #[e.trans s2,q2,_,rfl,e.none n2,R2]
 ·rintro σ' H' ⟨e,q,y,rfl,nq,Rq⟩;rw[<- lps] at Rq;exists k q H' nq e Rq
theorem DB:sC ["_law_bag_here","_law_parts_here","_law_steps_here","_law_wide"] 4 tH:=by walk_at "d"
theorem DX (T:Txt K mg Z):T.nY.o P w base 4 (Fi K):=by
 refine T.nY.F.k DB ?_;walk_at "i";obtain b|r|tt|w|H0|mv|pt|lk|rfl|hT|w1|w2|hB|nb|PQ|D|k:=h;refine #[_,(aB (a8 (bX ["_law_turn"] ["_law_bag_here","_law_parts_here","_law_wide"] [0,1,3] (cE rfl T.range (dB dW)) (λ_=>(eH 0)) (λ_=>bZ) (λ_=>(cT (jX T) hr T.fZ (rB c9 (bB (p7 K (by rfl)) (by rfl) T.len aT (dB (aX (rT K (by rfl)) dW aj))) ic)))))),?_];walk_at "s"
 try rw[ik]
 have i4:=D.i4;exists #[(),(),?_]
 refine uZ (n:=tt) (b:=b) (cW K H) (λxs=>xs.9=pt.9/\∀x∈xs,Dr (max w 6) x) hB () (λ{H' H'' c x} a u B=>by
  obtain q|e|nq|R:=a;exact #[q,e,nq,R.upto u B (λz=>hB.at (by rw[<- z];exact nq))]) ?_ ?_
 ·rintro i Ha NY NN hi ua Ba k1;obtain m|p|l|g|n1|n2|n3|Gm|Gp|Gl:=PQ.upto ua hB nb;obtain up|gp|qp|_:=id Gp;have lup:=qp.9;exists #[_,_,rfl,.inl (bE.of gp),?_];rw[<- lup];exists #[b,pt.9,w,rfl,Ba,(),w1,(),λq xs Hb nq R lx dx Bb ub=>?_];exact k1 _ xs _ ub Bb #[lx,dx] #[q,rfl,ua.none Ba nq,R]
 ·rintro ys cs Hz t ht uz Bz gz lc hc prz nx;exact k t cs Hz ht #[ys,gz,prz,iH nx] lc hc Bz uz
theorem qR:sC ["_law_bag_here","_law_parts_here","_law_start","_law_steps_here","_law_wide","_law_goal_here","_law_at"] 5 tS:=by walk_at "d"
theorem wC (T:Txt K mg Z):T.kK.o P w base 7 (Fu K):=by
 refine T.kK.F.k qR ?_;walk_at "i";obtain b|r|s|tt|w|H0|mv|pt|lk|st|rfl|hT|w1|w2|hB|nb|PQ|D|Rs|sb|ls|EN|k:=h
 refine #[_,(au (di (bf dX (cT (aZ T) hr T.aR (cQ b6 aj)) aj (bu _)) (aB (a8 (cT (jX T) hr T.fZ (rB b6 (bB be (by rfl) T.len aT (dB dW)) kU)))) bU)
  (au (eQ 5 qR.nd (cT (FX T) hr T.oZ (rB c9 dW (cT (DX T) hr T.nY (Ae b6 c9 ic kU)))))
  (au (di (PW.pt (ks (bf vo (bB be (by rfl) T.len aT (dB pU)) aj (bu _)) (mi (bf dX (cT (aZ T) hr T.aR (cQ b6 aj)) aj (bu _))))) (au (eQ 6 qR.nd (cT (aZ T) hr T.aR (cQ b6 (bB be (by rfl) T.len aT (dB pU)))))
  (aB (eP (cT (jc T) hr T.fY (cQ (aX bC pU oQ) (cD (cQ aj (bK fo aj (cT (aZ T) hr T.aR (cQ b6 aj))))))) (fR pU oQ set_list)))) bU)
  (aB (a8 pU))))),?_]
 walk_at "s"
 try rw[ik]
 have d8:=D.n8;exists #[b,2,rfl,hB,(),(),λv H1 v0 v1 B1 u1=>?_];have Rs1:=Rs.upto u1 hB sb;obtain zs|gz|qz:=id Rs1;have lz:=qz.9;exists dU (λh=>?_) (λh=>?_)
 ·exists #[_,_,rfl,.inl (bE.of gz),?_];rw[<- lz];exists #[b,st.9,w,rfl,B1,(),w1,(),λq xs H2 nq R2 l2 d2 B2 u2=>?_];exact k q xs H2 (u1.none B1 nq) R2 () (.inl d2) B2 (u1.trans u2)
 ·have PQ1:=PQ.upto u1 hB nb;exists #[b,r,tt,w,H0,mv,pt,lk,rfl,hT,w1,w2,B1,nb,PQ1,D,λp pus H2 np Gp lp dp B2 u2=>?_];have DP:VI pt tt w pus:=#[lp,dp];have EF:=EN pus DP;have wp:∀xs∈pus,xs.9=pt.9:=λxs hx=>(dp xs hx).1
  have u02:=u1.trans u2;exists #[r,s,p,H0,H1,mv,pt,lk,pus,st,rfl,PQ1.upto u2 B1 nb,D,Rs1.upto u2 B1 sb,ls,Gp,(),wp,EF,λg H3 ng s3 Rg=>?_];rw[lp] at Rg;have B3:=B2.same s3;have u03:c8 b H H3:=u02.same s3;have ng0:H g=none:=u02.none B2 ng;have gb:g≠b:=λz=>B2.at (by rw[<- z];exact ng)
  have lst:(qJ mv pt st pus tt).9=mv.9:=qM ls ();have fin0:∀H':Hp,c8 b H3 H'->ig H' b->Q (.ref g) H':=λH' u B=>k g _ H' ng0 (Rg.upto u B3 gb) lst (.inr #[pus,DP,.inl rfl]) B (u03.trans u)
  obtain ys|gy|qy:=id Rg;have ly:=qy.9;rw[lst] at ly;exists #[_,_,rfl,.inl (bE.of gy),?_];rw[<- ly];exists dU (λh1=>?_) (λh1=>?_)
  ·have np0:0 < mv.9:=by have:=of_decide_eq_true h1;lia
   exists #[b,4,rfl,B3,(),(),λv4 H4 v40 v41 B4 u4=>?_];exists dU (λh2=>?_) (λh2=>?_)
   ·obtain ys4|gy4|qy4:=Rg.upto u4 B3 gb;have ly4:=qy4.9;rw[lst] at ly4;exists #[_,_,rfl,.inl (bE.of gy4),?_];rw[<- ly4];exists #[b,mv.9,rfl,B4,(),(),λat' H5 a0 a1 B5 u5=>?_];obtain at'|rfl:=bP a0;have u35:=u4.trans u5;obtain ys5|gy5|qy5:=Rg.upto u35 B3 gb;have ly5:=qy5.9;rw[lst] at ly5;obtain vx|ex|nx:=Lx qy5 (j:=at') (by rw[lst];lia);exists b8 (bE.of gy5) ex ?_;exists #[b,3,rfl,B5,(),(),λv6 H6 v60 v61 B6 u6=>?_];obtain v6|rfl:=bP v60;exists bF λt7 H7 s7 g7=>?_
    rw[show ((1:Int)+(v6:Int))=((v6+1:Nat):Int) by lia] at g7;have u37:c8 b H3 H7:=(u35.trans u6).same s7;obtain ys7|gy7|qy7:=Rg.upto u37 B3 gb;have ly7:=qy7.9;rw[lst] at ly7
    have e57:ys7=ys5:=by
     have:=(u6.same s7).other gb gy5;rw[gy7] at this;cases this;rfl
    have szst:=EF.szn D ls wp (k:=tt) ();have mx:(qJ mv pt st pus tt).getD at' 0∈qJ mv pt st pus tt:=getD_in (by rw[lst];lia);have szu:mU (O2 v6):=kM () (show 6<=2^3 by decide) (show 1<=2^0 by decide) () (QY ());exists #[_,_,(qJ mv pt st pus tt).getD at' 0,O2 v6,rfl,(nx.upto (u6.same s7) B5),bW.mk (q:=O2 v6) g7 rfl,szst _ mx,szu,λr8 H8 s8 N8=>?_];have gy8:=s8 _ _ gy7;have B8:=(B6.same s7).same s8;have u38:=u37.same s8;obtain q0|I0|xq0|gq0:=hB.inner;have gq:g≠q0:=λz=>by rw[<- z,ng0] at gq0;cases gq0
    have u08:c8 b H H8:=u03.trans u38;have I8:=u08.2 _ I0;exists eC gy8 (eK ()) rfl ?_;exists k g _ _ ng0 #[_,aG,lM (N8.updL gy8) at' (Paired.imp' (λ_ _ z=>(z.same s8).updL gy8) qy7)] (by rw[df];exact lst) (.inr #[pus,DP,.inr #[at',v6,(),rfl]]) (B8.upd I8 gb gq) (u08.after ng0)
   ·exists fin0 H4 u4 B4
  ·exists fin0 H3 (aH.refl _).upto B3
theorem mh:sC ["_law_bag_here","_law_parts_here","_law_bottoms","_law_row_here"] 2 qZ:=by walk_at "d"
theorem vA (T:Txt K mg Z):T.jH.o P w base 2 (BZ K):=by
 refine T.jH.F.k mh ?_;walk_at "i";obtain b|r|H0|mv|pt|lk|rfl|hB|nb|PQ|D|sz|k:=h
 refine #[_,(au (eQ 2 mh.nd (dw (dB aj)))
  (au (eO PassesOwn.never rfl (b9 (bK iU (aX bS c9 aj) (aX bS c9 aj))) (eH 3 mh.nd)
   (aB (eQ 2 mh.nd (bK iU dW (bX ["_law_one"] [] [] (b9 ic) (λ_=>(eH 0)) (λ_=>bZ) (λ_=>(bK fo (aX (rT K (by rfl)) b6 aj) (bK dQ (bK jD (bB wW (by rfl) T.abs PyProof.Rows.boot_abs (dB (aX (rT K (by rfl)) b6 aj))) aj) aj))))))))
  (au (di (bf vo (bB (LP rfl) (by rfl) T.max PyProof.Rows.boot_max (dB dW)) aj (bu _)) (aB (a8 (cT (aZ T) hr T.aR (cQ b6 aj)))) bU)
  (au (di (bf vo (bB be (by rfl) T.len aT (dB (aX bS c9 aj))) aj (bu _)) (aB (a8 (aX bC (dw (cQ (cT (aZ T) hr T.aR (cQ b6 aj)) (bB be (by rfl) T.len aT (dB (aX bS c9 aj))))) (cT (aZ T) hr T.aR (cQ b6 aj))))) bU)
  (au (di (PW.pt (ks (bf uc (bB be (by rfl) T.len aT (dB (aX bS c9 aj))) aj (bu _)) (mi (bf dX (cT (aZ T) hr T.aR (cQ b6 aj)) aj (bu _))))) (aB (a8 (cT (aZ T) hr T.aR (cQ b6 aj)))) bU)
  (aB (a8 (cT (aZ T) hr T.aR (cQ b6 (bK fo aj (bB be (by rfl) T.len aT (dB (aX bS c9 aj))))))))))))),?_]
 walk_at "s"
 try rw[ik]
 have d8:=D.n8;have i4:=D.i4;obtain m|p|l|g|n1|n2|n3|Gm|Gp|Gl:=id PQ;obtain um|gm|qm|_:=id Gm;obtain up|gp|qp|_:=id Gp;have lum:=qm.9;have lup:=qp.9;exists cO λbl0 H1 s1 nbl g1=>?_
 have g':=s1 _ _ g;exists iT (s1 _ _ gm) (s1 _ _ gp) j8 λcc H2 s2 nc gc=>?_
 have s02:=s1.trans s2;have qc:Paired (cW K H0 H2) (mv++pt) (um++up):=Paired.imp' (λ_ _ z=>cW.same z s02) (bV qm qp)
 have wc:∀xs∈mv++pt,xs.9=mv.9:=λxs hx=>by
  rcases ay.mp hx with hx | hx
  ·exact D.mw xs hx
  ·exact D.pw xs hx
 have lc:(mv++pt).9=(um++up).9:=qc.9;rw[ar,ar] at lc;exists #[#[_,bE.of gc],?_];refine iP (K:=K) (a:=cc) (xs:=um++up) (λi σ' H'=>aH H2 H'/\∃bl ns y,σ'=[some (.ref b),some (.ref r),some (.ref bl),y]/\H' bl=some (.lst (ns.map V.int))/\1<=ns.9/\ns.9<=1+i*8/\∀j xs,j < i->(mv++pt)[j]?=some xs->∀x∈xs,T9 x∈ns) #[aH.refl _,bl0,[1],_,rfl,s2 _ _ g1,(),(),λj xs h=>absurd h (dP _)] (λi σ' H' _ #[e,_]=>bE.of (e _ _ gc)) ?_ ?_
 ·rintro i v σ' H' hv ⟨e,bl,ns,y,rfl,gb,b1,b2,hn⟩;obtain xs|exs|u|rfl|_|zs|gz|qz:=cF qc hv;have mx:=av exs;have wx:=wc xs mx;have hi:i < (um++up).9:=(aE.mp hv).1;rw[ar] at hi;exists #[#[_,bE.of (e _ _ gz)],?_];refine dn (K:=K) (F:=bW K) (λ_ c x=>x=V.int (T9 c)) id (e _ _ gz) (Paired.imp' (λ_ _ z=>z.same e) qz) () (λa b=>a.same b) (λa _=>a) ?_ ?_
  ·rintro j c x Ha NY NN ec sa ⟨pp,rfl,hp⟩ k1;have mc:=av ec;have szc:=sz xs mx c mc;walk_at "w"
   have e1:(if (nm c).1 < 0 then -(nm c).1 else (nm c).1)=(c.num.natAbs:Int):=by
    show (if c.num < 0 then -c.num else c.num)=_
    split <;> lia
   have e2:(c.num.natAbs:Int).fdiv 1000=(c.num.natAbs:Int) / 1000:=cY _ ();rw[e1];refine iF (show qH _ _ from #[(),bN (show (1000:Int).natAbs < 2^20 by decide) (ai () ())]) ?_;rw[e2];exists k1 _ _ (aH.refl _) rfl
  rintro ys Hb cl hcl sb gcl prl _
  have ey:ys=(xs.map T9).map V.int:=by
   rw[Dd] at prl;rw[il];exact Ct prl
  have ly:=prl.9;rw[af] at ly;have gbb:=sb _ _ gb;rw[ey] at gcl;exists iT gbb gcl (cC (cU (by rw[af,af,af];lia))) λc2 Hc sc nc2 gc2=>?_
  rw[<- bR] at gc2;refine #[(e.trans sb).trans sc,c2,ns++xs.map T9,_,rfl,gc2,by rw[ar];lia,by rw[ar,af];lia,λj ys' hj ej x hx=>?_];rcases cB j i with z | z
  ·exact fb _ (hn j ys' z ej x hx)
  ·have:j=i:=()
   subst this;rw[exs] at ej;cases ej;exact bL _ (aA.mpr #[x,hx,rfl])
 ·rintro σ' H' ⟨e,bl,ns,y,rfl,gb,b1,b2,hn⟩;have e0:=s02.trans e;have B':=hB.same e0;have PQ':=PQ.same e0;obtain m'|p'|l'|g2|_|_|_|Gm'|_|_:=id PQ'
  have em:m'=m:=by
   have:=e0 _ _ g;rw[this] at g2;cases g2;rfl
  subst em;obtain um'|gm'|qm'|_:=id Gm';have lum':=qm'.9;have u0:c8 b H H':=e0.upto;exists #[bl,ns,rfl,bE.of gb,(),λM hM hmax=>?_];exists dU (λh=>?_) (λh=>?_)
  ·exists #[b,4,rfl,B',(),(),λv H3 v0 v1 B3 u3=>?_];obtain v|rfl:=bP v0;exact k v H3 #[(),.inl ()] B3 (u0.trans u3)
  ·have M9:M<=9:=by rw[decide_eq_true_eq] at h;lia
   have sm:∀xs∈mv++pt,∀x∈xs,x.den<=9/\x.num.natAbs < 1000:=λxs hx x hx'=>by
    obtain j|hj|rfl:=bM hx;have:=hn j _ (by rw[ar,<- lum,<- lup];rw[ar] at hj;exact hj) (ae hj) x hx';exact QF (Int.le_trans (hmax _ this) M9)
   exists #[_,_,rfl,.inl (bE.of gm'),?_];rw[<- lum'];exists dU (λh1=>?_) (λh1=>?_)
   ·have n5:5 < mv.9:=by have:=of_decide_eq_true h1;lia
    exists #[b,4,rfl,B',(),(),λv H3 v0 v1 B3 u3=>?_];obtain v|rfl:=bP v0;obtain m3|p3|l3|g3|_|_|_|Gm3|_|_:=PQ'.upto u3 B' nb;obtain um3|gm3|qm3|_:=id Gm3;have lum3:=qm3.9;exists #[_,_,rfl,.inl (bE.of gm3),?_];rw[<- lum3];exists cO λl4 H4 s4 n4 g4=>?_
    exists #[b,2,rfl,B3.same s4,(),(),λv2 H5 v20 v21 B5 u5=>?_];have g5:=u5.other (λz=>B3.at (by rw[<- z];exact n4)) g4;obtain x|ex|mx|_:=mT (xs:=[V.int (v:Int),V.int (mv.9:Int)]) v20 (by simpa using v21);exists b8 (bE.of g5) ex ?_;have u05:=(u0.trans (u3.same s4)).trans u5;simp only[aI,bw,or_false] at mx;rcases mx with rfl | rfl
    ·exact k v H5 #[(),.inl ()] B5 u05
    ·exact k mv.9 H5 #[(),.inr #[sm,λ_=>ak _,λ_ _=>kY _]] B5 u05
   ·have n5:mv.9<=5:=by rw[decide_eq_true_eq] at h1;lia
    exists #[_,_,rfl,.inl (bE.of gm'),?_];rw[<- lum'];have last:∀(Hx:Hp),ig Hx b->c8 b H Hx->∀(v:Nat),v < 2+mv.9->Q (.int v) Hx:=λHx Bx ux v hv=>k v Hx #[(),.inr #[sm,λz=>(),λ_ _=>()]] Bx ux
    exists dU (λh2=>?_) (λh2=>?_)
    ·have n3':mv.9 < 3:=by have:=of_decide_eq_true h2;lia
     exists #[b,8,rfl,B',(),(),λv H3 v0 v1 B3 u3=>?_];exists dU (λh3=>?_) (λh3=>?_)
     ·exists #[b,13,rfl,B3,(),(),λv4 H4 v40 v41 B4 u4=>?_];obtain v4|rfl:=bP v40;exact k v4 H4 #[(),.inr #[sm,λz=>(),λz _=>()]] B4 ((u0.trans u3).trans u4)
     ·obtain m3|p3|l3|g3|_|_|_|Gm3|_|_:=PQ'.upto u3 B' nb;obtain um3|gm3|qm3|_:=id Gm3;have lum3:=qm3.9;exists #[_,_,rfl,.inl (bE.of gm3),?_];rw[<- lum3];walk_at "w";rw[show ((2:Int)+(mv.9:Int))=((2+mv.9:Nat):Int) by lia];refine #[b,2+mv.9,rfl,B3,(),(),λv4 H4 v40 v41 B4 u4=>?_];obtain v4|rfl:=bP v40;exact last H4 B4 ((u0.trans u3).trans u4) v4 ()
    ·exists #[_,_,rfl,.inl (bE.of gm'),?_];rw[<- lum'];walk_at "w";rw[show ((2:Int)+(mv.9:Int))=((2+mv.9:Nat):Int) by lia];refine #[b,2+mv.9,rfl,B',(),(),λv4 H4 v40 v41 B4 u4=>?_];obtain v4|rfl:=bP v40;exact last H4 B4 (u0.trans u4) v4 ()
theorem zQ:sC ["_law_rows","_law_weights"] 2 pL:=by walk_at "d"
theorem oG (T:Txt K mg Z):T.iw.o P w base 1 (yh K):=by
 refine T.iw.F.k zQ ?_;walk_at "i";obtain p|q|H0|n|a|b|c|d|rfl|⟨rows,wts,p0,q0,GR,GW,PF⟩|wn|k:=h;refine #[_,(aB (a8 (cD (cQ (xK b6 (mo (qq lD aj))) (bX ["_law_some"] [] [] (b9 (xK c9 (mo (qq lD aj)))) (λ_=>(eH 0)) (λ_=>bZ) (λ_=>(IQ K (by rfl) b6 (mo (qq lD aj))))))))),?_];walk_at "s"
 try rw[ik]
 obtain rs|gr|qr|_:=id GR;obtain us|gw|qw|nw:=id GW;have lr:=qr.9;have lw:=qw.9;have l1:=PF.rl;have l2:=PF.wl
 have revP:∀{α:Type} {F:α->V->Prop} {as:List α} {xs:List V},Paired F as xs->Paired F as.reverse xs.reverse:=λ{α F as xs} h=>by
  induction h with
  | nil=>exact .nil
  | cons h _ ih=>rw[gU,gU];exact bV ih (.cons h .nil)
 walk_at "w";unfold RY;exists #[rfl,?_];refine #[p,rs,rfl,bE.of gr,λl3 n3=>?_];have s3:aH H (upd H l3 (.lst rs.reverse)):=aH.new n3;have g3:(upd H l3 (.lst rs.reverse)) l3=some (.lst rs.reverse):=aG;generalize upd H l3 (.lst rs.reverse)=H3 at s3 g3 ⊢;exists #[rfl,?_];refine #[q,us,rfl,bE.of (s3 _ _ gw),λl4 n4=>?_];have s4:aH H3 (upd H3 l4 (.lst us.reverse)):=aH.new n4;have g4:(upd H3 l4 (.lst us.reverse)) l4=some (.lst us.reverse):=aG;generalize upd H3 l4 (.lst us.reverse)=H4 at s4 g4 ⊢;have s04:=s3.trans s4;exists #[#[_,bE.of g4],?_];refine dn (K:=K) (as:=wts.reverse) (F:=cW K H0) (cW K H0) List.reverse g4 (revP (Paired.imp' (λ_ _ y=>cW.same y s04) qw)) (by rw[dS];lia) (λh s=>h.same s) (λh s=>h.same s) ?_ ?_
 ·rintro i ws x H5 NY NN ew s5 ⟨u,rfl,_,zs,gz,qz⟩ k1;exists #[rfl,?_];refine #[u,zs,rfl,bE.of gz,λl6 n6=>?_];have s6:aH H5 (upd H5 l6 (.lst zs.reverse)):=aH.new n6;have g6:(upd H5 l6 (.lst zs.reverse)) l6=some (.lst zs.reverse):=aG;generalize upd H5 l6 (.lst zs.reverse)=H6 at s6 g6 ⊢;exact k1 _ _ s6 #[l6,rfl,wn _ ((s04.trans s5).none n6),_,g6,revP (Paired.imp' (λ_ _ y=>bW.same y s6) qz)]
 rintro ys H5 l5 n5 s5 g5 p5 nx5;exists bF λt H6 s6 g6=>?_
 have s06:=(s04.trans s5).trans s6
 have nr3:V.ref l3∉rs.reverse:=λz=>by
  obtain _|_|e|z2|_|zs|gz|_:=cZ qr (eY.mp z);cases z2;rw[gz] at n3;cases n3
 refine k t H6 s06 #[t,l3,l5,rfl,g6,rows.reverse,wts.reverse.map List.reverse,wn _ n3,wn _ (s04.none n5),#[_,(s4.trans (s5.trans s6)) _ _ g3,revP (Paired.imp' (λ_ _ y=>cW.same y s06) qr),nr3],(show bp K H0 H5 l5 _ from #[ys,g5,p5,iH nx5]).same s6,?_];obtain h1|h2|h3|h4|⟨M,M0,M1,f⟩|⟨N,N0,N1,g⟩:=PF;refine #[by rw[dS];exact h1,by rw[af,dS];exact h2,λz hz=>h3 z (eY.mp hz),λz hz=>?_,#[M,M0,M1,λz hz=>f z (eY.mp hz)],#[N,N0,N1,λz hz x hx=>?_]]
 ·obtain ws|hw|rfl:=aA.mp hz;rw[dS];exact h4 ws (eY.mp hw)
 ·obtain ws|hw|rfl:=aA.mp hz;exact g ws (eY.mp hw) x (eY.mp hx)
theorem Dv:sC ["row","bottom"] 2 tq:=by walk_at "d"
theorem rE (T:Txt K mg Z):T.jr.o P w base 1 (Fg K):=by
 refine T.jr.F.k Dv ?_;walk_at "i";obtain p|ns|M|B|rfl|hp|hl|hz|hB|sB|q:=h;refine #[_,(aB (a8 (bX ["value"] ["bottom"] [1] (b9 b6) (λ_=>(eH 0)) (λ_=>bZ) (λ_=>(bK dQ (aX (rT K (by rfl)) b6 aj) (bK jD c9 (aX (rT K (by rfl)) b6 aj))))))),?_];walk_at "s"
 try rw[ik]
 obtain xs|gx|qx:=id hp;have lx:=qx.9;exists #[#[_,bE.of gx],?_];refine eB (K:=K) (xs:=xs) (λi ys H'=>H'=H/\ys=(ia (ns.take i) B).map V.int) j8 #[rfl,rfl] (λi ys H' _ #[e,_]=>by subst e;exact bE.of gx) ?_ ?_
 ·rintro i x ys H' hx hlen ⟨rfl,rfl⟩;obtain n|en|r|rfl|hr1:=cF qx hx;have nz:=hz.2.2 n (av en);have sn:Sz 4400 n.2:=Ee hz.1 nz.2.1 hz.2.1;exists iF (show qH _ _ from #[(),sn.mono ()]) ?_;rw[cY _ ()]
  have sq:Sz 4400 (B / n.2):=sB.le (by
   rw[T7 ()];exact Nat.div_le_self ..)
  exists iF (show jl _ _ from .inr #[_,_,nz.2.2,sq,()]) ?_;exact #[rfl,by rw[take_snoc en];simp [ia]]
 ·rintro ys H' hy ⟨rfl,rfl⟩ l hl';exact q l _ hl' (aH.new hl') (by rw[aG,aF ()])
theorem iJ:sC ["wholes","multiple","whole"] 1 kr:=by walk_at "d"
theorem vR (T:Txt K mg Z):T.iM.o P w base 2 (MO K):=by
 refine T.iM.F.k iJ ?_;walk_at "i";obtain p|bs|M|rfl|hp|hM|sM|hb|q:=h
 refine #[_,(au (eQ 1 iJ.nd aj)
  (au (eO PassesOwn.never rfl (b9 b6) (eH 2 iJ.nd)
   (aB (eQ 1 iJ.nd (bK dQ c9 (bK jD dW (cT (kB T) hr T.fB (cQ c9 dW)))))))
  (aB (a8 c9)))),?_]
 walk_at "s"
 try rw[ik]
 exists #[#[_,hp],?_];refine iP (K:=K) (a:=p) (xs:=bs.map V.int) (λi σ' H'=>H'=H/\∃x,σ'=[some (.ref p),some (.int (xO (bs.take i) 1)),x]) #[rfl,none,rfl] (λi σ' H' _ #[e,_]=>by subst e;exact hp) ?_ ?_
 ·rintro i x σ' H' hx ⟨rfl,y,rfl⟩;rw[aD] at hx
  obtain ⟨b,eb,rfl⟩:∃b,bs[i]?=some b/\x=.int b:=by
   cases e:bs[i]? with
   | none=>rw[e] at hx;cases hx
   | some b=>rw[e] at hx;cases hx;exact #[b,rfl,rfl]
  have b1:=hb b (av eb);have sb:Sz 4400 b:=Ee hM b1.2 sM;have ht:∀c∈bs.take i,0 < c/\c∣M:=λc hc=>hb c (cH hc)
  have msz:Sz 4400 (xO (bs.take i) 1):=Ee hM (yY () (Int.one_dvd _) ht) sM;generalize hm:xO (bs.take i) 1=m at msz ⊢;have gp:0 < g m b:=Aw ();exists #[m,b,rfl,?_];exists iF (show qH _ _ from #[(),(V3 b1.1 sb).mono ()]) ?_;rw[cY _ ()];exists iF (show jl _ _ from .inr #[_,_,msz,sb.hi (t:=m) (),()]) ?_;exists #[rfl,_,by rw[take_snoc eb,CD,hm];rfl]
 ·rintro σ' H' ⟨rfl,y,rfl⟩;walk_at "w";rw[aF (by simp)];exact q
theorem xp:sC ["row"] 1 nC:=by walk_at "d"
theorem lQ (T:Txt K mg Z):T.gB.o P w base 3 (MP K):=by
 refine T.gB.F.k xp ?_;walk_at "i";obtain p|ns|M|rfl|hp|hl|hz|q:=h;refine #[_,(aB (a8 (cT (vR T) hr T.iM (dB (bX ["value"] [] [] (b9 b6) (λ_=>(eH 0)) (λ_=>bZ) (λ_=>(aX (rT K (by rfl)) b6 aj))))))),?_];walk_at "s"
 try rw[ik]
 obtain xs|gx|qx:=id hp;have lx:=qx.9;exists #[#[_,bE.of gx],?_];refine eB (K:=K) (xs:=xs) (λi ys H'=>H'=H/\ys=((ns.take i).map (·.2)).map V.int) j8 #[rfl,rfl] (λi ys H' _ #[e,_]=>by subst e;exact bE.of gx) ?_ ?_
 ·rintro i x ys H' hx hlen ⟨rfl,rfl⟩;obtain n|en|r|rfl|hr1:=cF qx hx;exists #[rfl,by rw[take_snoc en];simp]
 ·rintro ys H' hy ⟨rfl,rfl⟩ l hl';exists #[l,ns.map (·.2),M,rfl,bE.of (by rw[aG,aF ()]),hz.1,hz.2.1,λb hb=>?_,?_]
  ·obtain n|hn|rfl:=aA.mp hb;exact #[(hz.2.2 n hn).1,(hz.2.2 n hn).2.1]
  ·exact q _ (aH.new hl')
theorem vg:sC ["lines","begin","place","at"] 3 qX:=by walk_at "d"
theorem A4 (T:Txt K mg Z):T.mD.o P w base 1 Cq:=by
 refine T.mD.F.k vg ?_;walk_at "i";obtain l|p|ls|b|c|rfl|G|l1000|b1000|hc|k1|k2:=h
 refine #[_,(au (eO PassesOwn.never rfl (Lj rfl T.range (cQ c9 (bB be (by rfl) T.len aT (dB b6)))) (eH 3 vg.nd)
   (aB (di (bf yp (aX bC (aX bC b6 ic) dW) aj (bu _)) (aB (a8 ic)) bU)))
  (aB (a8 xM))),?_]
 walk_at "s"
 try rw[ik]
 obtain _|xs|gx|qx:=id G;have lx:=qx.9;exists #[_,_,rfl,.inl (bE.of gx),?_];rw[<- lx];exists #[#[(),(),(),()],?_];refine CL (lo:=(b:Int)) (n:=((ls.9:Int) - (b:Int)).toNat) (λi σ' H'=>H'=H/\(∃y,σ'=[some (.ref p),some (.int b),some (.int c),y])/\∀s,b<=s->s < b+i->gD ls s c=0) #[rfl,#[_,rfl],λs h1 h2=>absurd h2 ()] ?_ ?_
 ·rintro i σ' H' hi ⟨rfl,⟨y,rfl⟩,hz⟩;rw[show ((b:Int)+(i:Int))=((b+i:Nat):Int) by lia];obtain zs|v|ez|ev|mz|q|rfl|_|gq:=dM qx (i:=b+i) ();exists b8 (bE.of gx) (dq ev) ?_;exists b8 (bE.of gq) (zj (hc zs mz)) ?_;walk_at "w";have ef:=Mv (c:=c) ez;by_cases e:zs.getD c 0=0
  ·rw[decide_eq_true e];exists #[rfl,#[_,rfl],λs h1 h2=>?_];by_cases e2:s=b+i
   ·rw[e2,ef,e];rfl
   ·exact hz s h1 ()
  ·rw[decide_eq_false e];exists k1 (b+i) () () (by rw[ef];exact VM.mpr e)
 ·rintro σ' H' ⟨rfl,⟨y,rfl⟩,hz⟩;exists k2 λt h1 h2=>hz t h1 ()
theorem qQ:sC ["lines","at","place","before","used","by","swept"] 4 xD:=by walk_at "d"
theorem IZ (T:Txt K mg Z):T.rQ.o P w base 1 Cr:=by
 refine T.rQ.F.k qQ ?_;walk_at "i";obtain l|p|ls|kk|c|n|b|rfl|hl|G|l1000|hk|hw|n1000|hc|b0|sb|hs|k:=h
 refine #[_,(au (eQ 4 qQ.nd (aX bC b6 c9))
  (au (eQ 5 qQ.nd (aX bC kU dW))
  (au (iY 6 ["line"] ["used","by","place","before"] [4,5,2,3] qQ.nd rfl rfl (b9 b6) (λ_=>(eH 0)) (λ_=>bZ) (λ_=>(bX ["mine","yours"] ["by","line","place","before"] [2,0,3,4] (Nq K rfl T.zip (cQ b6 c9)) (λ_=>(oV K 2 (cM (eH 0) (cM (eH 1) ij)))) (λ_=>bZ) (λ_=>(bK jD (bK kx (bK dQ dW b6) (bK dQ (aX (kL K (by rfl)) ic kU) c9)) pU)))))
  (au (eP kU (fR oQ c9 set_list))
  (aB (a8 oQ)))))),?_]
 walk_at "s"
 try rw[ik]
 obtain pl|xs|gx|qx:=id G;have lx:=qx.9;obtain zk|vk|ek|evk|mk|qk|rfl|qkl|gk:=dM qx hk;have wk:=hw zk mk;have ek':ls.getD kk []=zk:=by rw[aa,ek];rfl
 exists b8 (bE.of gx) (dq evk) ?_;exists b8 (bE.of gk) (zj ()) ?_;exists #[#[_,bE.of gx],?_];refine eB (K:=K) (xs:=xs) (λi ys H'=>aH H H'/\Paired (KL l H') ((ls.take i).map λzs=>List.zipWith (λx y=>(zk.getD c 0*x - zs.getD c 0*y).fdiv b) zs zk) ys) j8 #[aH.refl _,.nil] (λi ys H' _ #[s,_]=>bE.of (s _ _ gx)) ?_ ?_
 ·rintro i v ys0 H' hx hlen ⟨s',pr⟩;obtain zs|ec|q|rfl|ql|gq:=cF qx hx;have mz:=av ec;have wz:=hw zs mz;have gq':=s' _ _ gq;have gk':=s' _ _ gk;exists #[#[_,bE.of gq'],#[_,bE.of gk'],?_];refine uB (K:=K) (xs:=zs.map V.int) (ws:=zk.map V.int) (λj ys H2=>aH H' H2/\ys=((List.zipWith (λx y=>(zk.getD c 0*x - zs.getD c 0*y).fdiv b) zs zk).take j).map V.int) (cC (cU (by rw[af];lia))) (by rw[af,af];lia) #[aH.refl _,rfl] (λj ys H2 _ #[s2,_]=>#[bE.of (s2 _ _ gq'),bE.of (s2 _ _ gk')]) ?_ ?_
  ·rintro j v1 v2 ys H2 r h1 h2 hy ⟨s2,rfl⟩ hr
   obtain ⟨x,ex,rfl⟩:∃x,zs[j]?=some x/\V.int x=v1:=by
    rw[aD] at h1;cases e:zs[j]? with
    | none=>rw[e] at h1;cases h1
    | some x=>rw[e] at h1;exact #[x,rfl,cg h1]
   obtain ⟨y,ey,rfl⟩:∃y,zk[j]?=some y/\V.int y=v2:=by
    rw[aD] at h2;cases e:zk[j]? with
    | none=>rw[e] at h2;cases h2
    | some x=>rw[e] at h2;exact #[x,rfl,cg h2]
   have sr:aH H2 (upd H2 r (.tup [.int x,.int y])):=aH.new hr;have gr:(upd H2 r (.tup [.int x,.int y])) r=some (.tup [.int x,.int y]):=aG;generalize upd H2 r (.tup [.int x,.int y])=H3 at sr gr ⊢;have gq3:=sr _ _ (s2 _ _ gq');have sx:=hs zs mz x (av ex);have sy:=hs zk mk y (av ey);have s1:=hs zk mk _ (getD_in (e:=0) (show c < zk.9 by lia));have s3:=hs zs mz _ (getD_in (e:=0) (show c < zs.9 by lia));exists iF (show jl _ _ from .inr #[_,_,s1,sx,()]) ?_;exists b8 (bE.of gq3) (zj ()) ?_;exists iF (show jl _ _ from .inr #[_,_,s3,sy,()]) ?_;exists iF (show qH _ _ from #[b0,sb]) ?_;have ez:(List.zipWith (λx y=>(zk.getD c 0*x - zs.getD c 0*y).fdiv b) zs zk)[j]?=some ((zk.getD c 0*x - zs.getD c 0*y).fdiv b):=by rw[cR,ex,ey]
   exact #[s2.trans sr,by rw[take_snoc ez];simp]
  ·rintro ys H2 hy ⟨s2,rfl⟩ r hr;have sn:aH H2 (upd H2 r (.lst (((List.zipWith (λx y=>(zk.getD c 0*x - zs.getD c 0*y).fdiv b) zs zk).take (zs.map V.int).9).map V.int))):=aH.new hr;refine #[(s'.trans s2).trans sn,?_];rw[take_snoc ec,bR];refine bV (Paired.imp' (λ_ _ z=>(KL.same z s2).same sn) pr) (.cons #[r,rfl,ne_old (λz=>hl (s'.none (s2.none z))) hr,?_] .nil);rw[aG,aF (by rw[cV,af];lia)]
 ·rintro ys H1 hy ⟨s1,pr⟩ r hr;have sn:aH H1 (upd H1 r (.lst ys)):=aH.new hr;have gn:(upd H1 r (.lst ys)) r=some (.lst ys):=aG;have ly:=pr.9;rw[af,bY] at ly;generalize upd H1 r (.lst ys)=H2 at sn gn ⊢;exists eC gn (eK ()) rfl ?_;have s2:aH H1 (upd H2 r (.lst (ys.set kk (.ref qk)))):=sn.after hr;exists k r _ (s1.none hr) (s1.trans s2) #[ne_old (λz=>hl (s1.none z)) hr,_,aG,?_];unfold Hs;rw[ek'];rw[aF ()] at pr;exact jQ (Paired.imp' (λ_ _ z=>KL.same z s2) pr) kk #[qk,rfl,qkl,(s1.trans s2) _ _ gk]
theorem vh:sC ["lines","at","to","swapped"] 3 qY:=by walk_at "d"
theorem A5 (T:Txt K mg Z):T.mE.o P w base 1 ym:=by
 refine T.mE.F.k vh ?_;walk_at "i";obtain l|p|ls|t|kk|rfl|hl|G|l1000|ht|hk|k:=h
 refine #[_,(au (eQ 3 vh.nd (dI rZ (by rfl) T.list PyProof.Rows.boot_list (dB b6)))
  (au (eP (aX bC b6 c9) (fR ic dW set_list))
  (au (eP (aX bC b6 dW) (fR ic c9 set_list))
  (aB (a8 ic))))),?_]
 walk_at "s"
 try rw[ik]
 obtain pl|xs|gx|qx:=id G;have lx:=qx.9;obtain zt|vt|et|evt|_|Ft:=dM qx ht;obtain zk|vk|ek|evk|_|Fk:=dM qx hk;exists #[p,xs,rfl,.inl (bE.of gx),λc hc=>?_];have sc:aH H (upd H c (.lst xs)):=aH.new hc;have gc:(upd H c (.lst xs)) c=some (.lst xs):=aG;generalize upd H c (.lst xs)=Hc at sc gc ⊢;exists b8 (bE.of (sc _ _ gx)) (dq evt) ?_;exists eC gc (eK ()) rfl ?_;have s1:aH H (upd Hc c (.lst (xs.set kk vt))):=sc.after hc;have g1:(upd Hc c (.lst (xs.set kk vt))) c=some (.lst (xs.set kk vt)):=aG;generalize upd Hc c (.lst (xs.set kk vt))=H1 at s1 g1 ⊢;exists b8 (bE.of (s1 _ _ gx)) (dq evk) ?_;exists eC g1 (eK (by rw[df];lia)) rfl ?_;have s2:aH H (upd H1 c (.lst ((xs.set kk vt).set t vk))):=s1.after hc;exists k c _ hc s2 #[ne_old hl hc,_,aG,?_];have et':ls.getD t []=zt:=by rw[aa,et];rfl
 have ek':ls.getD kk []=zk:=by rw[aa,ek];rfl
 unfold qL;rw[et',ek'];exact jQ (jQ (Paired.imp' (λ_ _ z=>KL.same z s2) qx) kk (KL.same Ft s2)) t (KL.same Fk s2)
theorem ke:sC ["rows","wide","lines","leads","before","place","many","at"] 2 DH:=by walk_at "d"
theorem FV (T:Txt K mg Z):T.uo.o P w base 4 (BY K):=by
 refine T.uo.F.k ke ?_;walk_at "i";obtain p|n|w|H0|rows|rfl|G|r100|n100|hw|F|k:=h
 refine #[_,(au (iY 2 ["row"] [] [] ke.nd rfl rfl (b9 b6) (λ_=>(eH 0)) (λ_=>bZ) (λ_=>(cT (rE T) hr T.jr (cQ b6 (cT (lQ T) hr T.gB (dB b6))))))
  (au (eQ 3 ke.nd (dw ir))
  (au (eQ 4 ke.nd aj)
  (au (eO PassesOwn.never rfl (cE rfl T.range (dB c9)) (eH 5 ke.nd)
   (au (eQ 6 ke.nd (bB be (by rfl) T.len aT (dB ic)))
  (au (eQ 7 ke.nd (cT (A4 T) hr T.mD (rB dW oQ pU)))
  (aB (di (bf DQ AZ xM (bu _)) (au (eQ 2 ke.nd (cT (IZ T) hr T.rQ (Ae (cT (A5 T) hr T.mE (rB dW AZ oQ)) oQ pU kU)))
  (au (eQ 4 ke.nd (aX bC (aX bC dW oQ) pU))
  (aB (gP (qB cb dk dj iS ic (dB pU)))))) bU)))))
  (aB (a8 (cD (cQ (qA Dt dW we (mo (bB be (by rfl) T.len aT (dB ic)))) ic)))))))),?_]
 walk_at "s"
 try rw[ik]
 obtain xs|gx|qx|_:=id G;obtain W|hW|W2|ent:=F.ent;obtain _|_|_|_|_|_|_|_|r15|r89:=id F;exists #[#[_,bE.of gx],?_];refine dn (K:=K) (as:=rows) (F:=cW K H0) (λ(H:Hp) (zs:List Int) (v:V)=>∃q,v=V.ref q/\H q=some (.lst (zs.map V.int))) kW gx qx () (λa b=>a.same b) (λ#[q,a,b] s=>#[q,a,s _ _ b]) ?_ ?_
 ·rintro i qs v H' NY NN ec s' ⟨u,rfl,_,R⟩ k1;have mx:=av ec;obtain M|hM:=F.rowM mx;obtain b1|sb:=hM.bot;have lq:(qs.map nm).9<=1000:=by rw[af,hw qs mx];lia
  exists #[u,_,M,rfl,R.rowK,lq,hM,λH2 s2=>?_];exists #[u,_,M,_,rfl,(R.same s2).rowK,lq,hM,b1,sb,λr H3 n3 s3 g3=>k1 _ _ (s2.trans s3) #[r,rfl,g3]]
 rintro ys H1 lp0 hlp s1 g1 pr1 nx1;exists cO λqp H2 s2 nq gq=>?_
 have G2:uG qp H2 lp0 (rows.map kW):=#[(λz=>by rw[z,nq] at g1;cases g1),ys,s2 _ _ g1,Paired.imp' (λ_ _ #[q,a,b]=>#[q,a,(λz=>by rw[z,nq] at b;cases b),s2 _ _ b]) pr1];have hq0:H qp=none:=s1.none nq;have s02:=s1.trans s2;have hm:(rows.map kW).9=rows.9:=af ..;clear g1 pr1 nx1;exists #[(),(),?_];refine fH (n:=n) (λP σ' H'=>aH H H'/\∃lp ls ps d y1 y2 y3,σ'=[some (.ref p),some (.int n),some (.ref lp),some (.ref qp),some (.int d),y1,y2,y3]/\H' qp=some (.lst (d5 ps))/\uG qp H' lp ls/\C5 (rows.map kW) n P ls ps d) #[s02,lp0,rows.map kW,[],1,_,_,_,rfl,gq,G2,C5.start λzs hz=>by obtain x|hx|rfl:=aA.mp hz;rw[sQ];exact hw x hx] ?_ ?_
 ·rintro P σ' H' hP ⟨s',lp,ls,ps,d,y1,y2,y3,rfl,gq',G',I⟩;have hl:=I.len;have kP:=I.el.kP;have km:=I.el.km;have lps:(d5 ps).9=ps.9:=af ..;have hqp:H' qp≠none:=by rw[gq'];exact λz=>nomatch z
  obtain z1|z2:=I.sz (r:=min rows.9 n) hW ent () (by rw[hm];exact ak _) r15;have big:(16*W)^min rows.9 n < 2^8999:=bO (IM W2) (eV () ());exists #[_,_,rfl,.inl (bE.of gq'),?_];rw[lps];exists #[qp,lp,ls,ps.9,P,rfl,G',(),(),λzs hz=>by rw[I.wide zs hz];exact hP,λt h1 h2 h3=>?_,λhz=>?_]
  ·exists #[rfl,_,rfl,?_];rw[show decide (V.int (t:Int)=V.non)=false from decide_eq_false (λz=>nomatch z)];exists #[qp,lp,ls,t,ps.9,rfl,hqp,G',(),h2,(),λl1 Ha na sa Ga=>?_];exists #[qp,l1,_,ps.9,P,n,d,rfl,λz=>hqp (sa.none z),Ga,by rw[xh];lia,by rw[xh];lia,JZ I.wide () h2,(),hP,I.d0,bO z1 big,λzs hz z hz'=>?_,λl2 Hb nb sb Gb=>?_]
   ·unfold qL at hz;have key:∀ys,ys∈ls->∀z∈ys,Sz 8999 z:=λys hy z hz=>bO (z2 ys hy z hz) big
    rcases cG hz with h | h
    ·rcases cG h with h | h
     ·exact key zs h z hz'
     ·rw[h] at hz';exact key _ (getD_in h2) z hz'
    ·rw[h] at hz';exact key _ (getD_in ()) z hz'
   have sab:=sa.trans sb;have I2:=I.step hW ent h1 h2 h3;have hk2:ps.9 < (Hs (qL ls ps.9 t) ps.9 P d).9:=by rw[OB,xh];lia
   obtain n2|xs2|gx2|qx2:=id Gb;obtain zk|vk|ek|evk|mk|qk|rfl|_|gk:=dM qx2 hk2;have wk:=I2.wide zk mk;exists b8 (bE.of gx2) (dq evk) ?_;exists b8 (bE.of gk) (zj ()) ?_;have gqb:=sab _ _ gq';exists #[.inl #[rfl,_,bE.of gqb],?_];exists lJ gqb (cU ()) ?_;refine #[(s'.trans sab).after hq0,l2,_,ps++[P],_,_,_,_,rfl,?_,Gb.upd,?_]
   ·rw[aG];unfold d5;rw[bR];rfl
   ·have e:(Hs (qL ls ps.9 t) ps.9 P d).getD ps.9 []=zk:=by rw[aa,ek];rfl
    rw[e] at I2;exact I2
  ·exists #[rfl,_,rfl,?_];rw[show decide (V.non=V.non)=true from decide_eq_true rfl];exists #[s',lp,ls,ps,d,_,_,_,rfl,gq',G',I.skip hz]
 rintro σ' H' ⟨s',lp,ls,ps,d,y1,y2,y3,rfl,gq',G',I⟩;obtain R|hR:=I.done hw F;have lps:(d5 ps).9=ps.9:=af ..;obtain nl|xs'|gx'|qx':=id G';exists #[_,_,rfl,.inl (bE.of gq'),?_];rw[lps];exists IJ (bE.of gx') λsl H3 s3 n3 g3=>?_
 rw[Ho] at g3;exists bF λt H4 s4 g4=>?_
 have s34:=s3.trans s4;exact k t sl qp R ps d _ H4 g4 (s34 _ _ gq') #[(λz=>by rw[z,gq'] at n3;cases n3),_,s4 _ _ g3,Paired.imp' (λ_ _ z=>KL.same z s34) (mQ qx' ps.9)] (s'.trans s34) hR
theorem xm:sC ["top","bottom","divisor"] 2 zT:=by walk_at "d"
theorem uO (T:Txt K mg Z):T.lV.o P w base 2 K5:=by
 refine T.lV.F.k xm ?_;walk_at "i";obtain t|b|rfl|hb|hs|k:=h
 refine #[_,(au (eQ 2 xm.nd (cT (kB T) hr T.fB (cQ b6 c9)))
  (au (di (bf uc c9 aj (bu _)) (aB (eQ 2 xm.nd (qq lD dW))) bU)
  (aB (a8 (cD (cQ (bK jD b6 dW) (bK jD c9 dW))))))),?_]
 walk_at "s"
 try rw[ik]
 exists #[t,b,rfl,?_];have hg:=Aw (t:=t) hb
 have hgs:Sz 8999 (g t b):=hs.le (by
  have h1:(g t b).natAbs=Int.gcd t b:=by unfold g;simp
  rw[h1];exact nG () (by have:=gV (a:=t) (b:=b);exact iO.mpr this |> λz=>by simpa using z))
 have hgn:g (-t) (-b)=g t b:=by unfold g;rw[Int.gcd_neg,Int.neg_gcd]
 exists dU (λh=>?_) (λh=>?_)
 ·have hb0:b < 0:=of_decide_eq_true h;exists iF (show qH _ _ from #[(),hgs.neg]) ?_;exists iF (show qH _ _ from #[(),hgs.neg]) ?_;exists bF λr H' s' h'=>?_
  have e1:t.fdiv (-g t b)=lo (-t) (-b):=by
   unfold Nm.lo;rw[hgn,<- cY _ (),<- Int.neg_fdiv_neg (-t),Int.neg_neg]
  have e2:b.fdiv (-g t b)=hi (-t) (-b):=by
   unfold Nm.hi;rw[hgn,<- cY _ (),<- Int.neg_fdiv_neg (-b),Int.neg_neg]
  exact k r H' s' (by rw[if_pos hb0,if_pos hb0,<- e1,<- e2];exact h')
 ·have hb0:¬b < 0:=λz=>h (decide_eq_true z)
  exists iF (show qH _ _ from #[(),hgs]) ?_;exists iF (show qH _ _ from #[(),hgs]) ?_;exists bF λr H' s' h'=>?_
  rw[cY _ (),cY _ ()] at h';exact k r H' s' (by rw[if_neg hb0,if_neg hb0];exact h')
theorem zM:sC ["rows","wide","found"] 2 xv:=by walk_at "d"
theorem Ah (T:Txt K mg Z):T.oI.o P w base 5 (yk K):=by
 refine T.oI.F.k zM ?_;walk_at "i";obtain p|n|w|H0|rows|rfl|G|r100|n100|hw|F|k:=h
 refine #[_,(au (eQ 2 zM.nd (cT (FV T) hr T.uo (cQ b6 c9)))
  (aB (a8 (bX ["line","lead"] [] [] (rz rfl T.zip (cQ (aX bS dW aj) (aX bS dW aj))) (λ_=>(oV K 2 (cM (eH 0) (cM (eH 1) ij)))) (λ_=>bZ) (λ_=>(bX ["top"] ["line","lead"] [0,1] (wg K b6) (λ_=>(eH 0)) (λ_=>bZ) (λ_=>(cT (uO T) hr T.lV (cQ b6 (aX (kL K (by rfl)) c9 dW)))))))))),?_]
 walk_at "s"
 try rw[ik]
 obtain _|_|_|_|_|_|_|_|r15|r89:=id F;exists #[p,n,w,H0,rows,rfl,G,r100,n100,hw,F,λt lp qp R ps d ls H1 gt gq G1 s1 S=>?_];obtain lR|wR|RR:=id S.rr;have hl:=S.len;obtain _|xs|gx|qx:=id G1;have lx:=qx.9;have lps:(d5 ps).9=ps.9:=af ..;have d0:(d:Rat)≠0:=λz=>S.d0 (qE z)
 have dsz:Sz 8999 d:=bO S.dsz (eV () ())
 have km:ps.9<=n:=by
  rcases cB n ps.9 with z | z
  ·have inc:∀j,j < ps.9->j<=ps.getD j 0:=by
    intro j
    induction j with
    | zero=>intro _;exact br _
    | succ j ih =>
     intro hj;have:=ih ();have:=RR.inc j (j+1) () hj
     lia
   have h1:=inc (ps.9 - 1) ();have h2:=RR.low (ps.9 - 1) ()
   lia
  ·exact z
 exists #[#[_,bE.of gx],#[_,bE.of gq],?_];refine uB (K:=K) (xs:=xs) (ws:=d5 ps) (λi ys H'=>aH H1 H'/\Paired (cW K H1 H') (R.take i) ys) j8 () #[aH.refl _,.nil] (λi ys H' _ #[s,_]=>#[bE.of (s _ _ gx),bE.of (s _ _ gq)]) ?_ ?_
 ·rintro i v1 v2 ys H' r h1 h2 hy ⟨s,pr⟩ hr;obtain zs|ez|q|rfl|_|gq1:=cF qx h1;have hi:i < ls.9:=(aE.mp ez).1;have mz:=av ez;have wz:=S.wide zs mz
  obtain ⟨j,ej,rfl⟩:∃j:Nat,ps[i]?=some j/\V.int (j:Int)=v2:=by
   unfold d5 at h2;rw[aD] at h2;cases e:ps[i]? with
   | none=>rw[e] at h2;cases h2
   | some x=>rw[e] at h2;exact #[x,rfl,cg h2]
  have ej':ps.getD i 0=j:=by rw[aa,ej];rfl
  have jn:j < n:=by have:=RR.low i ();rw[ej'] at this;exact this
  have sr:aH H' (upd H' r (.tup [.ref q,.int j])):=aH.new hr;have gr:(upd H' r (.tup [.ref q,.int j])) r=some (.tup [.ref q,.int j]):=aG;generalize upd H' r (.tup [.ref q,.int j])=H2 at sr gr ⊢;have s2:=s.trans sr;have iR:i < R.9:=()
  have eR:=ae iR;have wRi:=wR _ (aM iR)
  have ed:zs.getD j 0=d:=by
   have h:=S.val i j;rw[Mv ez] at h;have u:=RR.unit i () i ();rw[if_pos rfl,ej'] at u;rw[u,C8] at h;exact eT.mp h
  have val:∀c,((zs.getD c 0:Int):Rat)=(d:Rat)*(R[i]).getD c 0:=λc=>by
   have h:=S.val i c;rw[Mv ez] at h;rw[h];unfold ck;rw[aa (l:=R),eR];rfl
  exists #[#[_,bE.of (s2 _ _ gq1)],?_];refine eB (K:=K) (xs:=zs.map V.int) (λc ys' H3=>aH H2 H3/\Paired (bW K H3) ((R[i]).take c) ys') (cC (cU (by rw[af];lia))) #[aH.refl _,.nil] (λc ys' H3 _ #[s3,_]=>bE.of ((s2.trans s3) _ _ gq1)) ?_ ?_
  ·rintro c x ys' H3 hx hlen ⟨s3,pr3⟩
   obtain ⟨z,ec,rfl⟩:∃z,zs[c]?=some z/\V.int z=x:=by
    rw[aD] at hx;cases e:zs[c]? with
    | none=>rw[e] at hx;cases hx
    | some x=>rw[e] at hx;exact #[x,rfl,cg hx]
   have hc:c < zs.9:=(aE.mp ec).1;have vc:=val c;have e1:zs.getD c 0=z:=by rw[aa,ec];rfl
   rw[e1] at vc;exists b8 (bE.of ((s2.trans s3) _ _ gq1)) (zj ()) ?_;rw[ed];exists #[z,d,rfl,S.d0,dsz,λr4 H4 s4 g4=>?_];have ec':(R[i])[c]?=some ((R[i]).getD c 0):=by rw[aa,ae (show c < (R[i]).9 by lia)];rfl
   refine #[s3.trans s4,?_];rw[take_snoc ec'];refine bV (Paired.imp' (λ_ _ z=>bW.same z s4) pr3) (.cons (bW.mk g4 ?_) .nil);rcases Int.lt_or_lt_of_ne S.d0 with hd | hd
   ·rw[if_pos hd,if_pos hd];refine oi () ?_;rw[dE,dE,vc];grind
   ·rw[if_neg (),if_neg ()];refine oi hd ?_;rw[vc];grind
  ·rintro ys' H3 hy' ⟨s3,pr3⟩ l4 hl4;have sn:aH H3 (upd H3 l4 (.lst ys')):=aH.new hl4;refine #[(s2.trans s3).trans sn,?_];rw[take_snoc eR];rw[aF (by rw[af];lia)] at pr3;exact bV (Paired.imp' (λ_ _ z=>cW.same z ((sr.trans s3).trans sn)) pr) (.cons #[l4,rfl,(s2.trans s3).none hl4,ys',aG,Paired.imp' (λ_ _ z=>bW.same z sn) pr3] .nil)
 ·rintro ys H' hy ⟨s,pr⟩ r hr;have sn:aH H' (upd H' r (.lst ys)):=aH.new hr;rw[aF ()] at pr;refine k r R ps d.natAbs _ (s1.none (s.none hr)) ((s1.trans s).trans sn) #[ys,aG,Paired.imp' (λ_ _ z=>(cW.weak z s1).same sn) pr,iH (H0:=H1) (rows:=R) #[H',hr,pr]] S.rr S.km ?_ S.dsz S.tp;have:=S.d0
  lia
theorem qO:sC ["one","other","one_bottom","other_bottom","pairs"] 2 xu:=by walk_at "d"
theorem rF (T:Txt K mg Z):T.jS.o P w base 4 (Dq K):=by
 refine T.jS.F.k qO ?_;walk_at "i";obtain p|q|xs|ys|rfl|hp|hq|hl|hz|⟨k1,j1,k2,j2,h1,h2,hkj⟩|kk:=h
 refine #[_,(au (eQ 2 qO.nd (cT (lQ T) hr T.gB (dB b6)))
  (au (eQ 3 qO.nd (cT (lQ T) hr T.gB (dB c9)))
  (au (eQ 4 qO.nd (IT rfl T.list rfl T.zip (cQ (cT (rE T) hr T.jr (cQ b6 dW)) (cT (rE T) hr T.jr (cQ c9 ic)))))
  (aB (a8 (cT (uO T) hr T.lV (cQ (bB (OC rfl) (by rfl) T.sum PyProof.Rows.boot_sum (dB (bX ["mine","yours"] [] [] (b9 kU) (λ_=>(oV K 2 (cM (eH 0) (cM (eH 1) ij)))) (λ_=>bZ) (λ_=>(bK dQ b6 c9))))) (bK dQ dW ic)))))))),?_]
 walk_at "s"
 try rw[ik]
 obtain M|h1:=h1.rowM ();obtain N|h2:=h2.rowM ();replace hp:=hp.rowK;replace hq:=hq.rowK;replace hl:(ys.map nm).9=(xs.map nm).9:=by simpa using hl
 replace hz:(xs.map nm).9<=1000:=by simpa using hz
 obtain b1|s1:=h1.bot;obtain b2|s2:=h2.bot;have k2:∀r H',aH H H'->H' r=some (.tup [.int (lo (Oq (xs.map nm) (ys.map nm)) (jk (xs.map nm)*jk (ys.map nm))),.int (hi (Oq (xs.map nm) (ys.map nm)) (jk (xs.map nm)*jk (ys.map nm)))])->Q (.ref r) H':=λr H' s g=>kk r H' s (bW.mk g (Qx b1 b2))
 clear kk;generalize xs.map nm=ns at hp hq hl hz h1 h2 b1 b2 s1 s2 k2;generalize ys.map nm=ms at hp hq hl hz h1 h2 b1 b2 s1 s2 k2;have hb:0 < jk ns*jk ms:=lC b1 b2;exists #[p,ns,M,rfl,hp,hz,h1,λH1 t1=>?_];exists #[q,ms,N,rfl,hq.same t1,(),h2,λH2 t2=>?_];have u2:=t1.trans t2;exists #[p,ns,M,_,rfl,hp.same u2,hz,h1,b1,s1,λr1 H3 n3 t3 g3=>?_];exists #[q,ms,N,_,rfl,(hq.same u2).same t3,(),h2,b2,s2,λr2 H4 n4 t4 g4=>?_];exists #[r1,r2,_,_,rfl,bE.of (t4 _ _ g3),bE.of g4,by simp [ia,hl],λL ts H5 t5 n5 g5 pr=>?_];have lt:=pr.9;have ll:(ia ns (jk ns)).9=ns.9:=by simp [ia]
 have lm:(ia ms (jk ms)).9=ns.9:=by simp [ia,hl]
 rw[AM,af,af,ll,lm] at lt;exists #[#[_,bE.of g5],?_];refine eB (K:=K) (xs:=ts) (λi ys H'=>H'=H5/\ys=((List.zipWith (λx y=>x*y) (ia ns (jk ns)) (ia ms (jk ms))).take i).map V.int) j8 #[rfl,rfl] (λi ys H' _ #[e,_]=>by subst e;exact bE.of g5) ?_ ?_
 ·rintro i x ys H' hx hlen ⟨rfl,rfl⟩;obtain pq|epq|T|rfl|gT:=cF pr hx;obtain t|u|et|eu|rfl:=OV epq;exists iF (show jl _ _ from .inr #[_,_,E7 h1 b1 s1 (av et),E7 h2 b2 s2 (av eu),()]) ?_;have ez:(List.zipWith (λx y=>x*y) (ia ns (jk ns)) (ia ms (jk ms)))[i]?=some (t*u):=by rw[cR,et,eu]
  exact #[rfl,by rw[take_snoc ez];simp]
 ·rintro ys H' hy ⟨rfl,rfl⟩ l hl';exists #[l,List.zipWith (λx y=>x*y) (ia ns (jk ns)) (ia ms (jk ms)),rfl,bE.of (by rw[aG,aF (by rw[cV];lia)]),?_];exists iF (show jl _ _ from .inr #[_,_,s1,s2,()]) ?_;exists #[_,_,rfl,(),(s1.mul s2).mono (),λr H6 t6 g6=>?_];rw[if_neg (),if_neg ()] at g6;exact k2 r H6 ((((u2.trans t3).trans t4).trans t5).trans ((aH.new hl').trans t6)) g6
theorem IC:sC ["grid","row"] 2 xC:=by walk_at "d"
theorem vQ (T:Txt K mg Z):T.lW.o P w base 5 (Dp K):=by
 refine T.lW.F.k IC ?_;walk_at "i";obtain p|q|H0|rows|ys|rfl|hp|hq|hz|hl|hr1|kk:=h;refine #[_,(aB (a8 (bX ["line"] ["row"] [1] (b9 b6) (λ_=>(eH 0)) (λ_=>bZ) (λ_=>(cT (rF T) hr T.jS (cQ b6 c9)))))),?_];walk_at "s"
 try rw[ik]
 obtain xs|gx|qx|_:=id hp;exists #[#[_,bE.of gx],?_];refine dn (K:=K) (F:=cW K H0) (bW K) (λxs=>cA xs ys) gx qx hz (λa b=>a.same b) (λa b=>a.same b) ?_ ?_
 ·rintro i ns x H' NY NN en s ⟨u,rfl,_,hu⟩ k;obtain e1|e2:=hr1 ns (av en);exists #[u,q,ns,ys,rfl,hu,hq.same s,e1.symm,(),e2,λr H2 s2 h2'=>k _ _ s2 h2']
 ·rintro ys' H' r hr s g pr nx;exact kk r H' hr s #[ys',g,pr]
theorem AY:sC ["system","rows"] 2 qV:=by walk_at "d"
theorem vq (T:Txt K mg Z):T.jF.o P w base 6 (Ci K Z.a_System):=by
 refine T.jF.F.k AY ?_;walk_at "i";obtain x|p|H0|H1|mv|pt|lk|R|rfl|S|D|G|l100|wR|hf|k:=h;refine #[_,(aB (a8 (bX ["row"] ["system"] [0] (b9 c9) (λ_=>(eH 0)) (λ_=>bZ) (λ_=>(cT (vQ T) hr T.lW (cQ (DO K c9 rfl) b6)))))),?_];walk_at "s"
 try rw[ik]
 obtain dx|a'|b'|c'|gx|_|_|_|Ga|Gb|Gc:=id S;have d8:=D.n8;obtain xs|gxs|qx|_:=id G;exists #[#[_,bE.of gxs],?_];refine dn (K:=K) (F:=cW K H1) (cW K H) (sG mv) gxs qx () (λa b=>a.same b) (λa b=>a.same b) ?_ ?_
 ·rintro i ns v H' NY NN en s ⟨u,rfl,_,hu⟩ k1;have mn:=av en;exists #[x,Z.a_System,dx,_,_,rfl,s _ _ gx,T.cl_System,T.na_move,zx,?_];exists #[a',u,H0,mv,ns,rfl,Ga.same s,hu,(),by rw[wR ns mn];lia,λxs hx=>#[by rw[D.mw xs hx,wR ns mn],hf xs hx ns mn],λr H2 nr s2 R2=>k1 _ _ s2 #[r,rfl,s.none nr,R2]]
 ·rintro ys H' r hr s g pr nx;exact k r H' hr s #[ys,g,pr,iH nx]
theorem oB:sC ["system","steps","lists","rows"] 2 pE:=by walk_at "d"
theorem ue (T:Txt K mg Z):T.jd.o P w base 7 (Cp K Z.a_System):=by
 refine T.jd.F.k oB ?_;walk_at "i";obtain x|a|c|st|H0|mv|pt|lk|rfl|s1000|S|D|F|k:=h
 refine #[_,(au (eQ 2 oB.nd (dw (dB (dw ir))))
  (au (z9 PassesOwn.never (bf UY (bB be (by rfl) T.len aT (dB dW)) c9 (bu _))
   (au (eQ 3 oB.nd (cT (Ah T) hr T.oI (cQ (bK iU (gN b6 rfl) (cT (vq T) hr T.jF (cQ b6 (aX bC dW (qq lD aj))))) (gN b6 rfl))))
  (au (di (bf dX (bB be (by rfl) T.len aT (dB ic)) (bB be (by rfl) T.len aT (dB (aX bC dW (qq lD aj)))) (bu _)) (aB (a8 dW)) bU)
  (aB (gP (qB cb dk dj iS dW (dB ic)))))))
  (aB (a8 dW)))),?_]
 walk_at "s"
 try rw[ik]
 obtain dx|a'|b'|c'|gx|_|_|_|Ga|Gb|Gc:=id S;have d8:=D.n8;have i4:=D.i4;have lP:=iB (mv:=mv) (pt:=pt) rfl D.pw;exists cO λq0 H1 s1 nq0 g1=>?_
 exists cO λl H2 s2 nl g2=>?_
 have s02:=s1.trans s2;have nl0:H l=none:=s1.none nl;obtain ⟨Hz,eHz⟩:∃Hz,Hz=upd H l (.lst []):=#[_,rfl];have zl:Hz l≠none:=by rw[eHz,aG];exact λz=>nomatch z
 have zn:∀q,Hz q=none->H q=none/\q≠l:=λq h=>by
  have ne:q≠l:=λz=>zl (by rw[<- z];exact h)
  rw[eHz,bo ne] at h;exact #[h,ne]
 have nz:∀q,H q=none->q≠l->Hz q=none:=λq h ne=>by rw[eHz,bo ne];exact h
 clear eHz;have q0l:q0≠l:=λz=>by rw[z,nl] at g1;cases g1
 have G0:bp K Hz H2 q0 []:=#[[],s2 _ _ g1,.nil,λz=>nomatch z];exists Dk (λσ' H'=>aH H H'/\∃Rs R us y,σ'=[some (.ref x),some (.int st),some (.ref l),y]/\H' l=some (.lst us)/\Paired (λR v=>∃q,v=V.ref q/\Hz q=none/\bp K Hz H' q R) (Rs++[R]) us/\uF mv pt (Rs++[R])/\Rs.9<=st) (λ_ H'=>match H' l with | some (.lst us)=>st+1 - us.9 | _=>0) #[s02,[],[],_,_,rfl,g2,.cons #[q0,rfl,nz q0 nq0 q0l,G0] .nil,#[by simp,λt R e=>?_,λt R R' e e'=>?_],br _] ?_
 ·have ht:=(aE.mp e).1;have:t=0:=by simpa using ht
  subst this;cases e;exact #[[],IH]
 ·have ht:=(aE.mp e').1;simp at ht
 rintro σ' Ha ⟨sa,Rs,R,us,y,rfl,gu,pa,Gw,hst⟩;have lu:=pa.9;rw[ar,a9] at lu;have eR:(Rs++[R])[Rs.9]?=some R:=by rw[bc (ak _),gM];rfl
 obtain ps|RR:=Gw.rr _ _ eR;have tn:Rs.9<=mv.9:=by have:=Gw.len _ _ eR;have:=RR.le;have:=RR.1;lia
 have fin:∀(Hx:Hp) (sx:aH Ha Hx) (hh:∀s,(Rs.9=st/\s=st\/Rs.9 < st/\Rs.9<=s)->∃ps,bI (kry mv pt s) mv.9 R ps),Q (.ref l) Hx:=λHx sx hh=>by
  refine k l (Rs++[R]) Hx nl0 (sa.trans sx) #[us,sx _ _ gu,Paired.imp' (λ_ _ #[q,e1,e2,e3]=>#[q,e1,(zn q e2).1,(zn q e2).2,bp.weakN (bp.same e3 sx) λq h=>(zn q h).1]) pa] Gw (by rw[ar,a9];lia) λR2 e2 s hs=>?_
  rw[List.getLast?_concat] at e2;cases e2;rw[ar,a9,Nat.add_sub_cancel] at hs;exact hh s hs
 exists #[_,_,rfl,.inl (bE.of gu),?_];exists dU (λh0=>?_) (λh0=>?_)
 ·have h0:=of_decide_eq_true h0;refine Ri ?_
  obtain ⟨zs,gS⟩:∃zs q,us=zs++[V.ref q]/\Hz q=none/\bp K Hz Ha q R:=by
   obtain ⟨v,ev,q,rfl,e2,e3⟩:∃v,us[Rs.9]?=some v/\∃q,v=V.ref q/\Hz q=none/\bp K Hz Ha q R:=by
    have ev:=ae (show Rs.9 < us.9 by lia);obtain R2|e2|w:=cF pa ev;rw[eR] at e2;cases e2;exact #[_,ev,w]
   refine #[us.take Rs.9,q,?_,e2,e3];rw[<- take_snoc ev,aF ()]
  obtain q|rfl|zq|Gq:=gS;have gxa:=sa _ _ gx;exists #[x,Z.a_System,dx,_,_,rfl,gxa,T.cl_System,T.na_put,yT,?_];exists b8 (bE.of gu) (uE _ _) ?_;have wR:=RR.2.1;have lR:=RR.1;have pn:=RR.le;exists #[x,q,H0,Hz,mv,pt,lk,R,rfl,S.same sa,D,Gq,(),wR,F.fit d8 D.mw D.pw tn RR,λmr Hb nmr sb Gm=>?_];obtain pv|gpv|qpv|_:=Gb.same (sa.trans sb);obtain mvs|gmv|qmv|_:=id Gm;have lpv:=qpv.9;have lmv:=qmv.9;rw[af] at lmv;exists iT gpv gmv j8 λcr Hc sc nc gc=>?_
  have sab:=sa.trans (sb.trans sc);have Gc':bp K (λ_=>none) Hc cr (pt++R.map (sG mv)):=xS (H:=Hb) (bV (Paired.imp' (λ_ _ #[q,e1,e2,e3]=>#[q,e1,rfl,e3]) qpv) (Paired.imp' (λ_ _ #[q,e1,e2,e3]=>#[q,e1,rfl,e3]) qmv)) sc nc gc;exists #[x,Z.a_System,dx,_,_,rfl,sab _ _ gx,T.cl_System,T.na_states,gX,?_];exists #[cr,mv.9,_,_,_,rfl,Gc',by rw[ar,af];lia,(),λxs hx=>?_,F.step d8 D.mw D.pw tn RR,λrr R' ps' M' Hd nrr sd G' RR' pm' _ _ _=>?_]
  ·rcases ay.mp hx with hx | hx
   ·exact D.pw xs hx
   ·obtain y|_|rfl:=aA.mp hx;exact vP
  have sbd:=sb.trans (sc.trans sd);have sad:=sa.trans sbd;have K1:=wI rfl D.mw D.pw RR RR';have gud:=sbd _ _ gu;obtain rv|grv|qrv|_:=id G';have lrv:=qrv.9;have lR':=RR'.1;have pn':=RR'.le;exists #[_,_,rfl,.inl (bE.of grv),?_];exists b8 (bE.of gud) (uE _ _) ?_;obtain ov|gov|qov|_:=Gq.same sbd;have lov:=qov.9;exists #[_,_,rfl,.inl (bE.of gov),?_];exists dU (λh1=>?_) (λh1=>?_)
  ·have h1:=of_decide_eq_true h1;exists fin Hd sbd λs hs=>#[ps,?_]
   obtain ⟨s',rfl⟩:∃s',s=Rs.9+s':=#[s - Rs.9,()];exact CG rfl D.mw D.pw RR RR' () s'
  ·have h1:¬((rv.9:Int)=ov.9):=λz=>h1 (decide_eq_true z)
   have gr:=Gf rfl D.mw D.pw RR K1;have rl:rr≠l:=λz=>by rw[z,(sb.trans sc) _ _ gu] at nrr;cases nrr
   have zc:∀q,Hc q=none->Hz q=none:=λq h=>nz q (sab.none h) (λz=>by rw[z,(sb.trans sc) _ _ gu] at h;cases h)
   exists #[.inl #[rfl,_,bE.of gud],?_];exists lJ gud (cU ()) ?_;refine #[#[sad.after nl0,Rs++[R],R',_,_,rfl,aG,bV (Paired.imp' (λ_ _ #[q,e1,e2,e3]=>#[q,e1,e2,bp.updL (bp.same e3 sbd) gud zl (zn q e2).2]) pa) (.cons #[rr,rfl,zc rr nrr,bp.updL (G'.weakN zc) gud zl rl] .nil),Gw.snoc K1 (),by rw[ar,a9];lia],?_];simp only[gu,aG,ar,a9] at lu h0 ⊢
   lia
 ·have h0:¬((us.9:Int)<=st):=λz=>h0 (decide_eq_true z)
  walk_at "w"
  exact fin Ha (aH.refl _) λs hs=>#[ps,by
   have:s=Rs.9:=()
   rw[this];exact RR]
theorem AW:sC ["system","steps"] 2 qT:=by walk_at "d"
theorem A3 (T:Txt K mg Z):T.mC.o P w base 8 (Cc K Z.a_System):=by
 refine T.mC.F.k AW ?_;walk_at "i";obtain x|a|c|st|H0|mv|pt|lk|rfl|s1000|S|D|F|k:=h;refine #[_,(aB (a8 (aX bC (cT (ue T) hr T.jd (cQ b6 c9)) (qq lD aj)))),?_];walk_at "s"
 try rw[ik]
 exists #[x,a,c,st,H0,mv,pt,lk,rfl,s1000,S,D,F,λr Rs H1 nr s1 #[us,gu,pa] Gw hl hh=>?_];have lu:=pa.9;obtain ⟨Rs',R,rfl⟩:∃Rs' R,Rs=Rs'++[R]:=#[Rs.dropLast,Rs.getLast Gw.ne,(List.dropLast_concat_getLast Gw.ne).symm];rw[ar,a9] at lu hl;have eR:(Rs'++[R])[Rs'.9]?=some R:=by rw[bc (ak _),gM];rfl
 obtain ⟨zs,q,rfl,zq,ql,Gq⟩:∃zs q,us=zs++[V.ref q]/\H q=none/\q≠r/\bp K H H1 q R:=by
  have ev:=ae (show Rs'.9 < us.9 by lia);obtain R2|e2|q|e3|e4|e5|e6:=cF pa ev;rw[eR] at e2;cases e2;rw[e3] at ev;refine #[us.take Rs'.9,q,?_,e4,e5,e6];rw[<- take_snoc ev,aF ()]
 obtain ps|RR:=hh R (by rw[List.getLast?_concat]) st (by rw[ar,a9,Nat.add_sub_cancel];lia);exists b8 (bE.of gu) (uE _ _) ?_;exact k q R ps H1 zq s1 Gq RR
theorem FD:sC ["many","at"] 2 vE:=by walk_at "d"
theorem FU (T:Txt K mg Z):T.oY.o P w base 1 (Fe K):=by
 refine T.oY.F.k FD ?_;walk_at "i";obtain m|a'|rfl|hm|k:=h;refine #[_,(aB (a8 (bX ["place"] ["at"] [1] (cE rfl T.range (dB b6)) (λ_=>(eH 0)) (λ_=>bZ) (λ_=>(FT (bf dX b6 c9 (bu _)) (jJ (v:=.ref Z.a_ONE) rfl T.mg_ONE rfl) (jJ (v:=.ref Z.a_NOUGHT) rfl T.mg_NOUGHT rfl)))))),?_];walk_at "s"
 try rw[ik]
 exists #[(),(),?_];refine fD (n:=m) (bW K) (λi=>if ((i:Nat):Int)=a' then 1 else 0) hm (λa b=>a.same b) ?_ ?_
 ·rintro i H' NY NN hi s k1;exists dU (λh0=>?_) (λh0=>?_)
  ·exists k1 _ _ (aH.refl _) (by rw[if_pos (of_decide_eq_true h0)];exact #[_,rfl,T.sq_ONE _])
  ·exists k1 _ _ (aH.refl _) (by rw[if_neg (λz=>h0 (decide_eq_true z))];exact #[_,rfl,T.sq_NOUGHT _])
 ·rintro ys H' l hl s g pr nx;exact k l _ hl s #[ys,g,pr]
theorem xn:sC ["row"] 1 nk:=by walk_at "d"
theorem xN (T:Txt K mg Z):T.js.o P w base 1 (Fp K):=by
 refine T.js.F.k xn ?_;walk_at "i";obtain p|xs|j|rfl|R|x1000|hj|hne|hz|k:=h;refine #[_,(aB (a8 (bB (C0 rfl) (by rfl) T.min PyProof.Rows.boot_min (dB (bX ["place","value"] [] [] (DN rfl T.enumerate (dB b6)) (λ_=>(oV K 2 (cM (eH 0) (cM (eH 1) ij)))) (λ_=>IP (bf (Ki K (by rfl) (yG hr)) c9 (jJ (v:=.ref Z.a_NOUGHT) rfl T.mg_NOUGHT rfl) (bu _))) (λ_=>b6)))))),?_];walk_at "s"
 try rw[ik]
 obtain zs|gz|qz:=id R;have lz:=qz.9;exists #[#[_,bE.of gz],?_];refine CV (K:=K) (xs:=zs) (λi ys H'=>aH H H'/\ys=d5 (Cy xs i)) j8 #[aH.refl _,rfl] (λi ys H' _ #[s,_]=>bE.of (s _ _ gz)) ?_ ?_
 ·rintro i v ys H' r hx hlen ⟨s',rfl⟩ hr;obtain y|ey|ny:=cF qz hx;have ey':xs.getD i 0=y:=by rw[aa,ey];rfl
  have sr:aH H' (upd H' r (.tup [.int i,v])):=aH.new hr;have gr:(upd H' r (.tup [.int i,v])) r=some (.tup [.int i,v]):=aG;generalize upd H' r (.tup [.int i,v])=H2 at sr gr ⊢;exists #[_,_,Gh,y,0,(),(ny.same s').same sr,#[_,rfl,T.sq_NOUGHT _],?_];by_cases e:y=0
  ·rw[decide_eq_true e];exists #[s'.trans sr,?_];rw[yV,ey',if_neg (by simpa using e)]
  ·rw[decide_eq_false e];exists #[s'.trans sr,?_];rw[yV,ey',if_pos e];unfold d5;rw[bR];rfl
 ·rintro ys H1 hy ⟨s1,rfl⟩ l hl;have sn:aH H1 (upd H1 l (.lst (d5 (Cy xs zs.9)))):=aH.new hl;have gn:(upd H1 l (.lst (d5 (Cy xs zs.9)))) l=some (.lst (d5 (Cy xs zs.9))):=aG;generalize upd H1 l (.lst (d5 (Cy xs zs.9)))=H2 at sn gn ⊢
  have mj:j∈Cy xs zs.9:=by
   unfold Cy;exact j7.mpr #[kZ.mpr (),by simpa using hne]
  exists #[l,CJ (Cy xs zs.9),rfl,bE.of (by rw[<- CB];exact gn),?_,λM hM hle=>?_]
  ·unfold CJ;rw[af];exact List.length_pos_of_mem mj
  ·obtain c|hc|rfl:=aA.mp hM;have h1:=hle j (aA.mpr #[j,mj,rfl]);have h2:=(j7.mp hc).2
   have e:c=j:=by
    rcases fF c j with z | z | z
    ·exact absurd (hz c z) (of_decide_eq_true h2)
    ·exact z
    ·lia
   rw[e];exact k _ (s1.trans sn)
theorem IA:sC ["rows"] 1 xy:=by walk_at "d"
theorem Ai (T:Txt K mg Z):T.oJ.o P w base 2 (Fq K):=by
 refine T.oJ.F.k IA ?_;walk_at "i";obtain p|n|H0|R|ps|rfl|G|r100|n100|⟨rows,RR⟩|k:=h;refine #[_,(aB (a8 (bX ["row"] [] [] (b9 b6) (λ_=>(eH 0)) (λ_=>bZ) (λ_=>(cT (xN T) hr T.js (dB b6)))))),?_];walk_at "s"
 try rw[ik]
 obtain lR|wR|rr:=id RR;obtain xs|gx|qx|_:=id G;have lx:=qx.9;exists #[#[_,bE.of gx],?_];refine eB (K:=K) (xs:=xs) (λi ys H'=>aH H H'/\ys=d5 (ps.take i)) j8 #[aH.refl _,rfl] (λi ys H' _ #[s,_]=>bE.of (s _ _ gx)) ?_ ?_
 ·rintro i v ys H' hx hlen ⟨s',rfl⟩;obtain row|er|q|rfl|_|Rr:=cF qx hx;have wr:=wR row (av er);have hi:i < ps.9:=by have:=(aE.mp er).1;lia
  have ef:∀c,ck R i c=row.getD c 0:=λc=>by unfold ck;rw[aa (l:=R),er];rfl
  have ep:ps[i]?=some (ps.getD i 0):=by rw[aa,ae hi];rfl
  have lowp:=rr.low i hi;have u:=rr.unit i hi i hi;rw[if_pos rfl,ef] at u;exists #[q,row,ps.getD i 0,rfl,Rr.same s',(),(),by rw[u];decide,λc hc=>by rw[<- ef];exact rr.lead i hi c hc,λH2 s2=>?_];refine #[s'.trans s2,?_];unfold d5;rw[take_snoc ep,bR];rfl
 ·rintro ys H1 hy ⟨s1,rfl⟩ r hr;refine k r _ (s1.none hr) (s1.trans (aH.new hr)) ?_;rw[aG,aF ()]
theorem MT:sC ["one","other"] 2 DK:=by walk_at "d"
theorem FW (T:Txt K mg Z):T.uq.o P w base 3 (sV K (λx y=>x - y)):=by
 refine T.uq.F.ok MT (λvs H Q E h=>?_) (λcdv A outer s H vs Q E hr h=>?_)
 ·obtain p|q|a|b|c|d|rfl|hp|hq|hb|hd|sa|sb|sc|sd|k:=J5 h;rfl
 ·obtain p|q|a|b|c|d|rfl|hp|hq|hb|hd|sa|sb|sc|sd|k:=J5 h;refine #[_,(aB (a8 (cT (uO T) hr T.lV (cQ (bK kx (bK dQ (aX bS b6 aj) (aX bS c9 aj)) (bK dQ (aX bS c9 aj) (aX bS b6 aj))) (bK dQ (aX bS b6 aj) (aX bS c9 aj)))))),?_];refine tU (σ:=[some (.ref p),some (.ref q)]) rfl ?_
  try rw[ik]
  have hbd:0 < b*d:=lC hb hd;have sbd:Sz 8999 (b*d):=(sb.mul sd).mono ();exists iF (show jl _ _ from .inr #[_,_,sa,sd,()]) ?_;exists iF (show jl _ _ from .inr #[_,_,sc,sb,()]) ?_;exists iF (show jl _ _ from .inr #[_,_,sb,sd,()]) ?_;walk_at "w";exists #[_,_,rfl,(),sbd,λr H' s' h'=>?_];rw[if_neg (),if_neg ()] at h';exact k r H' s' h'
theorem qP:sC ["rows","wide","at","answer","lead","row"] 3 xx:=by walk_at "d"
theorem IX (T:Txt K mg Z):T.rN.o P w base 4 (Cg K):=by
 refine T.rN.F.k qP ?_;walk_at "i";obtain p|n|a|H0|R|ps|rfl|G|r100|n100|⟨rows,RR⟩|ha|hp|hz|k:=h
 refine #[_,(au (eQ 3 qP.nd (cT (FU T) hr T.oY (cQ c9 dW)))
  (au (eO PassesOwn.never rfl (rz rfl T.zip (cQ (cT (Ai T) hr T.oJ (dB b6)) b6)) (rA rfl (cM (eH 4 qP.nd) (cM (eH 5 qP.nd) ij)))
   (aB (eP (cT (FW T) hr T.uq (cQ (jJ (v:=.ref Z.a_NOUGHT) rfl T.mg_NOUGHT rfl) (aX bC pU dW))) (fR ic kU set_list))))
  (aB (a8 ic)))),?_]
 walk_at "s"
 try rw[ik]
 obtain lR|wR|rr:=id RR;exists #[n,a,rfl,(),λan H1 na s1 R1=>?_];rw[<- Qq (R:=R) (ps:=ps)] at R1;obtain vs0|g0|q0:=id R1;exists #[p,n,H0,R,ps,rfl,G.same s1,r100,n100,#[rows,RR],λle H2 nl s2 g2=>?_];have anl:le≠an:=λz=>by rw[z,g0] at nl;cases nl
 obtain rs|grs|qrs|_:=id G;have lrs:=qrs.9;have lps:=wD (ps:=ps);exists #[#[_,bE.of g2],#[_,bE.of ((s1.trans s2) _ _ grs)],?_];refine Kx (K:=K) (xs:=d5 ps) (ws:=rs) (λj σ' H'=>aH H H'/\H' le=some (.lst (d5 ps))/\∃y1 y2 vs,σ'=[some (.ref p),some (.int n),some (.int a),some (.ref an),y1,y2]/\H' an=some (.lst vs)/\Paired (bW K H') (Kl R ps n a j) vs) () #[s1.trans s2,g2,_,_,vs0,rfl,s2 _ _ g0,Paired.imp' (λ_ _ z=>bW.same z s2) q0] (λj σ' H' _ #[e,e2,_]=>#[bE.of e2,bE.of (e _ _ grs)]) ?_ ?_
 ·rintro j v1 v2 σ' H' r h1 h2 ⟨s',gl,y1,y2,vs,rfl,ga,qa⟩ hr;obtain row|er|q|rfl|_|Rr:=cF qrs h2;have mr:=av er;have wr:=wR row mr;obtain pj|ej|rfl:=D6 h1;have hj:j < ps.9:=(aE.mp ej).1;have ejD:ps.getD j 0=pj:=by rw[aa,ej];rfl
  have pjn:pj < n:=by have:=rr.low j hj;rw[ejD] at this;exact this
  have fr:ck R j a=row.getD a 0:=by unfold ck;rw[aa (l:=R),er];rfl
  have sr:aH H' (upd H' r (.tup [.int pj,.ref q])):=aH.new hr;have gr:(upd H' r (.tup [.int pj,.ref q])) r=some (.tup [.int pj,.ref q]):=aG;generalize upd H' r (.tup [.int pj,.ref q])=H3 at sr gr ⊢;have s03:=s'.trans sr;obtain us|gu|qu:=Rr.same s03;obtain vx|ex|nx:=Lx qu (j:=a) ();exists b8 (bE.of gu) ex ?_;exists #[_,_,0,row.getD a 0,rfl,#[_,rfl,T.sq_NOUGHT _],nx,MH,hz row mr _ (getD_in ()),λr4 H4 s4 n4=>?_];have ga4:=(sr.trans s4) _ _ ga;have gl4:=(sr.trans s4) _ _ gl;have la:=qa.9;rw[pX] at la;exists eC ga4 (eK ()) rfl ?_;refine #[(s03.trans s4).after na,by rw[bo anl];exact gl4,_,_,_,rfl,aG,?_];rw[<- Qr RR hj hp,ejD,fr,show -(row.getD a 0)=0 - row.getD a 0 by grind];exact jQ (Paired.imp' (λ_ _ z=>(bW.same z (sr.trans s4)).updL ga4) qa) pj (n4.updL ga4)
 ·rintro σ' H' ⟨s',gl,y1,y2,vs,rfl,ga,qa⟩;rw[lps] at qa;exists k an H' na s' #[vs,ga,qa]
theorem sX:sC ["rows","wide","leads"] 2 pJ:=by walk_at "d"
theorem ui (T:Txt K mg Z):T.jf.o P w base 3 (Fv K):=by
 refine T.jf.F.k sX ?_;walk_at "i";obtain p|n|H0|R|ps|rfl|G|r100|n100|RR|k:=h
 refine #[_,(au (eQ 2 sX.nd (cT (Ai T) hr T.oJ (dB b6)))
  (aB (a8 (bX ["place"] ["leads"] [2] (cE rfl T.range (dB c9)) (λ_=>(eH 0)) (λ_=>IP (bf (A0 K (by rfl)) b6 c9 (by with_unfolding_all rfl))) (λ_=>b6))))),?_]
 walk_at "s"
 try rw[ik]
 exists #[p,n,H0,R,ps,rfl,G,r100,n100,RR,λl H1 nl s1 g1=>?_];exists #[(),(),?_];refine rW (n:=n) (λi ys H'=>aH H1 H'/\ys=d5 (kN ps i)) j8 #[aH.refl _,rfl] ?_ ?_
 ·rintro i ys H' hi hlen ⟨s',rfl⟩;rw[zi];exists #[l,d5 ps,rfl,.inl (bE.of (s' _ _ g1)),rfl,CC,?_];rw[Gi];by_cases e:i∈ps
  ·rw[decide_eq_true e];exists #[s',?_];rw[Ax,if_neg (by simpa using e)]
  ·rw[decide_eq_false e,show (if true=true then !false else false)=true from rfl];exists #[s',?_];rw[Ax,if_pos e];unfold d5;rw[bR];rfl
 ·rintro ys H2 hy ⟨s2,rfl⟩ r hr;exact k r _ (s1.none (s2.none hr)) ((s1.trans s2).trans (aH.new hr)) aG
theorem FE:sC ["rows","wide","basis"] 2 DJ:=by walk_at "d"
theorem Ny (T:Txt K mg Z):T.wG.o P w base 6 (Cf K):=by
 refine T.wG.F.k FE ?_;walk_at "i";obtain p|n|w|H0|rows|R|ps|rfl|G|r100|n100|RR|F|szR|k:=h
 refine #[_,(au (eQ 2 FE.nd (cT (Ah T) hr T.oI (cQ b6 c9)))
  (aB (a8 (bX ["at"] ["basis","wide"] [2,1] (b9 (cT (ui T) hr T.jf (cQ dW c9))) (λ_=>(eH 0)) (λ_=>bZ) (λ_=>(cT (IX T) hr T.rN (rB c9 dW b6))))))),?_]
 walk_at "s"
 try rw[ik]
 exists #[p,n,w,H0,R,rfl,G,r100,n100,RR.2.1,F,λba R2 ps2 M H1 nb s1 G1 RR2 pm M0 M1 tM=>?_];obtain rfl|rfl:=RR2.same (v8 RR);have pn:=RR.le;have lR:=RR.1;have fl:=Jr (ps:=ps2) (i:=n);exists #[ba,n,H,R2,ps2,rfl,G1,(),(),#[rows,RR],λfr H2 nf s2 g2=>?_];exists #[#[_,bE.of g2],?_];refine eB (K:=K) (xs:=d5 (kN ps2 n)) (λi ys H'=>aH H2 H'/\Paired (cW K H H') ((kN ps2 n).take i |>.map (Kk R2 ps2 n)) ys) (cC (cU (by rw[wD];lia))) ⟨aH.refl _,.nil⟩ (λi ys H' _ ⟨s,_⟩=>bE.of (s _ _ g2)) ?_ ?_
 ·rintro i v ys H' hx hlen ⟨s',pr⟩;obtain a|ea|rfl:=D6 hx;obtain an|ap:=uV.mp (av ea);have s02:=(s1.trans s2).trans s';exists #[ba,n,a,H,R2,ps2,rfl,(G1.same s2).same s',(),(),#[rows,RR],an,ap,szR,λr H3 nr s3 R3=>?_];refine #[s'.trans s3,?_];rw[take_snoc ea,bR];exact bV (Paired.imp' (λ_ _ z=>cW.same z s3) pr) (.cons #[r,rfl,s02.none nr,R3] .nil)
 ·rintro ys H3 hy ⟨s3,pr⟩ r hr;rw[aF (by rw[wD];exact ak _)] at pr;have sn:aH H3 (upd H3 r (.lst ys)):=aH.new hr;have s03:=(s1.trans s2).trans s3;exact k r _ (s03.none hr) (s03.trans sn) #[ys,aG,Paired.imp' (λ_ _ z=>cW.same z sn) pr,iH (H0:=H) (rows:=aU R2 ps2 n) #[H3,hr,pr]]
theorem zP:sC ["grid","wide"] 2 pH:=by walk_at "d"
theorem ky (T:Txt K mg Z):T.gI.o P w base 1 (Ff K):=by
 refine T.gI.F.k zP ?_;walk_at "i";obtain p|w|H0|rows|rfl|hp|hz|hw|hl|kk:=h;refine #[_,(aB (a8 (bX ["place"] ["grid"] [0] (cE rfl T.range (dB c9)) (λ_=>(eH 0)) (λ_=>bZ) (λ_=>(bX ["line"] ["place"] [0] (wg K c9) (λ_=>(eH 0)) (λ_=>bZ) (λ_=>(aX (kL K (by rfl)) b6 c9))))))),?_];walk_at "s"
 try rw[ik]
 exists #[(),(),?_];refine fD (n:=w) (cW K H) (λj=>rows.map λxs=>xs.getD j 0) hw (λa b=>a.same b) ?_ ?_
 ·rintro j H1 NY NN hj s1 k1;obtain xs|gx|qx|_:=hp.same s1;exists #[#[_,bE.of gx],?_];refine dn (K:=K) (F:=cW K H0) (bW K) (λxs=>xs.getD j 0) gx qx hz (λa b=>a.same b) (λa b=>a.same b) ?_ ?_
  ·rintro i ns x H2 NY2 NN2 en s2 ⟨u,rfl,_,zs,gz,qz⟩ k2;obtain v|ev|hv:=Lx qz (j:=j) (by rw[hl ns (av en)];exact hj);exists b8 (bE.of gz) ev ?_;exact k2 _ _ (aH.refl _) hv
  ·rintro ys' H2 r hr s2 g pr nx;exact k1 _ _ s2 #[r,rfl,s1.none hr,ys',g,pr]
 ·rintro ys' H1 r hr s1 g pr nx;exact kk r H1 hr s1 #[ys',g,pr,iH nx]
theorem ve:sC ["one","other","wide","columns"] 3 qW:=by walk_at "d"
theorem vv (T:Txt K mg Z):T.jG.o P w base 6 (zH K):=by
 refine T.jG.F.k ve ?_;walk_at "i";obtain p|q|w|H0|H1|one|other|rfl|hp|hq|z1|z2|hw|h1|h2|kk:=h
 refine #[_,(au (eQ 3 ve.nd (cT (ky T) hr T.gI (cQ c9 dW)))
  (aB (a8 (bX ["line"] ["columns"] [3] (b9 b6) (λ_=>(eH 0)) (λ_=>bZ) (λ_=>(cT (vQ T) hr T.lW (cQ c9 b6))))))),?_]
 walk_at "s"
 try rw[ik]
 exists #[q,w,H1,other,rfl,hq,z2,hw,h2,λc H2 nc s2 hc=>?_];obtain xs|gx|qx|_:=hp.same s2;exists #[#[_,bE.of gx],?_];refine dn (K:=K) (F:=cW K H0) (cW K H) (λxs=>(cu other w).map λys=>cA ys xs) gx qx z1 (λa b=>a.same b) (λa b=>a.same b) ?_ ?_
 ·rintro i ns x H3 NY NN en s3 ⟨u,rfl,_,hu⟩ k;obtain e1|e2:=h1 ns (av en);exists #[c,u,H,cu other w,ns,rfl,hc.same s3,hu,by simp [cu];lia,(),λys hy=>#[?_,e2 ys hy],λr H4 nr s4 hr=>k _ _ s4 #[r,rfl,s2.none (s3.none nr),hr]];obtain j|_|rfl:=aA.mp hy;rw[af];exact e1.symm
 ·rintro ys' H3 r hr s3 g pr nx;exact kk r H3 (s2.none hr) (s2.trans s3) #[ys',g,pr,iH nx]
theorem AV:sC ["system","rows"] 2 qS:=by walk_at "d"
theorem vp (T:Txt K mg Z):T.jE.o P w base 7 (zA K Z.a_System):=by
 refine T.jE.F.k AV ?_;walk_at "i";obtain x|p|H0|H1|mv|pt|lk|N|rfl|S|D|GN|n100|hN|k:=h;refine #[_,(aB (a8 (cT (vv T) hr T.jG (rB c9 (gN b6 rfl) (gN b6 rfl))))),?_];walk_at "s"
 try rw[ik]
 obtain dx|am|ap|al|gx|_|_|_|Gm|_|_:=id S;have d1:=D.n8;exists #[x,Z.a_System,dx,_,_,rfl,gx,T.cl_System,T.na_move,zx,?_];exists #[x,Z.a_System,dx,_,_,rfl,gx,T.cl_System,T.na_states,gX,?_];exists #[p,am,mv.9,H1,H0,N,mv,rfl,GN,Gm,(),(),(),hN,D.mw,k]
theorem nN:sC ["system","reach","rows","places"] 1 td:=by walk_at "d"
theorem wo (T:Txt K mg Z):T.kE.o P w base 9 (BV K Z.a_System):=by
 refine T.kE.F.k nN ?_;walk_at "i";obtain x|a|c|H0|mv|pt|lk|rfl|S|D|KF|k:=h
 refine #[_,(au (eQ 1 nN.nd (cT (A3 T) hr T.mC (cQ b6 (gN b6 rfl))))
  (au (eQ 2 nN.nd (cT (Ny T) hr T.wG (cQ c9 (gN b6 rfl))))
  (au (eQ 3 nN.nd (cT (ui T) hr T.jf (cQ c9 (gN b6 rfl))))
  (aB (a8 (cD (cQ dW (bX ["row"] ["places"] [3] (b9 (cT (vp T) hr T.jE (cQ b6 dW))) (λ_=>(eH 0)) (λ_=>bZ) (λ_=>(bX ["place"] ["row"] [0] (wg K c9) (λ_=>(eH 0)) (λ_=>bZ) (λ_=>(aX (kL K (by rfl)) c9 b6)))))))))))),?_]
 walk_at "s"
 try rw[ik]
 obtain dx|am|ap|al|gx|_|_|_|Gm|_|_:=id S;have d1:=D.n8;exists #[x,Z.a_System,dx,_,_,rfl,gx,T.cl_System,T.na_states,gX,?_];exists #[x,a,c,mv.9,H0,mv,pt,lk,rfl,(),S,D,KF,λrr R ps H1 nr s1 G1 RR=>?_];obtain Mq|q0|q1|tR:=KF.tp d1 D.mw D.pw (ak _) RR;obtain Mk|Vk|k0|ka|kc|gm|gp|a4|c4|k17|k89:=id KF;have e17:(2:Nat)^(mv.9*(mv.9*(a+c)+4))<=2^1740:=ai () k17;have pn:=RR.le;have lR:=RR.1
 have SR:C6 R mv.9 (mv.9*(mv.9*(a+c)+4)):=Sa q0 (ag q1 (ai () ())) () tR (m:=mv.9) () () (by
  refine ag (aO _ ?_) k89
  lia)
 have szR:∀xs∈R,∀x∈xs,mU x:=λxs hx x hx'=>sS (tR xs hx x hx') q0 (ag q1 (ag e17 (ai () ()))) (ag e17 (ai () ()))
 have gx1:=s1 _ _ gx;exists #[x,Z.a_System,dx,_,_,rfl,gx1,T.cl_System,T.na_states,gX,?_];exists #[rr,mv.9,_,H,_,R,ps,rfl,G1,(),(),RR,SR,szR,λnn H2 nn0 s2 G2=>?_];have s12:=s1.trans s2;have gx2:=s12 _ _ gx
 have lN:(aU R ps mv.9).9<=mv.9:=by
  have e:(aU R ps mv.9).9=(kN ps mv.9).9:=af ..;rw[e];exact Jr
 have fl:=Jr (ps:=ps) (i:=mv.9);exists #[x,Z.a_System,dx,_,_,rfl,gx2,T.cl_System,T.na_states,gX,?_];exists #[rr,mv.9,H,R,ps,rfl,G1.same s2,(),(),#[_,RR],λfr H3 nf s3 g3=>?_];have s13:=s12.trans s3;exists #[x,nn,H0,H1,mv,pt,lk,aU R ps mv.9,rfl,S.same s13,D,G2.same s3,(),λxs hx=>#[oX xs hx,λys hy=>?_],λtk H4 nt s4 G4=>?_]
 ·obtain b|h1|h2|rfl:=qC hx;refine #[400,40,1740,1740,#[Mk,Vk,k0,ag ka (ai () a4),?_,λy hy'=>yR gm ys hy y hy'],#[Mq,2^1740,q0,ag q1 e17,ak _,λy hy'=>((Rp q0 q1 tR RR y hy').mono e17).fr q0],()];exact ag (ag (b7 _ ()) kc) (ai () c4)
 have s14:=s13.trans s4;obtain ts|gt|qt|_:=id G4;have lt:=qt.9;have lT:(dJ (aU R ps mv.9) mv mv.9).9=(aU R ps mv.9).9:=af ..
 have wT:∀xs∈dJ (aU R ps mv.9) mv mv.9,xs.9=mv.9:=λxs hx=>by
  obtain z|_|rfl:=aA.mp hx;rw[af,dC]
 have g4f:=s4 _ _ g3;exists #[#[_,bE.of gt],?_];refine dn (K:=K) (as:=dJ (aU R ps mv.9) mv mv.9) (F:=cW K H3) (cW K H2) (λrow=>(kN ps mv.9).map λpl=>row.getD pl 0) gt qt () (λa b=>a.same b) (λa b=>a.same b) ?_ ?_
 ·rintro i row v H5 NY NN er s5 ⟨u,rfl,_,Ru⟩ k1;have lr:=wT row (av er);have g5f:=s5 _ _ g4f;exists #[#[_,bE.of g5f],?_];refine dn (K:=K) (as:=kN ps mv.9) (F:=λ_ j x=>x=V.int ((j:Nat):Int)) (bW K) (λpl=>row.getD pl 0) g5f yn () (λh _=>h) (λh s=>h.same s) ?_ ?_
  ·rintro j pl w H6 NY6 NN6 ej s6 rfl k6;have hp:=(uV.mp (av ej)).1;obtain zs|gz|qz:=Ru.same s6;obtain vx|ex|nx:=Lx qz (j:=pl) ();exists b8 (bE.of gz) ex ?_;exact k6 _ _ (aH.refl _) nx
  rintro ys6 H6 l6 hl6 s6 g6 pr6 _;exact k1 _ _ s6 #[l6,rfl,(s3.trans s4).none (s5.none hl6),#[ys6,g6,pr6]]
 rintro ys5 H5 q5 n5 s5 g5 pr5 nx5;have GU:bp K H2 H5 q5 (nM mv R ps):=#[ys5,g5,pr5,iH nx5];exists bF λt6 H6 s6 g6=>?_
 exact k t6 nn q5 R ps H2 H6 g6 s12 (((s3.trans s4).trans s5).trans s6) (s1.none nn0) (G2.weak s1) ((s3.trans s4).none n5) (GU.same s6) RR
theorem gH:sC ["_law_bag_here","_law_rows","_law_weights","_law_n","_law_way","_law_k","_law_at"] 4 pO:=by walk_at "d"
theorem uj (T:Txt K mg Z):T.jg.o P w base 3 (yi K):=by
 refine T.jg.F.k gH ?_;walk_at "i";obtain bg|p|q|m|H0|n|a|b|c|d|rfl|B|nb|⟨rows,wts,p0,q0,GR,GW,PF,lm,lw,wm⟩|m1|m8|nn1|n8|ab|cd|wn|k:=h
 refine #[_,(au (iY 1 ["_law_row_here"] [] [] gH.nd rfl rfl (b9 c9) (λ_=>(eH 0)) (λ_=>bZ) (λ_=>(dI (dO K (by rfl)) (by rfl) T.list PyProof.Rows.boot_list (dB b6))))
  (au (iY 2 ["_law_some"] [] [] gH.nd rfl rfl (b9 dW) (λ_=>(eH 0)) (λ_=>bZ) (λ_=>(dI (dO K (by rfl)) (by rfl) T.list PyProof.Rows.boot_list (dB b6))))
  (au (eQ 4 gH.nd (cT (aZ T) hr T.aR (cQ b6 aj)))
  (au (eQ 5 gH.nd (cT (aZ T) hr T.aR (cQ b6 (bB be (by rfl) T.len aT (dB c9)))))
  (au (di (bf dX kU aj (bu _)) (au (eQ 6 gH.nd (cT (aZ T) hr T.aR (cQ b6 ic)))
  (aB (eP (cT (jc T) hr T.fY (cQ (aX bC (aX bC c9 pU) oQ) (cD (cQ aj (bK fo aj (cT (aZ T) hr T.aR (cQ b6 aj))))))) (fR (aX bC c9 pU) oQ set_list)))) bU)
  (au (di (bf dX kU aj (bu _)) (au (eQ 6 gH.nd (cT (aZ T) hr T.aR (cQ b6 (bB be (by rfl) T.len aT (dB c9)))))
  (aB (eP (cT (jc T) hr T.fY (cQ (aX bC (aX bC dW pU) oQ) (cD (cQ aj (bK fo aj (cT (aZ T) hr T.aR (cQ b6 aj))))))) (fR (aX bC dW pU) oQ set_list)))) bU)
  (au (di (bf dX kU aj (bu _)) (aB (gP (qB cb AQ AO F4 c9 (dB pU)))) bU)
  (au (di (bf dX kU aj (bu _)) (aB (gP (S3 cb AQ AO Ta (aX bC dW pU)))) bU)
  (au (di (bf dX kU aj (bu _)) (aB (gP (qB cb dk dj iS (aX bC dW pU) (dB (cD (cQ aj aj)))))) bU)
  (au (di (bf dX kU aj (bu _)) (aB (gP (qB cb dk dj iS dW (dB (bX ["_law_row_here"] [] [] (b9 c9) (λ_=>(eH 0)) (λ_=>bZ) (λ_=>(cD (cQ aj aj)))))))) bU)
  (au (di (bf dX kU aj (bu _)) (aB (gP (qB cb AQ AO F4 dW (dB pU)))) bU)
  (aB (a8 (cD (cQ c9 dW))))))))))))))),?_]
 walk_at "s"
 try rw[ik]
 obtain rs|gr|qr|_:=id GR;obtain us|gw|qw|_:=id GW;have lr:=qr.9;have lus:=qw.9;obtain M|M0|M1|fM:=PF.fr;obtain N|N0|N1|fN:=PF.fw;exists #[#[_,bE.of gr],?_];refine dn (K:=K) (as:=rows) (F:=cW K H0) (cW K H) (λxs=>xs) gr (Paired.imp' (λ_ _ y=>cW.same y (aH.refl H)) qr) () (λh s=>h.same s) (λh s=>h.same s) ?_ ?_
 ·rintro i xs x H9 NY NN ex s9 ⟨u,rfl,_,zs,gz,qz⟩ k1;exists #[u,zs,rfl,.inl (bE.of gz),λl hl=>?_];exact k1 _ _ (aH.new hl) #[l,rfl,s9.none hl,zs,aG,Paired.imp' (λ_ _ y=>bW.same y (aH.new hl)) qz]
 rintro us1 H1 p1 n1 s1 g1 pr1 nx1;rw[vd] at pr1 nx1;exists #[#[_,bE.of (s1 _ _ gw)],?_];refine dn (K:=K) (as:=wts) (F:=cW K H0) (cW K H1) (λxs=>xs) (s1 _ _ gw) (Paired.imp' (λ_ _ y=>cW.same y s1) qw) () (λh s=>h.same s) (λh s=>h.same s) ?_ ?_
 ·rintro i xs x H9 NY NN ex s9 ⟨u,rfl,_,zs,gz,qz⟩ k1;exists #[u,zs,rfl,.inl (bE.of gz),λl hl=>?_];exact k1 _ _ (aH.new hl) #[l,rfl,s9.none hl,zs,aG,Paired.imp' (λ_ _ y=>bW.same y (aH.new hl)) qz]
 rintro vs1 H2 q1 n2 s2 g2 pr2 nx2;rw[vd] at pr2 nx2
 
 have s02:=s1.trans s2;have lu1:=pr1.9;have lv1:=pr2.9;have B2:=B.same s02;have p1q:q1≠p1:=λe=>by rw[<- e,n2] at g1;cases g1
 have p1H:H p1=none:=n1;have q1H:H q1=none:=s1.none n2;have bH:=B.at;have p1b:p1≠bg:=λe=>bH (by rw[<- e];exact p1H)
 have q1b:q1≠bg:=λe=>bH (by rw[<- e];exact q1H)
 obtain ⟨A1,eA1⟩:∃A:Addr->Prop,A=λq=>H q=none/\V.ref q∈us1/\q≠p1/\q≠q1:=#[_,rfl]
 obtain ⟨A2,eA2⟩:∃A:Addr->Prop,A=λq=>H q=none/\V.ref q∉us1/\q≠p1/\q≠q1:=#[_,rfl]
 have X:∀u∈us1,jU K A1 H2 (λk=>k=n) (Fr M (2^b)) u:=λu hu=>by
  obtain xs|hm|q|e|zq|R:=cZ pr1 hu;subst e;obtain zs|gz|_:=id R;exact #[q,xs,rfl,by rw[eA1];exact #[zq,hu,λe=>iH nx1 (by rw[<- e];exact hu),λe=>by rw[e,n2] at gz;cases gz],R.same s2,PF.rn xs hm,fM xs hm]
 have Y:∀u∈vs1,jU K A2 H2 (λk=>k=m) (Fr N (2^d)) u:=λu hu=>by
  obtain xs|hm|q|e|zq|R:=cZ pr2 hu;subst e
  have hne:V.ref q∉us1:=λh=>by
   obtain _|_|q'|e'|_|⟨zs',gz',_⟩:=cZ pr1 h;cases e';rw[zq] at gz';cases gz'
  exact #[q,xs,rfl,by rw[eA2];exact #[s1.none zq,hne,(λe=>by rw[e,g1] at zq;cases zq),λe=>iH nx2 (by rw[<- e];exact hu)],R,wm xs hm,fN xs hm]
 have gp2:=s2 _ _ g1;clear pr1 pr2 nx1 nx2 g1 qr qw gr gw GR GW;have b1:¬A1 bg:=λh=>bH (by rw[eA1] at h;exact h.1)
 have b2:¬A2 bg:=λh=>bH (by rw[eA2] at h;exact h.1)
 have i12:∀{q},A2 q->¬A1 q:=λh h'=>by rw[eA1] at h';rw[eA2] at h;exact h.2.1 h'.2.1
 have i21:∀{q},A1 q->¬A2 q:=λh h'=>i12 h' h
 have a1f:∀{q},A1 q->H q=none/\q≠p1/\q≠q1:=λh=>by rw[eA1] at h;exact #[h.1,h.2.2]
 have a2f:∀{q},A2 q->H q=none/\q≠p1/\q≠q1:=λh=>by rw[eA2] at h;exact #[h.1,h.2.2]
 have a2n:∀{q},H q=none->V.ref q∉us1->q≠p1->q≠q1->A2 q:=λh1 h2 h3 h4=>by rw[eA2];exact #[h1,h2,h3,h4]
 have nA1:¬A1 p1/\¬A1 q1/\¬A2 p1/\¬A2 q1:=#[λh=>(a1f h).2.1 rfl,λh=>(a1f h).2.2 rfl,λh=>(a2f h).2.1 rfl,λh=>(a2f h).2.2 rfl];clear eA1 eA2;have upX:∀y,Fr M (2^b) y->Fr (6*M) (2^(b+2)) y:=λy h=>(h.scaleL 6).mono (ai () ())
 have upY:∀y,Fr N (2^d) y->Fr (6*N) (2^(d+18)) y:=λy h=>(h.scaleL 6).mono (ai () ())
 have fin:∀(t:Addr) (H':Hp) (ur vr:List V),H' t=some (.tup [.ref p1,.ref q1])->H' p1=some (.lst ur)->H' q1=some (.lst vr)->ur.9<=10->vr.9<=10->(∀u∈ur,jU K A1 H' (λk=>k=n) (Fr (6*M) (2^(b+2))) u)->(∀u∈vr,jU K A2 H' (λk=>k<=10) (Fr (6*N) (2^(d+18))) u)->ig H' bg->c8 bg H H'->Q (.ref t) H':=λt H' ur vr gt gp gq l1 l2 X Y B' U=>by
  obtain rows'|pr|lr'|hr':=rj (H0:=H0) X λq h=>wn q (a1f h).1
  obtain wts'|pw|lw'|hw':=rj (H0:=H0) Y λq h=>wn q (a2f h).1
  have np:V.ref p1∉ur:=λh=>by obtain q|_|e|h'|_:=X _ h;cases e;exact nA1.1 h'
  have nq:V.ref q1∉vr:=λh=>by obtain q|_|e|h'|_:=Y _ h;cases e;exact nA1.2.2.2 h'
  have six:∀{P j:Nat},P<=2^j->6*P<=2^(j+3):=λh=>by rw[jN,aV];exact aL () h
  exact k t H' #[t,p1,q1,rfl,gt,rows',wts',wn _ p1H,wn _ q1H,#[ur,gp,pr,np],#[vr,gq,pw,nq],(),(),λz hz=>(hr' z hz).1,λz hz=>(hw' z hz).1,#[6*M,bQ () M0,six M1,λz hz=>(hr' z hz).2],#[6*N,bQ () N0,ag (six N1) (ai () ()),λz hz=>(hw' z hz).2]] B' U
 exists #[bg,7,rfl,B2,(),(),λw H3 w0 w1 B3 u3=>?_];have gp3:=u3.other p1b gp2;exists #[_,_,rfl,.inl (bE.of gp3),?_];rw[show ((us1.9:Nat):Int)=((m:Nat):Int) by lia];exists #[bg,m,rfl,B3,(),(),λkk H4 k0 k1 B4 u4=>?_];obtain kk|rfl:=bP k0;have u24:=u3.trans u4;have gp4:=u4.other p1b gp3;have gq4:=u24.other q1b g2;have X4:=λu hu=>(X u hu).upto u24 B2 b1
 have Y4:=λu hu=>(Y u hu).upto u24 B2 b2
 have U4:c8 bg H H4:=(s02.upto).trans u24;clear X Y gp3 gp2 g2 u3 u4 B3 B2 s02 s1 s2;have kv:kk < vs1.9:=()
 have ku:kk < us1.9:=()
 have XW:∀{H'},(∀u∈us1,jU K A1 H' (λk=>k=n) (Fr M (2^b)) u)->∀u∈us1,jU K A1 H' (λk=>k=n) (Fr (6*M) (2^(b+2))) u:=λh u hu=>(h u hu).weak (λ_ z=>z) (λ_ z=>z) upX
 have YW:∀{H'},(∀u∈vs1,jU K A2 H' (λk=>k=m) (Fr N (2^d)) u)->∀u∈vs1,jU K A2 H' (λk=>k<=10) (Fr (6*N) (2^(d+18))) u:=λh u hu=>(h u hu).weak (λ_ z=>z) (λ_ z=>()) upY
 have bagU:∀{H':Hp} {r:Addr} {o:HO},ig H' bg->c8 bg H H'->H r=none->ig (upd H' r o) bg/\c8 bg H (upd H' r o):=λB' U hr=>by
  obtain qi|Ii|xi|gi:=B.inner;exact #[B'.upd (U.2 _ Ii) (λe=>bH (by rw[<- e];exact hr)) (λe=>by rw[e,gi] at hr;cases hr),U.after hr]
 have szM:∀y,Fr M (2^b) y->mU y:=λy h=>kM M0 M1 (ak _) () h
 have szN':∀y,Fr N (2^d) y->mU y:=λy h=>kM N0 N1 (ak _) () h
 have sz3:∀y,Fr 6 1 y->mU y:=λy h=>kM (a:=3) (b:=0) () () () () h
 have w7:w=0\/w=1\/w=2\/w=3\/w=4\/w=5\/w=6:=()
 clear w0 w1;rcases w7 with rfl | rfl | rfl | rfl | rfl | rfl | rfl
 ·repeat (first | walk_at "rd" | refine dU (λh=>absurd h ()) (λ_=>?_) | refine dU (λ_=>?_) (λh=>absurd () h))
  refine #[bg,n,rfl,B4,(),(),λat0 H5 t0 t1 B5 u5=>?_];obtain at0|rfl:=bP t0;have gp5:=u5.other p1b gp4;have gq5:=u5.other q1b gq4;have X5:=λu hu=>(X4 u hu).upto u5 B4 b1
  have Y5:=λu hu=>(Y4 u hu).upto u5 B4 b2
  obtain q6|qs6|e6|a6|R6|l6|c6:=X5 _ (aM ku);obtain zs|gz|qz:=id R6;have lz:=qz.9;have q6b:q6≠bg:=λe=>bH (by rw[<- e];exact (a1f a6).1)
  obtain y0|v0|ey|ev|my|ny:=dM qz (i:=at0) ();exists b8 (bE.of gp5) (dq (ae ku)) ?_;rw[e6];exists b8 (bE.of gz) (dq ev) ?_;exists #[bg,3,rfl,B5,(),(),λv6 H6 v60 v61 B6 u6=>?_];exists bF λt6 H7 s7 g7=>?_
  obtain q3|e3|f3:=U6 v60 v61;exists #[v0,.ref t6,y0,q3,rfl,(ny.upto u6 B5).same s7,bW.mk g7 e3,szM y0 (c6 y0 my),sz3 _ f3,λr8 H8 s8 N8=>?_];have u58:c8 bg H5 H8:=(u6.same s7).same s8;have gp8:=u58.other p1b gp5;have gq8:=u58.other q1b gq5;have gz8:=u58.other q6b gz;have qz8:Paired (bW K H8) qs6 zs:=Paired.imp' (λ_ _ h=>bW.upto h u58 B5) qz;exists b8 (bE.of gp8) (dq (ae ku)) ?_;rw[e6];exists eC gz8 (eK ()) rfl ?_;obtain BB|UU:=bagU (o:=.lst (zs.set at0 (.ref r8))) ((B6.same s7).same s8) ((U4.trans u5).trans u58) (a1f a6).1
  have XX:=λu hu=>((XW X5 u hu).upto u58 B5 b1).chg gz8 (lM N8 at0 qz8) (by rw[df];exact l6) (λy hy=>by
   rcases lY hy with e | e
   ·rw[e];exact (((c6 y0 my).scaleL 6).add (f3.dvd (pA 6 M))).mono (by have:=ai (n:=2) () (show b+1<=b+2 by lia);rw[eF] at this;have h1:0 < 2^b:=d6 ();lia)
   ·exact upX y (c6 y e))
  have YY:=λu hu=>((YW Y5 u hu).upto u58 B5 b2).other (o:=.lst (zs.set at0 (.ref r8))) gz8 (i21 a6)
  have gpS:(upd H8 q6 (.lst (zs.set at0 (.ref r8)))) p1=some (.lst us1):=by rw[bo (Ne.symm (a1f a6).2.1)];exact gp8
  have gqS:(upd H8 q6 (.lst (zs.set at0 (.ref r8)))) q1=some (.lst vs1):=by rw[bo (Ne.symm (a1f a6).2.2)];exact gq8
  generalize upd H8 q6 (.lst (zs.set at0 (.ref r8)))=HS at BB UU XX YY gpS gqS ⊢
  repeat (first | walk_at "rd" | refine dU (λh=>absurd h ()) (λ_=>?_) | refine dU (λ_=>?_) (λh=>absurd () h))
  refine bF λt H9 s9 g9=>?_
  exact fin t H9 us1 vs1 g9 (s9 _ _ gpS) (s9 _ _ gqS) () () (λu hu=>(XX u hu).same s9) (λu hu=>(YY u hu).same s9) (BB.same s9) (UU.same s9)
 ·repeat (first | walk_at "rd" | refine dU (λh=>absurd h ()) (λ_=>?_) | refine dU (λ_=>?_) (λh=>absurd () h))
  refine #[_,_,rfl,.inl (bE.of gp4),?_];rw[show ((us1.9:Nat):Int)=((m:Nat):Int) by lia];exists #[bg,m,rfl,B4,(),(),λat0 H5 t0 t1 B5 u5=>?_];obtain at0|rfl:=bP t0;have gp5:=u5.other p1b gp4;have gq5:=u5.other q1b gq4;have X5:=λu hu=>(X4 u hu).upto u5 B4 b1
  have Y5:=λu hu=>(Y4 u hu).upto u5 B4 b2
  obtain q6|qs6|e6|a6|R6|l6|c6:=Y5 _ (aM kv);obtain zs|gz|qz:=id R6;have lz:=qz.9;have q6b:q6≠bg:=λe=>bH (by rw[<- e];exact (a2f a6).1)
  obtain y0|v0|ey|ev|my|ny:=dM qz (i:=at0) ();exists b8 (bE.of gq5) (dq (ae kv)) ?_;rw[e6];exists b8 (bE.of gz) (dq ev) ?_;exists #[bg,3,rfl,B5,(),(),λv6 H6 v60 v61 B6 u6=>?_];exists bF λt6 H7 s7 g7=>?_
  obtain q3|e3|f3:=U6 v60 v61;exists #[v0,.ref t6,y0,q3,rfl,(ny.upto u6 B5).same s7,bW.mk g7 e3,szN' y0 (c6 y0 my),sz3 _ f3,λr8 H8 s8 N8=>?_];have u58:c8 bg H5 H8:=(u6.same s7).same s8;have gp8:=u58.other p1b gp5;have gq8:=u58.other q1b gq5;have gz8:=u58.other q6b gz;have qz8:Paired (bW K H8) qs6 zs:=Paired.imp' (λ_ _ h=>bW.upto h u58 B5) qz;exists b8 (bE.of gq8) (dq (ae kv)) ?_;rw[e6];exists eC gz8 (eK ()) rfl ?_;obtain BB|UU:=bagU (o:=.lst (zs.set at0 (.ref r8))) ((B6.same s7).same s8) ((U4.trans u5).trans u58) (a2f a6).1;have XX:=λu hu=>((XW X5 u hu).upto u58 B5 b1).other (o:=.lst (zs.set at0 (.ref r8))) gz8 (i12 a6)
  have YY:=λu hu=>((YW Y5 u hu).upto u58 B5 b2).chg gz8 (lM N8 at0 qz8) (by rw[df];lia) (λy hy=>by
   rcases lY hy with e | e
   ·rw[e];exact (((c6 y0 my).scaleL 6).add (f3.dvd (pA 6 N))).mono (by have:=ai (n:=2) () (show d+1<=d+18 by lia);rw[eF] at this;have h1:0 < 2^d:=d6 ();lia)
   ·exact upY y (c6 y e))
  have gpS:(upd H8 q6 (.lst (zs.set at0 (.ref r8)))) p1=some (.lst us1):=by rw[bo (Ne.symm (a2f a6).2.1)];exact gp8
  have gqS:(upd H8 q6 (.lst (zs.set at0 (.ref r8)))) q1=some (.lst vs1):=by rw[bo (Ne.symm (a2f a6).2.2)];exact gq8
  generalize upd H8 q6 (.lst (zs.set at0 (.ref r8)))=HS at BB UU XX YY gpS gqS ⊢
  repeat (first | walk_at "rd" | refine dU (λh=>absurd h ()) (λ_=>?_) | refine dU (λ_=>?_) (λh=>absurd () h))
  refine bF λt H9 s9 g9=>?_
  exact fin t H9 us1 vs1 g9 (s9 _ _ gpS) (s9 _ _ gqS) () () (λu hu=>(XX u hu).same s9) (λu hu=>(YY u hu).same s9) (BB.same s9) (UU.same s9)
 ·repeat (first | walk_at "rd" | refine dU (λh=>absurd h ()) (λ_=>?_) | refine dU (λ_=>?_) (λh=>absurd () h))
  refine #[.inl #[rfl,_,bE.of gp4],?_];exists #[p1,us1,kk,kk,_,rfl,rfl,gp4,(),(),ON () (),ae ku,?_];obtain BB|UU:=bagU (o:=.lst (us1.eraseIdx kk)) B4 U4 p1H;have XX:=λu hu=>(XW X4 u hu).other (o:=.lst (us1.eraseIdx kk)) gp4 nA1.1
  have YY:=λu hu=>(YW Y4 u hu).other (o:=.lst (us1.eraseIdx kk)) gp4 nA1.2.2.1
  have gS:(upd H4 p1 (.lst (us1.eraseIdx kk))) p1=some (.lst (us1.eraseIdx kk)):=aG;have gO:(upd H4 p1 (.lst (us1.eraseIdx kk))) q1=some (.lst vs1):=by rw[bo p1q];exact gq4
  generalize upd H4 p1 (.lst (us1.eraseIdx kk))=HS at BB UU XX YY gS gO ⊢
  repeat (first | walk_at "rd" | refine dU (λh=>absurd h ()) (λ_=>?_) | refine dU (λ_=>?_) (λh=>absurd () h))
  refine bF λt H9 s9 g9=>?_
  have le:=uU us1 kk;exact fin t H9 (us1.eraseIdx kk) vs1 g9 (s9 _ _ gS) (s9 _ _ gO) () () (λu hu=>(XX u (Ud hu)).same s9) (λu hu=>(YY u hu).same s9) (BB.same s9) (UU.same s9)
 ·repeat (first | walk_at "rd" | refine dU (λh=>absurd h ()) (λ_=>?_) | refine dU (λ_=>?_) (λh=>absurd () h))
  obtain q6|qs6|e6|a6|R6|l6|c6:=Y4 _ (aM kv);obtain zs|gz|qz:=id R6;have lz:=qz.9;refine b8 (bE.of gq4) (dq (ae kv)) ?_;rw[e6];exists #[.inl #[rfl,_,bE.of gz],?_];exists #[q6,zs,_,rfl,rfl,gz,ae (),?_];have ed:zs.dropLast=zs.take (m - 1):=by rw[List.dropLast_eq_take];congr 1;lia
  rw[ed];obtain BB|UU:=bagU (o:=.lst (zs.take (m - 1))) B4 U4 (a2f a6).1;have XX:=λu hu=>(XW X4 u hu).other (o:=.lst (zs.take (m - 1))) gz (i12 a6)
  have YY:=λu hu=>(YW Y4 u hu).chg gz (mQ qz (m - 1)) (by rw[bY];lia) (λy hy=>upY y (c6 y (cH hy)))
  have gpS:(upd H4 q6 (.lst (zs.take (m - 1)))) p1=some (.lst us1):=by rw[bo (Ne.symm (a2f a6).2.1)];exact gp4
  have gqS:(upd H4 q6 (.lst (zs.take (m - 1)))) q1=some (.lst vs1):=by rw[bo (Ne.symm (a2f a6).2.2)];exact gq4
  generalize upd H4 q6 (.lst (zs.take (m - 1)))=HS at BB UU XX YY gpS gqS ⊢
  repeat (first | walk_at "rd" | refine dU (λh=>absurd h ()) (λ_=>?_) | refine dU (λ_=>?_) (λh=>absurd () h))
  refine bF λt H9 s9 g9=>?_
  exact fin t H9 us1 vs1 g9 (s9 _ _ gpS) (s9 _ _ gqS) () () (λu hu=>(XX u hu).same s9) (λu hu=>(YY u hu).same s9) (BB.same s9) (UU.same s9)
 ·repeat (first | walk_at "rd" | refine dU (λh=>absurd h ()) (λ_=>?_) | refine dU (λ_=>?_) (λh=>absurd () h))
  obtain q6|qs6|e6|a6|R6|l6|c6:=Y4 _ (aM kv);obtain zs|gz|qz:=id R6;have lz:=qz.9;refine b8 (bE.of gq4) (dq (ae kv)) ?_;rw[e6];exists #[.inl #[rfl,_,bE.of gz],?_];exists bF λt6 H7 s7 g7=>?_
  exists #[q6,zs,_,rfl,rfl,s7 _ _ gz,cU (),?_];obtain BB|UU:=bagU (o:=.lst (zs++[.ref t6])) (B4.same s7) (U4.same s7) (a2f a6).1;have XX:=λu hu=>((XW X4 u hu).same s7).other (o:=.lst (zs++[.ref t6])) (s7 _ _ gz) (i12 a6)
  have YY:=λu hu=>((YW Y4 u hu).same s7).chg (s7 _ _ gz) (bV (Paired.imp' (λ_ _ h=>bW.same h s7) qz) (.cons (bW.mk (q:=0) g7 rfl) .nil)) (by rw[ar,a9];lia) (λy hy=>by
   rcases ay.mp hy with hy | hy
   ·exact upY y (c6 y hy)
   ·rw[aS.mp hy];exact Fr.zero)
  have gpS:(upd H7 q6 (.lst (zs++[.ref t6]))) p1=some (.lst us1):=by rw[bo (Ne.symm (a2f a6).2.1)];exact s7 _ _ gp4
  have gqS:(upd H7 q6 (.lst (zs++[.ref t6]))) q1=some (.lst vs1):=by rw[bo (Ne.symm (a2f a6).2.2)];exact s7 _ _ gq4
  generalize upd H7 q6 (.lst (zs++[.ref t6]))=HS at BB UU XX YY gpS gqS ⊢
  repeat (first | walk_at "rd" | refine dU (λh=>absurd h ()) (λ_=>?_) | refine dU (λ_=>?_) (λh=>absurd () h))
  refine bF λt H9 s9 g9=>?_
  exact fin t H9 us1 vs1 g9 (s9 _ _ gpS) (s9 _ _ gqS) () () (λu hu=>(XX u hu).same s9) (λu hu=>(YY u hu).same s9) (BB.same s9) (UU.same s9)
 ·repeat (first | walk_at "rd" | refine dU (λh=>absurd h ()) (λ_=>?_) | refine dU (λ_=>?_) (λh=>absurd () h))
  refine #[.inl #[rfl,_,bE.of gq4],?_];exists #[#[_,bE.of gp4],?_];refine eB (K:=K) (xs:=us1) (λi ys H'=>aH H4 H'/\Paired (bW K H') (List.replicate i 0) ys) j8 #[aH.refl _,.nil] (λi ys H' _ #[e,_]=>bE.of (e _ _ gp4)) ?_ ?_
  ·rintro i x ys H5 hx hlen ⟨s5,pr⟩;exists bF λt6 H6 s6 g6=>?_
   exact #[s5.trans s6,by rw[List.replicate_succ'];exact bV (Paired.imp' (λ_ _ h=>bW.same h s6) pr) (.cons (bW.mk (q:=0) g6 rfl) .nil)]
  rintro ys H5 hy ⟨s5,pr⟩ l6 n6;have s6:aH H5 (upd H5 l6 (.lst ys)):=aH.new n6;have g6:(upd H5 l6 (.lst ys)) l6=some (.lst ys):=aG;have R6:cS K (upd H5 l6 (.lst ys)) l6 (List.replicate us1.9 0):=#[ys,g6,Paired.imp' (λ_ _ h=>bW.same h s6) pr];generalize upd H5 l6 (.lst ys)=H6 at s6 g6 R6 ⊢;have s46:=s5.trans s6;have n46:=s5.none n6;have l6H:H l6=none:=U4.none B4 n46;have AL:A2 l6:=a2n l6H (λh=>by obtain q|_|e|_|⟨zs,gz,_⟩|_:=X4 _ h;cases e;rw[n46] at gz;cases gz) (λe=>by rw[e,gp4] at n46;cases n46) (λe=>by rw[e,gq4] at n46;cases n46);exists #[q1,vs1,_,rfl,rfl,s46 _ _ gq4,cU (),?_];obtain BB|UU:=bagU (o:=.lst (vs1++[.ref l6])) (B4.same s46) (U4.same s46) q1H;have XX:=λu hu=>((XW X4 u hu).same s46).other (o:=.lst (vs1++[.ref l6])) (s46 _ _ gq4) nA1.2.1
  have YY:∀u∈vs1++[.ref l6],jU K A2 (upd H6 q1 (.lst (vs1++[.ref l6]))) (λk=>k<=10) (Fr (6*N) (2^(d+18))) u:=λu hu=>by
   rcases ay.mp hu with hu | hu
   ·exact ((YW Y4 u hu).same s46).other (s46 _ _ gq4) nA1.2.2.2
   ·rw[aS.mp hu];exact jU.other #[l6,_,rfl,AL,R6,by show (List.replicate us1.9 (0:Rat)).9<=10;rw[aJ];lia,λy hy=>by rw[ja hy];exact Fr.zero] (s46 _ _ gq4) nA1.2.2.2
  have gqS:(upd H6 q1 (.lst (vs1++[.ref l6]))) q1=some (.lst (vs1++[.ref l6])):=aG;have gpS:(upd H6 q1 (.lst (vs1++[.ref l6]))) p1=some (.lst us1):=by rw[bo (Ne.symm p1q)];exact s46 _ _ gp4
  generalize upd H6 q1 (.lst (vs1++[.ref l6]))=HS at BB UU XX YY gpS gqS ⊢
  repeat (first | walk_at "rd" | refine dU (λh=>absurd h ()) (λ_=>?_) | refine dU (λ_=>?_) (λh=>absurd () h))
  refine bF λt H9 s9 g9=>?_
  exact fin t H9 us1 (vs1++[.ref l6]) g9 (s9 _ _ gpS) (s9 _ _ gqS) () (by rw[ar,a9];lia) (λu hu=>(XX u hu).same s9) (λu hu=>(YY u hu).same s9) (BB.same s9) (UU.same s9)
 ·repeat (first | walk_at "rd" | refine dU (λh=>absurd h ()) (λ_=>?_) | refine dU (λ_=>?_) (λh=>absurd () h))
  refine #[.inl #[rfl,_,bE.of gq4],?_];exists #[q1,vs1,kk,kk,_,rfl,rfl,gq4,(),(),ON () (),ae kv,?_];obtain BB|UU:=bagU (o:=.lst (vs1.eraseIdx kk)) B4 U4 q1H;have XX:=λu hu=>(XW X4 u hu).other (o:=.lst (vs1.eraseIdx kk)) gq4 nA1.2.1
  have YY:=λu hu=>(YW Y4 u hu).other (o:=.lst (vs1.eraseIdx kk)) gq4 nA1.2.2.2
  have gS:(upd H4 q1 (.lst (vs1.eraseIdx kk))) q1=some (.lst (vs1.eraseIdx kk)):=aG;have gO:(upd H4 q1 (.lst (vs1.eraseIdx kk))) p1=some (.lst us1):=by rw[bo (Ne.symm p1q)];exact gp4
  generalize upd H4 q1 (.lst (vs1.eraseIdx kk))=HS at BB UU XX YY gS gO ⊢
  repeat (first | walk_at "rd" | refine dU (λh=>absurd h ()) (λ_=>?_) | refine dU (λ_=>?_) (λh=>absurd () h))
  refine bF λt H9 s9 g9=>?_
  have le:=uU vs1 kk;exact fin t H9 us1 (vs1.eraseIdx kk) g9 (s9 _ _ gO) (s9 _ _ gS) () () (λu hu=>(XX u hu).same s9) (λu hu=>(YY u (Ud hu)).same s9) (BB.same s9) (UU.same s9)
theorem DA:sC ["_law_one","_law_other"] 2 tG:=by walk_at "d"
theorem DW (T:Txt K mg Z):T.nX.o P w base 2 (zE K):=by
 refine T.nX.F.ok DA (λvs H Q E h=>?_) (λcdv A outer s H vs Q E hr h=>?_)
 ·obtain p|q|a|b|c|d|rfl|hp|hq|hb|hd|hc|sa|sb|sc|sd|k:=FR h;rfl
 ·obtain p|q|a|b|c|d|rfl|hp|hq|hb|hd|hc|sa|sb|sc|sd|k:=FR h
  refine #[_,(au (di (bf uc (aX bS c9 aj) aj (bu _)) (aB (a8 (cT (jY T) hr T.gQ (cQ (bK kx aj (bK dQ (aX bS b6 aj) (aX bS c9 aj))) (bK kx aj (bK dQ (aX bS b6 aj) (aX bS c9 aj))))))) bU)
   (aB (a8 (cT (jY T) hr T.gQ (cQ (bK dQ (aX bS b6 aj) (aX bS c9 aj)) (bK dQ (aX bS b6 aj) (aX bS c9 aj))))))),?_]
  refine tU (σ:=[some (.ref p),some (.ref q)]) rfl ?_
  try rw[ik]
  have sbc:Sz 8999 (b*c):=(sb.mul sc).mono ();exists dU (λh=>?_) (λh=>?_)
  ·have h0:c < 0:=of_decide_eq_true h;have hbc:b*c < 0:=vU hb h0;exists iF (show jl _ _ from .inr #[_,_,sa,sd,()]) ?_;exists iF (show jl _ _ from .inr #[_,_,sb,sc,()]) ?_;exists #[_,_,rfl,(),by rw[Int.zero_sub];exact sbc.neg,λr H' s' h'=>?_];exact k r H' s' (by rw[if_pos h0,if_pos h0];exact h')
  ·have h0:¬c < 0:=λz=>h (decide_eq_true z)
   have hbc:0 < b*c:=lC hb ();exists iF (show jl _ _ from .inr #[_,_,sa,sd,()]) ?_;exists iF (show jl _ _ from .inr #[_,_,sb,sc,()]) ?_;exists #[_,_,rfl,hbc,sbc,λr H' s' h'=>?_];exact k r H' s' (by rw[if_neg h0,if_neg h0];exact h')
theorem kj:sC ["_law_rows","_law_weights","_law_k","_law_factor","_law_some"] 4 pP:=by walk_at "d"
theorem Am (T:Txt K mg Z):T.kH.o P w base 4 (yj K):=by
 refine T.kH.F.k kj ?_;walk_at "i";obtain p|q|kk|m|v|H0|n|a|b|c|d|f|rfl|⟨rows,wts,p0,q0,GR,GW,PF,lm,lw,wm⟩|km|m8|n8|Nf|hf|ab|cd|wn|k:=h
 refine #[_,(au (iY 0 ["_law_row_here"] [] [] kj.nd rfl rfl (b9 b6) (λ_=>(eH 0)) (λ_=>bZ) (λ_=>(dI (dO K (by rfl)) (by rfl) T.list PyProof.Rows.boot_list (dB b6))))
  (au (iY 1 ["_law_some"] [] [] kj.nd rfl rfl (b9 c9) (λ_=>(eH 0)) (λ_=>bZ) (λ_=>(dI (dO K (by rfl)) (by rfl) T.list PyProof.Rows.boot_list (dB b6))))
  (au (eP (cT (oH T) hr T.ji (cQ ic (aX bC b6 dW))) (fR b6 dW set_list))
  (au (eP (cT (oH T) hr T.ji (cQ ic (aX bC c9 dW))) (fR c9 dW set_list))
  (au (eO PassesOwn.never rfl (b9 c9) (eH 4 kj.nd)
   (aB (eP (cT (DW T) hr T.nX (cQ (aX bC kU dW) ic)) (fR kU dW set_list))))
  (aB (a8 (cD (cQ b6 c9))))))))),?_]
 walk_at "s"
 try rw[ik]
 obtain rs|gr|qr|_:=id GR;obtain us|gw|qw|_:=id GW;have lr:=qr.9;have lus:=qw.9;obtain M|M0|M1|fM:=PF.fr;obtain N|N0|N1|fN:=PF.fw;obtain f0|f6|fq:=Ts hf;have szr:∀z∈rows,∀x∈z,mU x:=λz hz x hx=>kM M0 M1 (ak _) () (fM z hz x hx)
 have szw:∀z∈wts,∀x∈z,mU x:=λz hz x hx=>kM N0 N1 (ak _) () (fN z hz x hx)
 have szf:mU f:=kM (a:=3) (b:=2) () () () () f6;exists #[#[_,bE.of gr],?_];refine dn (K:=K) (as:=rows) (F:=cW K H0) (cW K H) (λxs=>xs) gr (Paired.imp' (λ_ _ y=>cW.same y (aH.refl H)) qr) () (λh s=>h.same s) (λh s=>h.same s) ?_ ?_
 ·rintro i xs x H9 NY NN ex s9 ⟨u,rfl,_,zs,gz,qz⟩ k1;exists #[u,zs,rfl,.inl (bE.of gz),λl hl=>?_];exact k1 _ _ (aH.new hl) #[l,rfl,s9.none hl,zs,aG,Paired.imp' (λ_ _ y=>bW.same y (aH.new hl)) qz]
 rintro us1 H1 p1 n1 s1 g1 pr1 nx1;rw[vd] at pr1 nx1;exists #[#[_,bE.of (s1 _ _ gw)],?_];refine dn (K:=K) (as:=wts) (F:=cW K H0) (cW K H1) (λxs=>xs) (s1 _ _ gw) (Paired.imp' (λ_ _ y=>cW.same y s1) qw) () (λh s=>h.same s) (λh s=>h.same s) ?_ ?_
 ·rintro i xs x H9 NY NN ex s9 ⟨u,rfl,_,zs,gz,qz⟩ k1;exists #[u,zs,rfl,.inl (bE.of gz),λl hl=>?_];exact k1 _ _ (aH.new hl) #[l,rfl,s9.none hl,zs,aG,Paired.imp' (λ_ _ y=>bW.same y (aH.new hl)) qz]
 rintro vs1 H2 q1 n2 s2 g2 pr2 nx2;rw[vd] at pr2 nx2
 
 have s02:=s1.trans s2;have lu1:=pr1.9;have lv1:=pr2.9;obtain z|vz|ez|evz|mz|az|rfl|nz|Rz:=dM pr1 (i:=kk) ();exists b8 (bE.of (s2 _ _ g1)) (dq evz) ?_;exists #[v,az,f,z,rfl,Nf.same s02,szf,Rz.same s2,by rw[PF.rn z mz];lia,szr z mz,λr3 H3 n3 s3 R3=>?_];have g13:=(s2.trans s3) _ _ g1;have g23:=s3 _ _ g2;have p1q:q1≠p1:=λe=>by rw[<- e,n2] at g1;cases g1
 have r3p:r3≠p1:=λe=>by have:=s2 _ _ g1;rw[<- e,n3] at this;cases this
 have r3q:r3≠q1:=λe=>by rw[<- e,n3] at g2;cases g2
 have p1H:H p1=none:=n1;have q1H:H q1=none:=s1.none n2;have r3H:H r3=none:=s02.none n3;obtain ⟨us2,eu2⟩:∃us2,us2=us1.set kk (.ref r3):=#[_,rfl];have lu2:us2.9=m:=by rw[eu2,df];lia
 have old1:∀u∈us1,∃q xs,u=V.ref q/\xs∈rows/\H q=none/\cS K H1 q xs/\q≠p1/\q≠q1/\q≠r3:=λu hu=>by
  obtain xs|hm|q|e|zq|R:=cZ pr1 hu;subst e;obtain zs|gz|_:=id R;refine #[q,xs,rfl,hm,zq,R,λe=>iH nx1 (by rw[<- e];exact hu),(λe=>by rw[e,n2] at gz;cases gz),λe=>?_];have:=s2 _ _ gz;rw[e,n3] at this;cases this
 have X:∀u∈us2,jU K (λq=>H q=none/\V.ref q∈us2/\q≠p1/\q≠q1) H3 (λk=>k=n) (Fr (6*M) (2^(b+2))) u:=λu hu=>by
  have hu':=hu;rw[eu2] at hu';rcases lY hu' with e | e
  ·subst e;refine #[r3,_,rfl,#[r3H,hu,r3p,r3q],R3,by rw[af];exact PF.rn z mz,λy hy=>?_];obtain y'|hy'|rfl:=aA.mp hy;rw[aV,cv (2^b)];exact f6.mul (fM z mz y' hy')
  ·obtain q|xs|rfl|hm|zq|R|e1|e2|_:=old1 u e;exact #[q,xs,rfl,#[zq,hu,e1,e2],R.same (s2.trans s3),PF.rn xs hm,λy hy=>((fM xs hm y hy).scaleL 6).mono (ai () ())]
 have Y:∀u∈vs1,jU K (λq=>H q=none/\V.ref q∉us2/\q≠p1/\q≠q1) H3 (λk=>k=m) (Fr N (2^d)) u:=λu hu=>by
  obtain xs|hm|q|e|zq|R:=cZ pr2 hu;subst e;obtain zs|gz|_:=id R;refine #[q,xs,rfl,#[s1.none zq,λh=>?_,(λe=>by rw[e,g1] at zq;cases zq),λe=>iH nx2 (by rw[<- e];exact hu)],R.same s3,wm xs hm,fN xs hm];rw[eu2] at h;rcases lY h with e | e
  ·cases e;rw[n3] at gz;cases gz
  ·obtain q'|_|e'|_|_|⟨zs',gz',_⟩|_:=old1 _ e;cases e';rw[zq] at gz';cases gz'
 exists eC g13 (eK ()) rfl ?_;rw[<- eu2];have S4:aH H (upd H3 p1 (.lst us2)):=(s02.trans s3).after p1H;have gp4:(upd H3 p1 (.lst us2)) p1=some (.lst us2):=aG;have gq4:(upd H3 p1 (.lst us2)) q1=some (.lst vs1):=by rw[bo p1q];exact g23
 have X4:=λu hu=>(X u hu).other (o:=.lst us2) g13 (λh=>h.2.2.1 rfl)
 have Y4:=λu hu=>(Y u hu).other (o:=.lst us2) g13 (λh=>h.2.2.1 rfl)
 generalize upd H3 p1 (.lst us2)=H4 at S4 gp4 gq4 X4 Y4 ⊢;clear X Y g13 g23 R3 Rz s3 n3 old1 pr1 pr2 nx1 nx2 g1 g2;have kv:kk < vs1.9:=()
 obtain q4|qs4|e4|⟨a4,a5,a6,a7⟩|R4|l4|c4:=Y4 _ (aM kv);exists b8 (bE.of gq4) (dq (ae kv)) ?_;rw[e4];exists #[v,q4,f,qs4,rfl,Nf.same S4,szf,R4,(),λy hy=>kM N0 N1 (ak _) () (c4 y hy),λr5 H5 n5 s5 R5=>?_];have gp5:=s5 _ _ gp4;have gq5:=s5 _ _ gq4;have r5p:r5≠p1:=λe=>by rw[e,gp4] at n5;cases n5
 have r5q:r5≠q1:=λe=>by rw[e,gq4] at n5;cases n5
 obtain ⟨vs2,ev2⟩:∃vs2,vs2=vs1.set kk (.ref r5):=#[_,rfl];have lv2:vs2.9=m:=by rw[ev2,df];lia
 have up0:∀y,Fr N (2^d) y->Fr (6^(0+1)*N) (4^(0+1)*2^d) y:=λy h=>(h.scaleL 6).mono (b7 _ ())
 have Y5:∀u∈vs2,jU K (λq=>H q=none/\V.ref q∉us2/\q≠p1/\q≠q1) H5 (λk=>k=m) (Fr (6^(0+1)*N) (4^(0+1)*2^d)) u:=λu hu=>by
  rw[ev2] at hu;rcases lY hu with e | e
  ·subst e;refine #[r5,_,rfl,#[S4.none n5,λh=>?_,r5p,r5q],R5,by rw[af];exact l4,λy hy=>?_]
   ·obtain q'|_|e'|_|⟨zs',gz',_⟩|_:=X4 _ h;cases e';rw[n5] at gz';cases gz'
   ·obtain y'|hy'|rfl:=aA.mp hy;exact f6.mul (c4 y' hy')
  ·exact ((Y4 u e).same s5).weak (λ_ h=>h) (λ_ h=>h) up0
 exists eC gq5 (eK ()) rfl ?_;rw[<- ev2];have S6:aH H (upd H5 q1 (.lst vs2)):=(S4.trans s5).after q1H;have gp6:(upd H5 q1 (.lst vs2)) p1=some (.lst us2):=by rw[bo (Ne.symm p1q)];exact gp5
 have gq6:(upd H5 q1 (.lst vs2)) q1=some (.lst vs2):=aG;have X6:=λu hu=>((X4 u hu).same s5).other (o:=.lst vs2) gq5 (λh=>h.2.2.2 rfl)
 have Y6:=λu hu=>(Y5 u hu).other (o:=.lst vs2) gq5 (λh=>h.2.2.2 rfl)
 generalize upd H5 q1 (.lst vs2)=H6 at S6 gp6 gq6 X6 Y6 ⊢;clear X4 Y4 Y5 gp5 gq5 gp4 gq4 S4 s5 R5 R4 c4 e4 n5;exists #[#[_,bE.of gq6],?_];refine iP (K:=K) (a:=q1) (xs:=vs2) (λi σ' H'=>(aH H H'/\H' p1=some (.lst us2)/\H' q1=some (.lst vs2)/\(∀u∈us2,jU K (λq=>H q=none/\V.ref q∈us2/\q≠p1/\q≠q1) H' (λk=>k=n) (Fr (6*M) (2^(b+2))) u)/\∀u∈vs2,jU K (λq=>H q=none/\V.ref q∉us2/\q≠p1/\q≠q1) H' (λk=>k=m) (Fr (6^(i+1)*N) (4^(i+1)*2^d)) u)/\∃y,σ'=[some (.ref p1),some (.ref q1),some (.int kk),some v,y]) #[#[S6,gp6,gq6,X6,Y6],_,rfl] (λi σ' H' _ #[#[_,_,e,_],_]=>bE.of e) ?_ ?_
 ·rintro i w σ' H7 hw ⟨⟨S7,gp7,gq7,X7,Y7⟩,y,rfl⟩;have hi:i < m:=by have:=(aE.mp hw).1;lia
  obtain q7|qs7|rfl|⟨a1,a2,a3,a4'⟩|R7|l7|c7:=Y7 w (av hw);obtain zs|gz|qz:=id R7;have lz:=qz.9;obtain y0|v0|ey|ev|my|ny:=dM qz (i:=kk) ();have q6:6^(i+1)<=2^24:=ag (ai () (show i+1<=9 by lia)) ();have q4':4^(i+1)<=2^18:=ag (ai () (show i+1<=9 by lia)) ();have h6:6^(i+1)*N<=2^(24+c):=ag (aL q6 N1) (by rw[<- aV];exact ak _);have h4:4^(i+1)*2^d<=2^(18+d):=ag (ax _ q4') (by rw[<- aV];exact ak _);exists b8 (bE.of gz) (dq ev) ?_;exists #[v0,v,y0,f,rfl,ny,Nf.same S7,kM (bQ (d6 ()) N0) h6 h4 () (c7 y0 my),szf,f0,λr8 H8 s8 N8=>?_];have gz8:=s8 _ _ gz;have qz8:Paired (bW K H8) qs7 zs:=Paired.imp' (λ_ _ h=>bW.same h s8) qz;exists eC gz8 (eK ()) rfl ?_
  have fr1:∀y,Fr (6^(i+1)*N) (4^(i+1)*2^d) y->Fr (6^(i+1+1)*N) (4^(i+1+1)*2^d) y:=λy h=>by
   have h1:=h.scaleL 6;rw[<- dm,<- Nat.pow_succ'] at h1;exact h1.mono (ax _ (ai () ()))
  refine #[#[(S7.trans s8).after a1,by rw[bo (Ne.symm a3)];exact s8 _ _ gp7,by rw[bo (Ne.symm a4')];exact s8 _ _ gq7,λu hu=>((X7 u hu).same s8).other gz8 (λh=>a2 h.2.1),λu hu=>?_],_,rfl];refine (((Y7 u hu).same s8).weak (λ_ h=>h) (λ_ h=>h) fr1).chg gz8 (lM N8 kk qz8) (by rw[df];exact l7) λy hy=>?_
  rcases lY hy with e | e
  ·subst e;have:=fq (c7 y0 my);rw[Nat.mul_right_comm,<- eF,Nat.mul_right_comm (4^(i+1)),<- eF] at this;exact this
  ·exact fr1 y (c7 y e)
 rintro σ' H7 ⟨⟨S7,gp7,gq7,X7,Y7⟩,y,rfl⟩;rw[lv2] at Y7;exists bF λt H8 s8 g8=>?_
 obtain rows'|pr|lr'|hr':=rj (H0:=H0) (λu hu=>(X7 u hu).same s8) λq h=>wn q h.1
 obtain wts'|pw|lw'|hw':=rj (H0:=H0) (λu hu=>(Y7 u hu).same s8) λq h=>wn q h.1
 have np:V.ref p1∉us2:=λh=>by obtain q|_|e|h'|_:=X7 _ h;cases e;exact h'.2.2.1 rfl
 have nq:V.ref q1∉vs2:=λh=>by obtain q|_|e|h'|_:=Y7 _ h;cases e;exact h'.2.2.2 rfl
 have q6:6^(m+1)<=2^24:=ag (ai () (show m+1<=9 by lia)) ();have q4':4^(m+1)<=2^18:=ag (ai () (show m+1<=9 by lia)) ();refine k t H8 (S7.trans s8) #[t,p1,q1,rfl,g8,rows',wts',wn _ p1H,wn _ q1H,#[us2,s8 _ _ gp7,pr,np],#[vs2,s8 _ _ gq7,pw,nq],(),(),λz hz=>(hr' z hz).1,λz hz=>by rw[(hw' z hz).1];lia,#[6*M,bQ () M0,?_,λz hz=>(hr' z hz).2],#[6^(m+1)*N,bQ (d6 ()) N0,?_,λz hz x hx=>((hw' z hz).2 x hx).mono ?_]]
 ·rw[jN,aV];exact aL () M1
 ·exact ag (aL q6 N1) (by rw[<- aV];exact ai () ())
 ·exact ag (ax _ q4') (by rw[<- aV];exact ai () ())
theorem Dz:sC ["lists","joined","each"] 1 IF:=by walk_at "d"
theorem Qm (T:Txt K mg Z):T.yW.o P w base 1 (Fw K):=by
 refine T.yW.F.k Dz ?_;walk_at "i";obtain p|xs|Rs|rfl|gx|qx|hl|k:=h
 refine #[_,(au (eQ 1 Dz.nd (dw ir))
  (au (eO PassesOwn.never rfl (b9 b6) (eH 2 Dz.nd)
   (aB (gP (qB cb PySem.F.slot_list_extend PySem.F.type_list_extend Lr c9 (dB dW)))))
  (aB (a8 c9)))),?_]
 walk_at "s"
 try rw[ik]
 have lx:=qx.9;exists cO λj H1 s1 n1 g1=>?_
 exists #[#[_,bE.of (s1 _ _ gx)],?_];refine iP (K:=K) (a:=p) (xs:=xs) (λi σ' H'=>aH H H'/\∃(us:List V) (x:Option V),σ'=[some (.ref p),some (.ref j),x]/\H' j=some (.lst us)/\Paired (cW K (A9 j) H') (Rs.take i).flatten us) #[s1,[],none,rfl,g1,.nil] (λi σ' H' _ #[s,_]=>bE.of (s _ _ gx)) ?_ ?_
 ·rintro i x σ' H' hx ⟨s,us,y,rfl,gj,pr⟩;obtain qs|eq|q|rfl|_|Gq:=cF qx hx;obtain qj|zs|gz|qz|_:=Gq.off n1;have lz:=qz.9;have lu:=pr.9;have tl:(Rs.take (i+1)).flatten=(Rs.take i).flatten++qs:=by rw[take_snoc eq,nh];simp
  have bl:(Rs.take i).flatten.length+qs.9<=1000:=by
   have e:Rs.flatten=(Rs.take (i+1)).flatten++(Rs.drop (i+1)).flatten:=by rw[<- nh,List.take_append_drop]
   rw[e,tl,ar,ar] at hl
   lia
  exists #[.inl #[rfl,_,bE.of gj],?_];exists #[j,q,us,zs,rfl,rfl,gj,s _ _ gz,cC (cU ()),?_];refine #[s.after n1,_,_,rfl,aG,?_];rw[tl];exact bV (Paired.imp' (λ_ _ z=>cW.updL z gj off_ne) pr) (Paired.imp' (λ_ _ z=>cW.updL (cW.same z s) gj off_ne) qz)
 ·rintro σ' H' ⟨s,us,y,rfl,gj,pr⟩;rw[aF ()] at pr;exists k j (A9 j) H' n1 s #[us,gj,pr,λz=>?_];obtain _|_|q|e|h|_:=cZ pr z;cases e;exact off_ne h
theorem kh:sC ["system","steps","lists","rows","step"] 2 tz:=by walk_at "d"
theorem DV (T:Txt K mg Z):T.nW.o P w base 7 (FA K Z.a_System):=by
 refine T.nW.F.k kh ?_;walk_at "i";obtain x|u|a|c|H0|mv|pt|lk|rfl|hu|S|D|F|k:=h
 refine #[_,(au (eQ 2 kh.nd (dw ir))
  (au (eQ 3 kh.nd (gN b6 rfl))
  (au (eO PassesOwn.never rfl (cE rfl T.range (dB c9)) (eH 4 kh.nd)
   (au (gP (qB cb dk dj iS dW (dB ic)))
  (aB (eQ 3 kh.nd (cT (vq T) hr T.jF (cQ b6 ic))))))
  (aB (a8 dW))))),?_]
 walk_at "s"
 try rw[ik]
 obtain dx|a'|b'|c'|gx|_|_|_|Ga|Gb|Gc:=id S;have d8:=D.n8;have i4:=D.i4;exists cO λl H1 s1 n1 g1=>?_
 exists #[x,Z.a_System,dx,_,_,rfl,s1 _ _ gx,T.cl_System,T.na_put,yT,?_];walk_at "w";obtain bl|G0:=Gb.off n1;have G1:=G0.same s1;refine #[(),(),?_];refine fH (n:=u) (λi σ' H'=>aH H H'/\∃q us y,σ'=[some (.ref x),some (.int u),some (.ref l),some (.ref q),y]/\q≠l/\H' l=some (.lst us)/\Paired (Mj K l H') (LV mv pt i) us/\bp K (A9 l) H' q (pt.map (oR mv i))) #[s1,b',[],_,rfl,bl,g1,.nil,by rw[show pt.map (oR mv 0)=pt from Dd pt];exact G1] ?_ ?_
 ·rintro i σ' H' hi ⟨s',q,us,y,rfl,ql,gu,pu,Gq⟩;have lu:=pu.9;have la:(LV mv pt i).9=i:=by unfold LV;rw[af,cz]
  exists #[.inl #[rfl,_,bE.of gu],?_];exists lJ gu (cU ()) ?_;have s2:aH H (upd H' l (.lst (us++[V.ref q]))):=s'.after n1;have g2:(upd H' l (.lst (us++[V.ref q]))) l=some (.lst (us++[V.ref q])):=aG
  have p2:Paired (Mj K l (upd H' l (.lst (us++[V.ref q])))) (LV mv pt (i+1)) (us++[V.ref q]):=by
   rw[KI];exact bV (Paired.imp' (λ_ _ z=>Mj.upd z gu) pu) (.cons #[q,rfl,ql,Gq.updL gu off_ne ql] .nil)
  have Gq2:=Gq.updL (o:=.lst (us++[V.ref q])) gu off_ne ql;generalize upd H' l (.lst (us++[V.ref q]))=H2 at s2 g2 p2 Gq2 ⊢;exists #[x,q,H0,A9 l,mv,pt,lk,_,rfl,S.same s2,D,Gq2,by rw[af];lia,λr hr=>?_,F.fitP D.mw D.pw (),λr H3 nr s3 G3=>?_]
  ·obtain y|hy|rfl:=aA.mp hr;exact uN (D.pw y hy) i
  ·have e:(pt.map (oR mv i)).map (sG mv)=pt.map (oR mv (i+1)):=by rw[il];rfl
   rw[e] at G3;exact #[s2.trans s3,r,_,_,rfl,λz=>(by rw[z,g2] at nr;cases nr),s3 _ _ g2,Paired.imp' (λ_ _ z=>Mj.same z s3) p2,G3.weakN λq h=>Nz λz=>by rw[z,g2] at h;cases h]
 ·rintro σ' H' ⟨s',q,us,y,rfl,ql,gu,pu,Gq⟩;exists k l us H' n1 s' gu pu
theorem AX:sC ["many"] 1 qU:=by walk_at "d"
theorem mB (T:Txt K mg Z):T.gZ.o P w base 1 (Se K):=by
 refine T.gZ.F.k AX ?_;walk_at "i";obtain m|rfl|hm|k:=h;refine #[_,(aB (a8 (bX ["place"] [] [] (cE rfl T.range (dB b6)) (λ_=>(eH 0)) (λ_=>bZ) (λ_=>(jJ (v:=.ref Z.a_NOUGHT) rfl T.mg_NOUGHT rfl))))),?_];walk_at "s"
 try rw[ik]
 exists #[(),(),?_];refine fD (n:=m) (bW K) (λ_=>0) () (λa b=>a.same b) ?_ ?_
 ·rintro i Ha NY NN hi sa k1;exists k1 _ _ (aH.refl _) #[_,rfl,T.sq_NOUGHT _]
 ·rintro ys H1 t ht s1 g1 pr _;exact k t H1 ht s1 #[ys,g1,by rw[<- F5];exact pr]
theorem qh:sC ["rows","wide","due","found","answer","line","lead"] 3 zS:=by walk_at "d"
theorem Cw (T:Txt K mg Z):T.qD.o P w base 5 (zC K):=by
 refine T.qD.F.k qh ?_;walk_at "i";obtain p|q|n|w|H0|rows|due|rfl|G|Rd|hd|m99|n99|hw|F|k1|k2:=h
 refine #[_,(au (eQ 3 qh.nd (cT (FV T) hr T.uo (cQ (bX ["row","wanted"] [] [] (rz rfl T.zip (cQ b6 dW)) (λ_=>(oV K 2 (cM (eH 0) (cM (eH 1) ij)))) (λ_=>bZ) (λ_=>(bK iU b6 (dw (dB c9))))) (bK fo c9 aj))))
  (au (di (bf Ll c9 (aX bS ic aj) (by with_unfolding_all rfl)) (aB (a8 xM)) bU)
  (au (eQ 4 qh.nd (cT (mB T) hr T.gZ (dB c9)))
  (au (eO PassesOwn.never rfl (rz rfl T.zip (cQ (aX bS ic aj) (aX bS ic aj))) (rA rfl (cM (eH 5 qh.nd) (cM (eH 6 qh.nd) ij)))
   (aB (eP (cT (uO T) hr T.lV (cQ (aX bC pU c9) (aX bC pU oQ))) (fR kU oQ set_list))))
  (aB (a8 kU)))))),?_]
 walk_at "s"
 try rw[ik]
 obtain xs|gx|qx|_:=id G;obtain ds|gd|qd:=id Rd;have lx:=qx.9;have ld:=qd.9;have lj:=pZ hd;exists #[#[_,bE.of gx],#[_,bE.of gd],?_];refine uB (K:=K) (xs:=xs) (ws:=ds) (λi ys H'=>aH H H'/\Paired (cW K H H') ((dD rows due).take i) ys) j8 () #[aH.refl _,.nil] (λi ys H' _ #[s,_]=>#[bE.of (s _ _ gx),bE.of (s _ _ gd)]) ?_ ?_
 ·rintro i v1 v2 ys H' r h1 h2 hy ⟨s,pr⟩ hr;obtain row|er|u|rfl|_|Ru:=cF qx h1;obtain d|ed|nd:=cF qd h2;have wr:=hw row (av er);have sr:aH H' (upd H' r (.tup [.ref u,v2])):=aH.new hr;have gr:(upd H' r (.tup [.ref u,v2])) r=some (.tup [.ref u,v2]):=aG;generalize upd H' r (.tup [.ref u,v2])=H2 at sr gr ⊢;have s2:=s.trans sr;exists cO λl1 H3 s3 n3 g3=>?_
  have s23:=s2.trans s3;obtain zs|gz|qz:=Ru.same s23;have lz:=qz.9;exists iT gz g3 (cC (cU (by rw[a9];lia))) λl2 H4 s4 n4 g4=>?_
  refine #[s23.trans s4,?_];rw[take_snoc (RB er ed)];exact bV (Paired.imp' (λ_ _ z=>cW.same z ((sr.trans s3).trans s4)) pr) (.cons #[l2,rfl,s23.none n4,_,g4,Paired.imp' (λ_ _ z=>bW.same z s4) (bV qz (.cons (nd.same s23) .nil))] .nil)
 rintro ys H1 hy ⟨s1,pr⟩ l hl;have sn:aH H1 (upd H1 l (.lst ys)):=aH.new hl;have gn:(upd H1 l (.lst ys)) l=some (.lst ys):=aG;rw[aF ()] at pr;generalize upd H1 l (.lst ys)=H2 at sn gn ⊢;have GJ:bp K H H2 l (dD rows due):=xS pr sn hl gn;have s02:=s1.trans sn;walk_at "w";rw[show ((n:Int)+1)=((n+1:Nat):Int) by lia];refine #[l,n+1,w,H,_,rfl,GJ,(),(),wK hw,F,λt lp qp R ps d ls H3 gt gq GZ s3 S=>?_];have s03:=s02.trans s3;have pn:=S.rr.le;exists #[qp,d5 ps,rfl,.inl (bE.of gq),rfl,CC,?_];rw[Gi];by_cases hn:n∈ps
 ·rw[decide_eq_true hn,show (if false=true then !true else true)=true from rfl];exists k2 R ps H3 S.rr hn s03
 ·rw[decide_eq_false hn,show (if false=true then !false else false)=false from rfl];obtain lR|wR|rr:=id S.rr;obtain _|zs|gz|qz:=id GZ;have lz:=qz.9;have hl':=S.len
  have low:∀j,j < ps.9->ps.getD j 0 < n:=λj hj=>by
   have:=rr.low j hj;have:ps.getD j 0≠n:=λz=>hn (by rw[<- z];exact getD_in hj)
   lia
  obtain _|_|_|_|_|_|_|_|_|e89:=id F;rw[lj] at e89;have dsz:Sz 8999 d:=bO S.dsz (eV () (by rw[lj];lia));have lps:=wD (ps:=ps);exists #[n,rfl,(),λan H4 na s4 R4=>?_];rw[<- O9 (R:=R) (ps:=ps)] at R4;obtain vs0|g0|q0:=id R4;have gt4:=s4 _ _ gt;exists #[#[_,bE.of (s4 _ _ gz)],#[_,bE.of (s4 _ _ gq)],?_];refine Kx (K:=K) (xs:=zs) (ws:=d5 ps) (λj σ' H'=>aH H3 H'/\∃y1 y2 vs,σ'=[some (.ref p),some (.int n),some (.ref q),some (.ref t),some (.ref an),y1,y2]/\H' an=some (.lst vs)/\Paired (bW K H') (vZ R ps n j) vs) () #[s4,_,_,vs0,rfl,g0,q0] (λj σ' H' _ #[e,_]=>#[bE.of (e _ _ gz),bE.of (e _ _ gq)]) ?_ ?_
  ·rintro j v1 v2 σ' H' r h1 h2 ⟨s',y1,y2,vs,rfl,ga,qa⟩ hr;obtain line|el|u|rfl|_|gu:=cF qz h1;have wl:=S.wide line (av el);obtain pj|ej|rfl:=D6 h2;have hj:j < ps.9:=(aE.mp ej).1;have ejD:ps.getD j 0=pj:=by rw[aa,ej];rfl
   have pjn:=low j hj;rw[ejD] at pjn;have v0:=S.val j n;rw[Mv el] at v0
   have ed:line.getD pj 0=d:=by
    have h:=S.val j pj;rw[Mv el] at h;have u:=rr.unit j hj j hj;rw[if_pos rfl,ejD] at u;rw[u,C8] at h;exact eT.mp h
   have sr:aH H' (upd H' r (.tup [.ref u,.int pj])):=aH.new hr;have gr:(upd H' r (.tup [.ref u,.int pj])) r=some (.tup [.ref u,.int pj]):=aG;generalize upd H' r (.tup [.ref u,.int pj])=H5 at sr gr ⊢;have gu5:=(s'.trans sr) _ _ gu;exists b8 (bE.of gu5) (zj ()) ?_;exists b8 (bE.of gu5) (zj ()) ?_;rw[ed];exists #[_,d,rfl,S.d0,dsz,λr6 H6 s6 g6=>?_];have d0:(d:Rat)≠0:=λz=>S.d0 (qE z)
   have n6:bW K H6 (ck R j n) (.ref r6):=by
    refine bW.mk g6 ?_;rcases Int.lt_or_lt_of_ne S.d0 with hd' | hd'
    ·rw[if_pos hd',if_pos hd'];refine oi () ?_;rw[dE,dE,v0];grind
    ·rw[if_neg (),if_neg ()];refine oi hd' ?_;rw[v0];grind
   have ga6:=(sr.trans s6) _ _ ga;have la:=qa.9;rw[lE] at la;exists eC ga6 (eK ()) rfl ?_;refine #[((s'.trans sr).trans s6).after na,_,_,_,rfl,aG,?_];rw[<- Pc S.rr hj,ejD];exact jQ (Paired.imp' (λ_ _ z=>(bW.same z (sr.trans s6)).updL ga6) qa) pj (n6.updL ga6)
  ·rintro σ' H' ⟨s',y1,y2,vs,rfl,ga,qa⟩;rw[show zs.9=ps.9 by lia] at qa;exists k1 an R ps d.natAbs H' S.rr hn (s03.none na) (s03.trans s') #[vs,ga,qa] (by have:=S.d0;lia) (by rw[<- lj];exact S.dsz) ?_;rw[<- lj];exact UA (by have:=S.d0;lia) S.tp S.rr
theorem zL:sC ["rows","wide","due","answer","columns"] 3 DI:=by walk_at "d"
theorem Nw (T:Txt K mg Z):T.wF.o P w base 6 (Ca K):=by
 refine T.wF.F.k zL ?_;walk_at "i";obtain p|q|n|w|w1|H0|rows|due|rfl|G|Rd|hd|m90|n90|hw|F|F1|k1|k2:=h
 refine #[_,(au (eQ 3 zL.nd (cT (Cw T) hr T.qD (rB b6 c9 dW)))
  (au (di (bf DQ ic xM (bu _)) (aB (a8 (cD (cQ lK ic)))) bU)
  (au (eQ 4 zL.nd (cT (ky T) hr T.gI (cQ b6 c9)))
  (aB (a8 (cD (cQ lK (cT (Cw T) hr T.qD (rB (bK iU kU (dw (dB dW))) (bB be (by rfl) T.len aT (dB b6)) (bK iU (cT (mB T) hr T.gZ (dB c9)) (dw (dB (jJ (v:=.ref Z.a_ONE) rfl T.mg_ONE rfl))))))))))))),?_]
 walk_at "s"
 try rw[ik]
 exists #[p,q,n,w,H0,rows,due,rfl,G,Rd,hd,(),(),hw,F,λx R ps M H1 RR hn nx s1 Rx M0 M1 tM=>?_,λR ps H1 RR hn s1=>?_]
 ·exists #[rfl,_,rfl,?_];rw[show decide (V.ref x=V.non)=false from decide_eq_false (λz=>nomatch z)];exists bF λt H2 s2 g2=>?_
  exact k1 t x R ps M H2 RR hn g2 nx (s1.trans s2) (Rx.same s2) M0 M1 tM
 ·exists #[rfl,_,rfl,?_];rw[show decide (V.non=V.non)=true from decide_eq_true rfl];exists #[p,n,H0,rows,rfl,G.same s1,(),(),hw,λco H2 nc s2 G2=>?_];have s02:=s1.trans s2;exists cO λl3 H3 s3 n3 g3=>?_
  obtain cs|gc|qc|_:=G2.same s3;have lc:=qc.9;rw[dC] at lc;exists iT gc g3 (cC (cU (by rw[a9];lia))) λl4 H4 s4 n4 g4=>?_
  have s03:=s02.trans s3;have s04:=s03.trans s4;have G4:bp K (λ_=>none) H4 l4 (cu rows n++[due]):=xS (H:=H3) (bV (Paired.imp' (λ_ _ #[q',a,_,c]=>#[q',a,rfl,c]) qc) (.cons #[q,rfl,rfl,Rd.same s03] .nil)) s4 n4 g4;obtain xs|gx|qx|_:=G.same s04;have lx:=qx.9;exists #[_,_,rfl,.inl (bE.of gx),?_];rw[<- lx];exists #[n,rfl,(),λl5 H5 n5 s5 R5=>?_];exists cO λl6 H6 s6 n6 g6=>?_
  obtain zs|gz|qz:=R5.same s6;have lz:=qz.9;rw[aJ] at lz;exists iT gz g6 (cC (cU (by rw[a9];lia))) λl7 H7 s7 n7 g7=>?_
  have s47:=(s5.trans s6).trans s7;have s07:=s04.trans s47;have R7:cS K H7 l7 (List.replicate n 0++[1]):=#[_,g7,Paired.imp' (λ_ _ z=>bW.same z s7) (bV qz (.cons #[_,rfl,T.sq_ONE _] .nil))];have l1:(cu rows n++[due]).9=n+1:=by rw[ar,dC];rfl
  have w1':∀xs∈cu rows n++[due],xs.9=rows.9:=λxs hx=>by
   rcases ay.mp hx with hx | hx
   ·exact jW xs hx
   ·rw[aS.mp hx];exact hd
  exists #[l4,l7,rows.9,w1,_,_,_,rfl,G4.same s47,R7,by rw[l1,ar,aJ];rfl,(),(),w1',F1,λx R1 p1 M H8 RR1 hn1 nx s8 Rx M0 M1 tM=>?_,λR1 p1 H8 RR1 hn1 s8=>?_]
  ·exists bF λt H9 s9 g9=>?_
   rw[l1] at M1 tM;exact k2 t x R ps R1 p1 M H9 RR hn RR1 hn1 g9 (s07.none nx) ((s07.trans s8).trans s9) (Rx.same s9) M0 M1 tM
  ·exact absurd hn1 (Lg hd hw RR hn RR1)
theorem sW:sC ["rows","wide","row","answer"] 3 pC:=by walk_at "d"
theorem Ag (T:Txt K mg Z):T.kD.o P w base 7 (yg K):=by
 refine T.kD.F.k sW ?_;walk_at "i";obtain p|q|n|w|w1|H0|rows|row|rfl|G|Rr|hl|m90|n90|hw|F|F1|k1|k2:=h
 refine #[_,(au (eQ 3 sW.nd (cT (Nw T) hr T.wF (rB (cT (ky T) hr T.gI (cQ b6 c9)) (bB be (by rfl) T.len aT (dB b6)) dW)))
  (aB (a8 (cD (cQ (FT (bf dX (aX bS ic aj) lK (bu _)) lK lK) (aX bS ic aj)))))),?_]
 walk_at "s"
 try rw[ik]
 exists #[p,n,H0,rows,rfl,G,(),(),hw,λco H1 nc s1 G1=>?_];obtain xs|gx|qx|_:=G.same s1;have lx:=qx.9;exists #[_,_,rfl,.inl (bE.of gx),?_];rw[<- lx];have lT:(cu rows n).9=n:=dC;have eS:MJ (cu rows n) rows.9 row=dD (rows++[row]) (List.replicate rows.9 0++[1]):=by unfold MJ;rw[KU hw]
 exists #[co,q,rows.9,w,w1,_,cu rows n,row,rfl,G1,Rr.same s1,(),(),(),λxs hx=>jW xs hx,F,by rw[eS,lT];exact F1,λt x R ps M H2 RR hn g2 nx s2 Rx M0 M1 tM=>?_,λt x R ps R1 p1 M H2 RR hn RR1 hn1 g2 nx s2 Rx M0 M1 tM=>?_]
 ·rw[lT] at M1 tM;walk_at "w";rw[decide_eq_true rfl];exists bF λt2 H3 s3 g3=>?_
  exact k1 t2 x R ps M H3 RR hn g3 (s1.none nx) ((s1.trans s2).trans s3) (Rx.same s3) M0 M1 tM
 ·rw[lT] at M1 tM RR1 hn1 Rx;rw[eS] at RR1;walk_at "w";rw[decide_eq_false (show ¬(Str.ofString "no"=Str.ofString "yes") by decide)];exists bF λt2 H3 s3 g3=>?_
  exact k2 t2 x R ps R1 p1 M H3 RR hn RR1 hn1 g3 (s1.none nx) ((s1.trans s2).trans s3) (Rx.same s3) M0 M1 tM
theorem Dw:sC ["one","other"] 2 tu:=by walk_at "d"
theorem DS (T:Txt K mg Z):T.nR.o P w base 4 (Cm K):=by
 refine T.nR.F.k Dw ?_;walk_at "i";obtain p|q|xq|yq|rfl|hp|hq|hl|hz|hn|hm|k:=h;refine #[_,(aB (a8 (bX ["mine","yours"] [] [] (rz rfl T.zip (cQ b6 c9)) (λ_=>(oV K 2 (cM (eH 0) (cM (eH 1) ij)))) (λ_=>bZ) (λ_=>(cT (FW T) hr T.uq (cQ b6 c9)))))),?_];walk_at "s"
 try rw[ik]
 obtain xs|gx|qx:=id hp;obtain ys|gy|qy:=id hq;have lx:=qx.9;have ly:=qy.9;exists #[#[_,bE.of gx],#[_,bE.of gy],?_];refine uB (K:=K) (xs:=xs) (ws:=ys) (λi zs H'=>aH H H'/\Paired (bW K H') ((List.zipWith (λx y=>x - y) xq yq).take i) zs) j8 () #[aH.refl _,.nil] (λi zs H' _ #[s,_]=>#[bE.of (s _ _ gx),bE.of (s _ _ gy)]) ?_ ?_
 ·rintro i x y zs H' r hx hy hlen ⟨s,hP⟩ hr;obtain n|en|hn1:=cF qx hx;obtain m|em|hm1:=cF qy hy;have s1:=aH.new (o:=.tup [x,y]) hr;have s01:=s.trans s1;have gr:(upd H' r (.tup [x,y])) r=some (.tup [x,y]):=aG;generalize upd H' r (.tup [x,y])=Hr at s1 s01 gr ⊢;exists #[_,_,n,m,rfl,hn1.same s01,hm1.same s01,hn n (av en),hm m (av em),λr3 H3 s3 h3=>?_];refine #[s01.trans s3,?_];have ez:(List.zipWith (λx y=>x - y) xq yq)[i]?=some (n - m):=by rw[cR,en,em]
  rw[take_snoc ez];exact bV (Paired.imp' (λ_ _ z=>z.same (s1.trans s3)) hP) (.cons h3 .nil)
 ·rintro zs H' hy ⟨s,hP⟩ l hl';rw[aF (by rw[cV];lia)] at hP;exact k l _ (s.none hl') (s.trans (aH.new hl')) #[zs,aG,Paired.imp' (λ_ _ z=>z.same (aH.new hl')) hP]
theorem sE:sC ["self","state","puts","columns"] 3 iq:=by walk_at "d"
theorem yD (T:Txt K mg Z):uH P w K mg base Mc 5 Z.oN Z.oM ["self","state","puts"] (Cj K Z.a_System):=by
 refine T.uI.k sE ?_;walk_at "i";obtain x|p|q|H0|mv|pt|lk|st|pu|rfl|S|D|F|hp|hq|l1|l2|fs|k:=h
 refine #[_,(au (eQ 3 sE.nd (cT (ky T) hr T.gI (cQ (gN b6 rfl) (gN b6 rfl))))
  (aB (a8 (bX ["line","column"] ["state","puts"] [1,2] (rz rfl T.zip (cQ (gN b6 rfl) ic)) (λ_=>(oV K 2 (cM (eH 0) (cM (eH 1) ij)))) (λ_=>bZ) (λ_=>(cT (rF T) hr T.jS (cQ (bK iU b6 c9) (bK iU dW ic)))))))),?_]
 walk_at "s"
 try rw[ik]
 obtain dx|a|b|c|gx|n1|n2|n3|Ga|Gb|Gc:=id S;have d1:=D.n8;have d2:=D.i4;exists #[x,Z.a_System,dx,_,_,rfl,gx,T.cl_System,T.na_put,yT,?_];exists #[x,Z.a_System,dx,_,_,rfl,gx,T.cl_System,T.na_states,gX,?_];exists #[b,mv.9,H0,pt,rfl,Gb,(),(),D.pw,λt H1 nt s1 Gt=>?_];obtain as|ga|qa|_:=Ga.same s1;obtain ts|gt|qt|_:=id Gt;have la:=qa.9;have lt:=qt.9;rw[dC] at lt;have gx1:=s1 _ _ gx;exists #[x,Z.a_System,dx,_,_,rfl,gx1,T.cl_System,T.na_move,zx,?_];exists #[#[_,bE.of ga],#[_,bE.of gt],?_];refine uB (K:=K) (xs:=as) (ws:=ts) (λi ys H'=>aH H1 H'/\Paired (bW K H') ((iV mv pt st pu).take i) ys) j8 () #[aH.refl _,.nil] (λi ys H' _ #[s,_]=>#[bE.of (s _ _ ga),bE.of (s _ _ gt)]) ?_ ?_
 ·rintro i v1 v2 ys H' r h1 h2 hy ⟨s,pr⟩ hr;obtain line|el|u1|rfl|_|R1:=cF qa h1;obtain col|ec|u2|rfl|_|R2:=cF qt h2;have ml:=av el;have mc:=av ec;have sr:aH H' (upd H' r (.tup [.ref u1,.ref u2])):=aH.new hr;have gr:(upd H' r (.tup [.ref u1,.ref u2])) r=some (.tup [.ref u1,.ref u2]):=aG;have s2:=s.trans sr;generalize upd H' r (.tup [.ref u1,.ref u2])=H2 at sr gr s2 ⊢;have lc:col.9=pt.9:=jW col mc;have ll:line.9=mv.9:=D.mw line ml;obtain z1|g1|q1:=R1.same s2;obtain z2|g2|q2:=R2.same s2;have y1:=q1.9;have y2:=q2.9;exists iT g1 g2 j8 λc1 H3 s3 n3' g3=>?_
  have s13:=s2.trans s3;obtain z3|g4|q3:=(hp.same s1).same s13;obtain z4|g5|q4:=(hq.same s1).same s13;have y3:=q3.9;have y4:=q4.9;exists iT g4 g5 j8 λc2 H4 s4 n4 g6=>?_
  have s34:=s3.trans s4;exists #[c1,c2,line++col,st++pu,rfl,#[_,s4 _ _ g3,Paired.imp' (λ_ _ z=>z.same s34) (bV q1 q2)],#[_,g6,Paired.imp' (λ_ _ z=>z.same s4) (bV q3 q4)],by rw[ar,ar];lia,by rw[ar];lia,.sys ?_ fs,λr2 H5 s5 h5=>?_]
  ·refine F.fits λy hy=>?_
   rcases ay.mp hy with hy | hy
   ·exact .inl #[line,ml,hy]
   ·obtain j|_|rfl:=aA.mp mc;obtain xs|hx|rfl:=aA.mp hy;by_cases hj:j < xs.9
    ·refine .inr (.inl #[xs,hx,?_]);rw[aa,ae hj];exact aM hj
    ·exact .inr (.inr (.inr (by rw[aa,aQ ()];rfl)))
  ·have em:(iV mv pt st pu)[i]?=some (cA (line++col) (st++pu)):=by
    unfold iV;rw[cR,el,ec]
   refine #[((s2.trans s34).trans s5),?_];rw[take_snoc em];exact bV (Paired.imp' (λ_ _ z=>(z.same (sr.trans s34)).same s5) pr) (.cons h5 .nil)
 ·rintro ys H' hy ⟨s,pr⟩ l hl;have lm:(iV mv pt st pu).9=mv.9:=by unfold iV;rw[cV,dC];lia
  rw[aF ()] at pr;exact k l _ (s1.none (s.none hl)) ((s1.trans s).trans (aH.new hl)) #[ys,aG,Paired.imp' (λ_ _ z=>z.same (aH.new hl)) pr]
theorem xo:sC ["system","start","puts","states","row"] 3 zV:=by walk_at "d"
theorem Ln (T:Txt K mg Z):T.uS.o P w base 6 (zI K Z.a_System):=by
 refine T.uS.F.k xo ?_;walk_at "i";obtain x|s|p|H0|H1|mv|pt|lk|pus|st|rfl|S|D|F|Rs|ls|Gp|lp|wp|cf|k:=h
 refine #[_,(au (eQ 3 xo.nd (dw (dB (dI rZ (by rfl) T.list PyProof.Rows.boot_list (dB c9)))))
  (au (eO PassesOwn.never rfl (b9 dW) (eH 4 xo.nd)
   (aB (gP (qB cb dk dj iS ic (dB (Qd b6 T.cl_System T.sH (yD T) (hr.mono ()) T.uD .nil Nt (cQ (aX bC ic (qq lD aj)) kU)))))))
  (aB (a8 ic)))),?_]
 walk_at "s"
 try rw[ik]
 have d1:=D.n8;obtain ss|gs|qs:=id Rs;obtain ps|gp|qp|_:=id Gp;have lps:=qp.9;exists #[s,ss,rfl,.inl (bE.of gs),λc hc=>?_];have sc:aH H (upd H c (.lst ss)):=aH.new hc;have Rc:cS K (upd H c (.lst ss)) c st:=#[ss,aG,Paired.imp' (λ_ _ z=>z.same sc) qs];generalize upd H c (.lst ss)=Hc at sc Rc ⊢;exists cO λl Hl sl nl gl=>?_
 have hl0:=sc.none nl;have s0:=sc.trans sl;have cl:c≠l:=λz=>by obtain _|g|_:=Rc;rw[z,nl] at g;cases g
 have pr0:Paired (yd K H l Hl) ((o7 mv pt st pus).take 1) [V.ref c]:=by
  have:(o7 mv pt st pus).take 1=[st]:=by
   have e:=take_snoc (uY (mv:=mv) (pt:=pt) (st:=st) (pus:=pus) (k:=0) (br _));rw[e];rfl
  rw[this];exact .cons #[c,rfl,hc,cl,Rc.same sl] .nil
 exists #[#[_,bE.of (s0 _ _ gp)],?_];refine iP (K:=K) (a:=p) (xs:=ps) (λi σ' H'=>aH H H'/\(∃y ys,σ'=[some (.ref x),some (.ref s),some (.ref p),some (.ref l),y]/\H' l=some (.lst ys)/\Paired (yd K H l H') ((o7 mv pt st pus).take (i+1)) ys)) #[s0,_,_,rfl,gl,pr0] (λi σ' H' _ #[e,_]=>bE.of (e _ _ gp)) ?_ ?_
 ·rintro i v σ' H' hv ⟨e,y,ys,rfl,g,pr⟩;obtain pu|epu|u|rfl|_|Ru:=cF qp hv;have hi:i < pus.9:=(aE.mp epu).1;have mp:=av epu;have ly:=pr.9;rw[bY,vT] at ly;have ec:=uY (mv:=mv) (pt:=pt) (st:=st) (pus:=pus) (k:=i) ();have el:ys[i]?=some (ys[i]'()):=ae ()
  obtain ⟨vl,evl,q,hq1,hq2,hq3,Rq⟩:∃vl,ys[i]?=some vl/\∃q,vl=V.ref q/\H q=none/\q≠l/\cS K H' q (qJ mv pt st pus i):=by
   obtain xs|ex|w:=cF pr el;rw[xf (),ec] at ex;cases ex;exact #[_,el,w]
  subst hq1
  have ey:∃zs,ys=zs++[V.ref q]:=by
   refine #[ys.take i,?_];rw[<- take_snoc evl,aF ()]
  obtain zs|rfl:=ey;exists #[.inl #[rfl,_,bE.of g],?_];walk_at "w";obtain dx|_|_|_|gx|_:=S.same e;refine #[x,dx,_,rfl,gx,K2,?_];exists b8 (bE.of g) (uE _ _) ?_;exists #[x,q,u,H0,mv,pt,lk,_,pu,rfl,S.same e,D,F,Rq,Ru.same e,qM ls (),wp pu mp,cf.both () mp,λr1 H2 n2 s2 R2=>?_];have gn:=s2 _ _ g;exists lJ gn (cU ()) ?_;refine #[La (e.trans s2) hl0,_,_,rfl,aG,?_];rw[take_snoc (uY ()),sT epu];have rl:r1≠l:=λz=>by rw[z,g] at n2;cases n2
  exact bV (Paired.imp' (λ_ _ z=>(yd.same z s2).upd gn) pr) (.cons #[r1,rfl,e.none n2,rl,R2.updL gn rl] .nil)
 ·rintro σ' H' ⟨e,y,ys,rfl,g,pr⟩;walk_at "w";rw[aF (by rw[vT];lia)] at pr;exact k l H' hl0 e #[ys,g,Paired.imp' (λ_ _ z=>yd.rowF z) pr,zY pr]
theorem zN:sC ["system","steps"] 2 pG:=by walk_at "d"
theorem uf (T:Txt K mg Z):T.je.o P w base 2 (Fl K Z.a_System):=by
 refine T.je.F.k zN ?_;walk_at "i";obtain x|tt|H0|mv|pt|lk|rfl|hT|S|D|k:=h;refine #[_,(aB (a8 (bX ["step"] ["system"] [0] (cE rfl T.range (dB c9)) (λ_=>(eH 0)) (λ_=>bZ) (λ_=>(cT (mB T) hr T.gZ (dB (DO K c9 rfl))))))),?_];walk_at "s"
 try rw[ik]
 obtain dx|a'|b'|c'|gx|_|_|_|Ga|Gb|Gc:=id S;have i4:=D.i4;exists #[(),(),?_];refine fD (n:=tt) (cW K H) (λ(_:Nat)=>List.replicate pt.9 (0:Rat)) () (λa b=>a.same b) ?_ ?_
 ·rintro i Hb NY NN hi sa k1;exists #[x,Z.a_System,dx,_,_,rfl,sa _ _ gx,T.cl_System,T.na_ins,JY,?_];exists #[pt.9,rfl,(),λr H2 nr s2 R2=>k1 _ _ s2 #[r,rfl,sa.none nr,R2]]
 rintro ys Hz t ht sz g pr nx;have e:(List.range tt).map (λ(_:Nat)=>List.replicate pt.9 (0:Rat))=List.replicate tt (List.replicate pt.9 0):=by rw[sO,cz]
 rw[e] at pr nx;exact k t Hz ht sz #[ys,g,pr,iH nx]
theorem IB:sC ["system","start","goal","steps"] 4 xA:=by walk_at "d"
theorem IY (T:Txt K mg Z):T.rO.o P w base 7 (Fs K Z.a_System):=by
 refine T.rO.F.k IB ?_;walk_at "i";obtain x|s|g|tt|H0|mv|pt|lk|st|go|rfl|hT|S|D|F|Rs|ls|Rg|lg|cf|sg|k:=h;refine #[_,(aB (a8 (cT (DS T) hr T.nR (cQ dW (aX bC (cT (Ln T) hr T.uS (rB b6 c9 (cT (uf T) hr T.je (cQ b6 ic)))) (qq lD aj)))))),?_];walk_at "s"
 try rw[ik]
 have d8:=D.n8;have i4:=D.i4;exists #[x,tt,H0,mv,pt,lk,rfl,(),S,D,λp1 H1 n1 s1 G1=>?_];exists #[x,s,p1,H0,H,mv,pt,lk,_,st,rfl,S.same s1,D,F,Rs.same s1,ls,G1,by rw[aJ];lia,λxs hx=>by rw[(du.mp hx).2,aJ],cf,λp2 H2 n2 s2 G2=>?_];obtain us|gu|qu|_:=id G2;have lu:=qu.9;rw[vT,aJ] at lu;have ec:=uY (mv:=mv) (pt:=pt) (st:=st) (pus:=List.replicate tt (List.replicate pt.9 0)) (k:=tt) (by rw[aJ];exact ak _);have el:us[tt]?=some (us[tt]'()):=ae ()
 obtain ⟨q,eq,Rq⟩:∃q,us[tt]?=some (V.ref q)/\cS K H2 q (oR mv tt st):=by
  obtain xs|ex|q|e|_|w:=cF qu el;rw[ec] at ex;cases ex;rw[Iw D ls] at w;exact #[q,by rw[el,e],w]
 have ey:∃zs,us=zs++[V.ref q]:=by
  refine #[us.take tt,?_];rw[<- take_snoc eq,aF ()]
 obtain zs|rfl:=ey
 have szp:∀y∈oR mv tt st,mU y:=λy hy=>by
  have:=(cf.state (k:=tt) (by rw[aJ];exact ak _)).szn (x:=y);rw[Iw D ls] at this;exact this hy
 exists b8 (bE.of gu) (uE _ _) ?_;exists #[g,q,go,_,rfl,(Rg.same s1).same s2,Rq,by rw[lg,uN ls],(),sg,szp,λr H3 n3 s3 R3=>k r H3 ((s1.trans s2).none n3) ((s1.trans s2).trans s3) R3]
theorem Si:sC ["row","many","wide"] 3 MV:=by walk_at "d"
theorem S9 (T:Txt K mg Z):T.D7.o P w base 1 (Kb K):=by
 refine T.D7.F.k Si ?_;walk_at "i";obtain p|u|kk|w|rfl|Rw|lw|uk|u1|k1|k:=h;refine #[_,(aB (a8 (bX ["turn"] ["row","wide"] [0,2] (cE rfl T.range (dB c9)) (λ_=>(eH 0)) (λ_=>bZ) (λ_=>(qA (zK K (by rfl)) c9 (mo (bK dQ b6 dW)) (mo (bK dQ (bK fo b6 aj) dW))))))),?_];walk_at "s"
 try rw[ik]
 obtain xs|gx|qx:=id Rw;have lx:=qx.9;exists #[(),(),?_];refine fD (n:=u) (cW K H) (λt=>(w.drop (t*kk)).take kk) () (λa b=>a.same b) ?_ ?_
 ·rintro i Hb NY NN hi sa k2;have b1:i*kk+kk<=u*kk:=by rw[<- eD];exact ax _ hi
  exists iF (EA () ()) ?_;exists iF (KD () ()) ?_;walk_at "w";rw[show ((i:Int)*(kk:Int))=((i*kk:Nat):Int) by lia,show (((i:Int)+1)*(kk:Int))=((i*kk:Nat):Int)+(kk:Int) by rw[Int.add_mul,Int.one_mul];lia];refine #[p,xs,rfl,bE.of (sa _ _ gx),λr hr=>?_];rw[QE ()];have sn:=aH.new (o:=.lst ((xs.drop (i*kk)).take kk)) hr;exact k2 _ _ sn #[r,rfl,sa.none hr,_,aG,Paired.imp' (λ_ _ z=>(z.same sa).same sn) (mQ (pV qx _) _)]
 rintro ys Hz t ht sz g pr nx;exact k t Hz ht sz #[ys,g,pr,iH nx]
theorem v5:sC ["system","start","goal","steps","used","rows","answer","latest_first"] 4 IG:=by walk_at "d"
theorem Qn (T:Txt K mg Z):T.yX.o P w base 8 (Fy K Z.a_System):=by
 refine T.yX.F.k v5 ?_;walk_at "i";obtain x|s|g|tt|a|c|D0|W0|E0|W1|H0|mv|pt|lk|st|go|rfl|hT|S|D|SF|F|Rs|ls|Rg|lg|cf|sg|CF|k1|k2:=h
 refine #[_,(au (eQ 4 v5.nd (bK kx (bB be (by rfl) T.len aT (dB (cT (ue T) hr T.jd (cQ b6 ic)))) aj))
  (au (eQ 5 v5.nd (cT (Qm T) hr T.yW (dB (cT (DV T) hr T.nW (cQ b6 kU)))))
  (au (eQ 6 v5.nd (cT (Ag T) hr T.kD (rB pU (gN b6 rfl) (cT (IY T) hr T.rO (Ae b6 c9 dW ic)))))
  (au (di (bf dX (aX bS oQ aj) lK (bu _)) (aB (a8 (cD (cQ lK (aX bS oQ aj))))) bU)
  (au (eQ 7 v5.nd (cT (S9 T) hr T.D7 (rB (aX bS oQ aj) kU (gN b6 rfl))))
  (aB (a8 (cD (cQ lK (bK iU (cT (uf T) hr T.je (cQ b6 (bK kx ic kU))) (IU K rfl T.list rfl T.reversed (dB AZ)))))))))))),?_]
 walk_at "s"
 try rw[ik]
 have d8:=D.n8;have i4:=D.i4;obtain dx|a'|b'|c'|gx|_:=id S;exists #[x,a,c,tt,H0,mv,pt,lk,rfl,(),S,D,F,λr1 Rs1 H1 n1 s1 GL Gw ln hlast=>?_];obtain us|gus|pus1:=id GL;have lus:=pus1.9;have rne:=Gw.ne;have lpos:0 < Rs1.9:=uL.mpr rne;exists #[_,_,rfl,.inl (bE.of gus),?_];rw[<- lus];obtain ⟨u,eu⟩:∃u,Rs1.9=u+1:=#[Rs1.9 - 1,()];rw[eu];have eL:Rs1[u]?=some (Rs1[u]'()):=ae ();obtain ⟨R,eR⟩:∃R,Rs1[u]?=some R:=#[_,eL];obtain ps|RRu:=Gw.rr u R eR;have ul:=Gw.len u R eR;have un:u<=mv.9:=by have:=RRu.le;have:=RRu.1;lia
 have uT:u<=tt:=()
 obtain ⟨psT,RRT⟩:∃ps,bI (kry mv pt tt) mv.9 R ps:=by
  refine hlast R ?_ tt ();rw[List.getLast?_eq_getElem?,eu];exact eR
 have CU:=Gw.cmu eR RRT;walk_at "w";rw[show ((((u+1:Nat):Int)) - 1)=(u:Int) by lia];refine #[x,u,a,c,H0,mv,pt,lk,rfl,un,S.same s1,D,F,λr2 us2 H2 n2 s2 g2 p2=>?_];have s02:=s1.trans s2;have kl:=yZ (mv:=mv) (pt:=pt) u;have kl2:u*pt.9<=8*4:=aL () i4;exists #[r2,us2,LV mv pt u,rfl,g2,p2,by rw[zb];lia,λr3 H9 H3 n3 s3 G3=>?_];rw[zb] at G3;have s03:=s02.trans s3;exists #[x,Z.a_System,dx,_,_,rfl,s03 _ _ gx,T.cl_System,T.na_states,gX,?_];exists #[x,s,g,tt,H0,mv,pt,lk,st,go,rfl,hT,S.same s03,D,SF,Rs.same s03,ls,Rg.same s03,lg,cf,sg,λr4 H4 n4 s4 R4=>?_];have s04:=s03.trans s4;have lL:=NQ (T:=tt) ls lg;have wk:=iB (mv:=mv) (pt:=pt) rfl D.pw u;have tk:=CF.tk u un;have up0:∀y,Tp D0 W0 y->Tp (D0*E0) (W0*E0+W1*D0+D0*E0) y:=λy h=>h.up E0 ()
 have up1:∀y,Tp E0 W1 y->Tp (D0*E0) (W0*E0+W1*D0+D0*E0) y:=λy h=>by
  rw[cv D0 E0];exact h.up D0 ()
 have up2:∀y,y=0\/y=1->Tp (D0*E0) (W0*E0+W1*D0+D0*E0) y:=λy h=>by
  rcases h with rfl | rfl
  ·exact Tp.zero
  ·exact #[((D0*E0:Nat):Int),by rw[OM,aW],by rw[cJ];lia]
 obtain wa|sw1:=CF.join (rows:=cu (kry mv pt u) mv.9) (due:=i5 mv tt st go) (n':=(kry mv pt u).9+1) (by rw[dC];exact lL) (λys hy y hy'=>by
  obtain j|_|rfl:=aA.mp hy;obtain zs|hz|rfl:=aA.mp hy';exact up0 _ (kb (tk zs hz) j)) (λy hy=>up1 y (CF.tl y hy)) d8 (by rw[dC];lia)
 obtain wb|sw2:=CF.join (rows:=kry mv pt u++[i5 mv tt st go]) (due:=List.replicate (kry mv pt u).9 0++[1]) (n':=mv.9+1) (by simp) (λys hy y hy'=>by
  rcases ay.mp hy with hy | hy
  ·exact up0 _ (tk ys hy y hy')
  ·rw[aS.mp hy] at hy';exact up1 _ (CF.tl y hy')) (λy hy=>by
  rcases ay.mp hy with hy | hy
  ·exact up2 _ (.inl (du.mp hy).2)
  ·exact up2 _ (.inr (aS.mp hy))) d8 (yA _ _)
 exists #[r3,r4,mv.9,wa,wb,H9,kry mv pt u,i5 mv tt st go,rfl,G3.same s4,R4,lL,(),(),wk,sw1,sw2,#[λt5 x5 R5 ps5 M5 H5 RR5 hn5 g5 n5 s5 R5' M50 M51 tp5=>?_,λt5 x5 R5 ps5 R6 ps6 M5 H5 RR5 hn5 RR6 hn6 g5 n5 s5 R5' M50 M51 tp5=>?_]]
 ·have s05:=s04.trans s5;have x50:=s04.none n5;have ew:=KR lL RR5 hn5;have CP:VL mv pt tt (i5 mv tt st go) (zZ (ip R5 ps5 (kry mv pt u).9) tt u pt.9):=#[u,R5,ps5,CU,RR5,hn5,rfl];have lw:(ip R5 ps5 (kry mv pt u).9).9=(kry mv pt u).9:=lE;obtain q|q0|q1|q2:=Sg wk lL () CF.d0 CF.e0 CF.w0 CF.w1 tk CF.tl RR5 hn5;generalize ip R5 ps5 (kry mv pt u).9=ws at ew lw q2 R5' tp5 CP;have lead:=JF D ls lg uT lw ew;have lw2:ws.9=u*pt.9:=by rw[lw,kl]
  walk_at "w";rw[decide_eq_false (show ¬(Str.ofString "in"=Str.ofString "out") by decide)];exists #[x,Z.a_System,dx,_,_,rfl,s05 _ _ gx,T.cl_System,T.na_ins,JY,?_];exists #[x5,u,pt.9,ws,rfl,R5',lw2,(),(),(),λr6 H6 n6 s6 G6=>?_];have s06:=s05.trans s6;walk_at "w";rw[show ((tt:Int) - (u:Int))=((tt - u:Nat):Int) by lia];refine #[x,tt - u,H0,mv,pt,lk,rfl,(),S.same s06,D,λr7 H7 n7 s7 G7=>?_];obtain vs|gv|qv|_:=id (G6.same s7);have lv:=qv.9;have lc:(yK ws u pt.9).9=u:=by unfold yK;rw[af,cz]
  unfold Fc;exists #[r6,vs,rfl,bE.of gv,(),λr8 H8 s8 n8 g8=>?_];have s67:=s7.trans s8;obtain zs|gz|qz|_:=id (G7.same s8);have lz:=qz.9;rw[aJ] at lz;exists iT gz g8 (cC (cU (by rw[dS];lia))) λr9 H9 s9 n9 g9=>?_
  have s09:=(s06.trans s67).trans s9;have qz0:Paired (cW K H H8) (List.replicate (tt - u) (List.replicate pt.9 0)) zs:=Paired.imp' (λ_ _ #[q,a,b,c]=>#[q,a,s06.none b,c]) qz;have qv0:Paired (cW K H H8) (yK ws u pt.9).reverse vs.reverse:=Ad (Paired.imp' (λ_ _ #[q,a,b,c]=>#[q,a,s05.none b,cS.same c s8]) qv);have G9:bp K H H9 r9 (zZ ws tt u pt.9):=#[_,g9,Paired.imp' (λ_ _ z=>cW.same z s9) (bV qz0 qv0),iH #[H8,n9,bV qz0 qv0]];exists bF λt10 H10 s10 g10=>?_
  exact k1 t10 r9 _ q H10 g10 ((s06.trans s67).none n9) (s09.trans s10) (G9.same s10) (Kg uT) (Rm lw2) lead CP q0 q1 (P8 Tp.zero q2)
 ·have s05:=s04.trans s5;have x50:=s04.none n5;have lw:(ip R6 ps6 mv.9).9=mv.9:=lE;obtain pr1|pr2:=Lf wk lL RR6 hn6;obtain q|q0|q1|q2:=Nn wk lL () CF.d0 CF.e0 CF.w0 tk CF.tl RR6 hn6;walk_at "w";rw[decide_eq_true rfl];exists bF λt10 H10 s10 g10=>?_
  exact k2 t10 x5 _ q H10 g10 x50 (s05.trans s10) (R5'.same s10) lw (Lh D.pw RRu RRT lw pr2) pr1 #[u,R5,ps5,R6,ps6,CU,RR5,hn5,RR6,rfl] q0 q1 q2
theorem qN:sC ["system","start","goal","most","prices","steps","answer"] 4 xt:=by walk_at "d"
theorem IW (T:Txt K mg Z):T.rM.o P w base 9 (Fh K Z.a_System):=by
 refine T.rM.F.k qN ?_;walk_at "i";obtain x|s|g|tt|a|c|H0|mv|pt|lk|st|go|rfl|hT|S|D|SF|KF|Rs|ls|Rg|lg|SO|k:=h
 refine #[_,(au (eQ 4 qN.nd (dw ir))
  (au (eO PassesOwn.never rfl (cE rfl T.range (dB (bK fo ic aj))) (eH 5 qN.nd)
   (au (eQ 6 qN.nd (cT (Qn T) hr T.yX (Ae b6 c9 dW pU)))
  (au (di (bf dX (aX bS oQ aj) lK (bu _)) (aB (a8 (cD (rB pU (aX bS oQ aj) kU)))) bU)
  (aB (gP (qB cb dk dj iS kU (dB (aX bS oQ aj))))))))
  (aB (a8 (cD (rB xM (dw ir) kU)))))),?_]
 walk_at "s"
 try rw[ik]
 exists cO λpl H1 s1 n1 g1=>?_
 exists #[(),(),?_];rw[show ((tt:Int)+1).toNat=tt+1 by lia];refine fH (n:=tt+1) (λj σ' H'=>aH H H'/\∃us prs y1 y2,σ'=[some (.ref x),some (.ref s),some (.ref g),some (.int tt),some (.ref pl),y1,y2]/\H' pl=some (.lst us)/\Paired (cW K H H') prs us/\V.ref pl∉us/\prs.9=j/\∀i pr,prs[i]?=some pr->Mi mv pt st go i pr) #[s1,[],[],_,_,rfl,g1,.nil,(λz=>nomatch z),rfl,(λi pr z=>by simp at z)] ?_ ?_
 ·rintro j σ' H2 hj ⟨s2,us,prs,y1,y2,rfl,gp,pp,np,lp,hp⟩;have lu:=pp.9;obtain D0|W0|E0|W1|CT|hA|hB:=SO j ();exists #[x,s,g,j,a,c,D0,W0,E0,W1,H0,mv,pt,lk,st,go,rfl,(),S.same s2,D,SF,KF,Rs.same s2,ls,Rg.same s2,lg,CT.cf,CT.sg,CT.co,#[λt3 p3 pus q H3 g3 n3 s3 G3 l3 w3 st3 cp q0 q1 q2=>?_,λt3 p3 pr q H3 g3 n3 s3 R3 l3 w3 d3 cn q0 q1 q2=>?_]]
  ·walk_at "w";rw[decide_eq_true rfl];exists bF λt4 H4 s4 g4=>?_
   exact k (.int j) t4 p3 pl pus prs H2 H4 g4 s2 (s3.trans s4) n1 #[us,gp,pp,np] n3 (G3.same s4) #[hp,.inl #[j,rfl,(),lp,hA pus q l3 w3 st3 cp q0 q1 q2]]
  ·have gp3:=s3 _ _ gp;have pn:p3≠pl:=λz=>by rw[z,gp] at n3;cases n3
   walk_at "w";rw[decide_eq_false (show ¬(Str.ofString "never"=Str.ofString "puts") by decide)];exists #[.inl #[rfl,_,bE.of gp3],?_];exists lJ gp3 (cU ()) ?_;refine #[(s2.trans s3).after n1,us++[.ref p3],prs++[pr],_,_,rfl,aG,bV (tZ (λa x hx #[q',a1,a2,a3,a4,a5]=>#[q',a1,a2,a3,by rw[bo λz=>np (by rw[<- z,<- a1];exact hx)];exact s3 _ _ a4,Paired.imp' (λ_ _ z=>(bW.same z s3).updL gp3) a5]) pp) (.cons #[p3,rfl,s2.none n3,?_] .nil),λz=>?_,by rw[ar,a9,lp],λi pr' hi=>?_]
   ·obtain a1|a2|a3:=R3;exact #[a1,by rw[bo pn];exact a2,Paired.imp' (λ_ _ z=>z.updL gp3) a3]
   ·rcases ay.mp z with z | z
    ·exact np z
    ·rw[aS] at z;cases z;exact pn rfl
   ·rcases cB i prs.9 with z | z
    ·rw[bG z] at hi;exact hp i pr' hi
    ·rw[bc z] at hi
     have:i - prs.9=0:=by
      rcases iI (i - prs.9) with e | e
      ·exact e
      ·rw[aQ (by rw[a9];lia)] at hi;cases hi
     rw[this] at hi;cases hi;obtain rfl:i=j:=()
     exact hB pr q l3 w3 d3 cn q0 q1 q2
 ·rintro σ' H2 ⟨s2,us,prs,y1,y2,rfl,gp,pp,np,lp,hp⟩;exists cO λel H3 s3 n3 g3=>?_
  exists bF λt4 H4 s4 g4=>?_
  exact k .non t4 el pl [] prs H2 H4 g4 s2 (s3.trans s4) n1 #[us,gp,pp,np] n3 #[_,s4 _ _ g3,.nil,λz=>nomatch z] #[hp,.inr #[rfl,rfl,lp]]
theorem xr:sC ["things","at"] 2 nD:=by walk_at "d"
theorem lS (T:Txt K mg Z):T.gC.o P w base 1 (Fz K):=by
 refine T.gC.F.k xr ?_;walk_at "i";obtain p|i|xs|rfl|gp|hi|l500|k:=h;refine #[_,(aB (a8 (bK iU (bK iU (dw (dB (aX (kL K (by rfl)) b6 c9))) (qA (zK K (by rfl)) b6 we (mo c9))) (qA (zK K (by rfl)) b6 (mo (bK fo c9 aj)) we)))),?_];walk_at "s"
 try rw[ik]
 exists b8 (bE.of gp) (dq (ae hi)) ?_;exists cO λl1 H1 s1 n1 g1=>?_
 exists IJ (bE.of (s1 _ _ gp)) λl2 H2 s2 n2 g2=>?_
 rw[Ho] at g2;exists iT (s2 _ _ g1) g2 (cC (cU (by rw[a9,bY];lia))) λl3 H3 s3 n3 g3=>?_
 have s03:=(s1.trans s2).trans s3;exists IJ (bE.of (s03 _ _ gp)) λl4 H4 s4 n4 g4=>?_
 rw[show ((i:Int)+1)=((i+1:Nat):Int) by lia,Oz] at g4;exists iT (s4 _ _ g3) g4 (cC (cU (by rw[ar,a9,bY,mM];lia))) λl5 H5 s5 n5 g5=>?_
 refine k l5 H5 ((s03.trans s4).none n5) ((s03.trans s4).trans s5) ?_;unfold c5;rw[ae hi];exact g5
theorem mP:sC ["system","goal","found","own","first","weights"] 2 vF:=by walk_at "d"
theorem yr (T:Txt K mg Z):T.mR.o P w base 10 (Cb K Z.a_System):=by
 refine T.mR.F.k mP ?_;walk_at "i";obtain x|g|a|c|H0|mv|pt|lk|go|rfl|S|D|SF|F|Rg|lg|SO|FN|k1|k2:=h
 refine #[_,(au (eQ 2 mP.nd (cT (IW T) hr T.rM (Ae b6 (cT (mB T) hr T.gZ (dB (gN b6 rfl))) c9 (gN b6 rfl))))
  (au (di (bf DQ (aX bS dW aj) xM (bu _)) (aB (a8 (cD (rB lK (aX bS dW aj) (aX bS dW aj))))) bU)
  (au (eQ 3 mP.nd (cT (wo T) hr T.kE (dB b6)))
  (au (eQ 4 mP.nd (bB (C0 rfl) (by rfl) T.min PyProof.Rows.boot_min (dB (bX ["at","row"] ["goal"] [1] (DN rfl T.enumerate (dB (aX bS ic aj))) (λ_=>(oV K 2 (cM (eH 0) (cM (eH 1) ij)))) (λ_=>IP (bf (Ki K (by rfl) (yG hr)) (cT (rF T) hr T.jS (cQ c9 dW)) (jJ (v:=.ref Z.a_NOUGHT) rfl T.mg_NOUGHT rfl) (bu _))) (λ_=>b6)))))
  (au (iY 5 ["row"] ["first"] [4] mP.nd rfl rfl (b9 (cT (lS T) hr T.gC (cQ (aX bS ic aj) kU))) (λ_=>(eH 0)) (λ_=>bZ) (λ_=>(cT (lS T) hr T.gC (cQ b6 c9))))
  (aB (a8 (cD (rB lK (cT (lS T) hr T.gC (cQ (aX bS ic aj) kU)) pU))))))))),?_]
 walk_at "s"
 try rw[ik]
 have d8:=D.n8;obtain dx|am|ap|al|gx|_:=id S;exists #[x,Z.a_System,dx,_,_,rfl,gx,T.cl_System,T.na_states,gX,?_];exists #[mv.9,rfl,(),λre H1 nre s1 R1=>?_];have gx1:=s1 _ _ gx;exists #[x,Z.a_System,dx,_,_,rfl,gx1,T.cl_System,T.na_states,gX,?_];exists #[x,re,g,mv.9,a,c,H0,mv,pt,lk,List.replicate mv.9 0,go,rfl,(),S.same s1,D,SF,F,R1,aJ ..,Rg.same s1,lg,SO,λkv ft fp fr pus prs Hm H2 gft sm sm2 nfr Gr nfp Gp SR=>?_];have s2:=sm.trans sm2;have s02:=s1.trans s2;obtain ⟨SRp,⟨kk,rfl,k1',lk1,SA⟩ | ⟨rfl,rfl,lk1⟩⟩:=SR
 ·exists #[rfl,?_];rw[decide_eq_false (show ¬(V.int (kk:Int)=V.non) from λz=>nomatch z)];exists bF λt3 H3 s3 g3=>?_
  refine k1 t3 fp kk pus H3 g3 (s02.trans s3) ((s1.trans sm).none nfp) ((Gp.same s3).weak (s1.trans sm)) #[k1',SA,λj hj=>?_];exact #[_,SRp j _ (ae ())]
 have SB:Mi mv pt (List.replicate mv.9 0) go mv.9 _:=SRp mv.9 _ (ae ());exists #[rfl,?_];rw[decide_eq_true rfl];exists #[x,a,c,H0,mv,pt,lk,rfl,S.same s02,D,F,λot op oq R ps Hn H3 got sn sn3 nop GN noq GU RR=>?_];have s3:=sn.trans sn3;have s03:=s02.trans s3;have wN:∀xs∈aU R ps mv.9,xs.9=mv.9:=oX;have nc:=uP RR;have lUN:(nM mv R ps).9=(aU R ps mv.9).9:=uM;have wU:∀xs∈nM mv R ps,xs.9=(aU R ps mv.9).9:=BS
 obtain z0|hz0|ez0:=NB RR (iB rfl D.pw _) SB.1 lg SB.2.1 (by
  have:=SB.2.2.1;rw[NR D.mw lg] at this;rw[this];decide)
 obtain j|j1|j2|j3:=Of (ds:=(aU R ps mv.9).map λz=>cA z go) #[_,aA.mpr #[z0,hz0,rfl],ez0];rw[af] at j1;have GN3:=GN.same sn3;obtain us|gu|qu|nu:=id GN3;have lu:=qu.9;exists #[#[_,bE.of gu],?_];refine CV (K:=K) (xs:=us) (λi ys H'=>aH H3 H'/\ys=d5 (Cy ((aU R ps mv.9).map λz=>cA z go) i)) j8 #[aH.refl _,rfl] (λi ys H' _ #[s,_]=>bE.of (s _ _ gu)) ?_ ?_
 ·rintro i v ys H' r hx hlen ⟨s',rfl⟩ hr;obtain z|ez|q|rfl|_|Rq:=cF qu hx;have mz:=av ez;have ey':((aU R ps mv.9).map λz=>cA z go).getD i 0=cA z go:=by rw[aa,aD,ez];rfl
  have sr:aH H' (upd H' r (.tup [.int i,.ref q])):=aH.new hr;have gr:(upd H' r (.tup [.int i,.ref q])) r=some (.tup [.int i,.ref q]):=aG;generalize upd H' r (.tup [.int i,.ref q])=H4 at sr gr ⊢;have s34:=s'.trans sr;exists #[q,g,z,go,rfl,cS.same Rq s34,Rg.same (s03.trans s34),by rw[lg,wN z mz],by rw[wN z mz];lia,FN R ps RR z mz,λd H5 s5 N5=>?_];exists #[_,_,Gh,cA z go,0,(),N5,#[_,rfl,T.sq_NOUGHT _],?_];by_cases e:cA z go=0
  ·rw[decide_eq_true e];exists #[s34.trans s5,?_];rw[yV,ey',if_neg (by simpa using e)]
  ·rw[decide_eq_false e];exists #[s34.trans s5,?_];rw[yV,ey',if_pos e];unfold d5;rw[bR];rfl
 rintro ys H4 hy ⟨s4,rfl⟩ l hl;have sn4:aH H4 (upd H4 l (.lst (d5 (Cy ((aU R ps mv.9).map λz=>cA z go) us.9)))):=aH.new hl;have gn:(upd H4 l (.lst (d5 (Cy ((aU R ps mv.9).map λz=>cA z go) us.9)))) l=some (.lst (d5 (Cy ((aU R ps mv.9).map λz=>cA z go) us.9))):=aG;generalize upd H4 l (.lst (d5 (Cy ((aU R ps mv.9).map λz=>cA z go) us.9)))=H5 at sn4 gn ⊢;have s35:=s4.trans sn4
 have mj:j∈Cy ((aU R ps mv.9).map λz=>cA z go) us.9:=by
  unfold Cy;exact j7.mpr #[kZ.mpr (),by simpa using j2]
 exists #[l,CJ (Cy ((aU R ps mv.9).map λz=>cA z go) us.9),rfl,bE.of (by rw[<- CB];exact gn),?_,λM hM hle=>?_]
 ·unfold CJ;rw[af];exact List.length_pos_of_mem mj
 obtain cx|hc|rfl:=aA.mp hM;have h1:=hle j (aA.mpr #[j,mj,rfl]);have h2:=(j7.mp hc).2
 have e:cx=j:=by
  rcases fF cx j with z | z | z
  ·exact absurd (j3 cx z) (by simpa using h2)
  ·exact z
  ·lia
 subst e;have got5:=s35 _ _ got;obtain ws|gw|qw|_:=GU.same s35;have lw:=qw.9;exists #[oq,cx,ws,rfl,gw,(),(),λaw H6 naw s6 g6=>?_];have qa:=nP qw (i:=cx) ();refine #[aw,rfl,#[_,bE.of g6],?_];have qa6:Paired (cW K Hn H6) (c5 (nM mv R ps) cx) (c5 ws cx):=Paired.imp' (λ_ _ z=>cW.same z s6) qa;have la:(c5 (nM mv R ps) cx).9=(nM mv R ps).9:=iC ();refine dn (K:=K) (as:=c5 (nM mv R ps) cx) (F:=cW K Hn) (cW K H) (λxs=>c5 xs cx) g6 qa6 () (λh s=>h.same s) (λh s=>h.same s) ?_ ?_
 ·rintro i row v H7 NY NN er s7 ⟨u,rfl,_,zs,gz,qz⟩ k3;have lr:=wU row (ox (av er));have lz:=qz.9;exists #[u,cx,zs,rfl,gz,(),(),λl8 H8 n8 s8 g8=>?_];exact k3 _ _ s8 #[l8,rfl,((s03.trans s35).trans (s6.trans s7)).none n8,_,g8,nP (Paired.imp' (λ_ _ z=>bW.same z s8) qz) ()]
 rintro ys7 H7 wl nwl s7 g7 pr7 nx7;have s37:=(s35.trans s6).trans s7;have got7:=s37 _ _ got;have GW:bp K H H7 wl ((c5 (nM mv R ps) cx).map λxs=>c5 xs cx):=#[ys7,g7,pr7,iH nx7];exists #[op,cx,us,rfl,s37 _ _ gu,(),(),λao H8 nao s8 g8=>?_];have s38:=s37.trans s8;have qo:Paired (cW K H H8) (c5 (aU R ps mv.9) cx) (c5 us cx):=Paired.imp' (λ_ _ #[q,a1,b1,c1]=>#[q,a1,s02.none b1,cS.same c1 s38]) (nP qu (i:=cx) ());exists bF λt9 H9 s9 g9=>?_
 have GO:bp K H H8 ao (c5 (aU R ps mv.9) cx):=#[_,g8,qo,λz=>?_]
 ·exact k2 t9 ao wl cx R ps H9 g9 ((s03.trans s38).trans s9) ((s03.trans s37).none nao) ((s03.trans (s35.trans s6)).none nwl) (GO.same s9) (GW.same (s8.trans s9)) #[RR,j1,j2,_,SB]
 ·obtain y|my|q|e|_|zs|gq|_:=cZ (nP qu (i:=cx) ()) z;cases e;rw[s37 _ _ gq] at nao;exact nomatch nao
theorem dA:sC ["_law_bag_here","_law_parts_here","_law_system_here","_law_goal_here","_law_n","_law_rows","_law_weights","_law_papers_here","_law_units","_law_told","_law_ways","_law_k","_law_found"] 4 pQ:=by walk_at "d"
theorem An (T:Txt K mg Z):T.kI.o P w base 11 (yl K Z.a_System):=by
 refine T.kI.F.k dA ?_;walk_at "i";obtain bg|r|x|g|H0|mv|pt|lk|go|aK|cK|zz|c|d|rfl|B|nb|wn|PQ|S|D|SF|KF|Rg|ngb|lg|SO|FN|hm|hN|z39|cd39|k:=h
 refine #[_,(au (eQ 4 dA.nd (bB be (by rfl) T.len aT (dB ic)))
  (au (eQ 5 dA.nd (bX ["_law_k"] ["_law_bag_here","_law_n"] [0,4] (cE rfl T.range (dB (cT (aZ T) hr T.aR (cQ b6 aj)))) (λ_=>(eH 0)) (λ_=>bZ) (λ_=>(cT (jX T) hr T.fZ (rB c9 dW aj)))))
  (au (iY 6 ["_law_row_here"] ["_law_bag_here","_law_rows"] [0,5] dA.nd rfl rfl (b9 pU) (λ_=>(eH 0)) (λ_=>bZ) (λ_=>(cT (jX T) hr T.fZ (rB c9 (bB (p7 K (by rfl)) (by rfl) T.len aT (dB dW)) aj))))
  (au (eQ 7 dA.nd (dw (rB (cD (cQ (dw ir) (dw ir))) (cD (cQ pU oQ)) (cD (cQ (dw (dB (bX ["_law_one"] [] [] (b9 ic) (λ_=>(eH 0)) (λ_=>bZ) (λ_=>(cD (cQ aj aj)))))) (dw (dB (dw (dB (cD (cQ aj aj)))))))))))
  (iQ (di (bf vo kU aj (bu _)) (au (iY 8 ["_law_k"] ["_law_n"] [4] dA.nd rfl rfl (cE rfl T.range (dB kU)) (λ_=>(eH 0)) (λ_=>bZ) (λ_=>(bX ["_law_j"] ["_law_k"] [0] (cE rfl T.range (dB c9)) (λ_=>(eH 0)) (λ_=>bZ) (λ_=>(cD (cQ (dI ow (by rfl) T.int PyProof.Rows.boot_int (dB (jK dX b6 c9 (bu _)))) aj))))))
  (aB (eQ 7 dA.nd (bK iU AZ (dw (cQ (cD (cQ EY (cT (kC T) hr T.gK (dB (aX bS c9 aj))))) (cT (oG T) hr T.iw (cQ EY (aX bS c9 aj))))))))) bU)
  (au (eP (cT (wo T) hr T.kE (dB dW)) (rA rfl (cM (eH 9 dA.nd) (cM (eH 10 dA.nd) ij))))
  (iQ (di (bf (rC (yG hr)) Mf (dw ir) (bu _)) (au (eQ 7 dA.nd (bK iU AZ (dw (rB (cD (cQ Mf (pv 10))) (cT (oG T) hr T.iw (cQ Mf (pv 10))) (cT (uj T) hr T.jg (Ae b6 Mf (pv 10) kU))))))
  (au (eQ 11 dA.nd (cT (aZ T) hr T.aR (cQ b6 (bB be (by rfl) T.len aT (dB Mf)))))
  (aB (gP (qB cb dk dj iS AZ (dB (cT (Am T) hr T.kH (Ae Mf (pv 10) (pv 11) (aX bC (dw (cQ (cD (cQ aj aj)) (cD (cQ (qq lD aj) aj)))) (cT (aZ T) hr T.aR (cQ b6 aj))))))))))) bU)
  (au (eQ 12 dA.nd (cT (yr T) hr T.mR (cQ dW (dI (dO K (by rfl)) (by rfl) T.list PyProof.Rows.boot_list (dB ic)))))
  (au (di (bf dX (aX bS (pv 12) aj) lK (bu _)) (aB (eQ 7 dA.nd (bK iU AZ (dw (rB (qA Pe (pv 12) (mo aj) we) (cT (oG T) hr T.iw (cQ (aX bS (pv 12) aj) (aX bS (pv 12) aj))) (cT (uj T) hr T.jg (Ae b6 (aX bS (pv 12) aj) (aX bS (pv 12) aj) kU))))))) bU)
  (aB (a8 AZ))))))))))),?_]
 walk_at "s"
 try rw[ik]
 have d8:=D.n8
 have bagU:∀{H':Hp} {r:Addr} {o:HO},ig H' bg->c8 bg H H'->H r=none->ig (upd H' r o) bg/\c8 bg H (upd H' r o):=λB' U hr=>by
  obtain qi|Ii|xi|gi:=B.inner;exact #[B'.upd (U.2 _ Ii) (λe=>B.at (by rw[<- e];exact hr)) (λe=>by rw[e,gi] at hr;cases hr),U.after hr]
 have i4:=D.i4;have lmx:=D.mw;obtain ug|gg|qg:=id Rg;have lug:=qg.9;exists #[_,_,rfl,.inl (bE.of gg),?_];rw[<- lug,lg];exists #[bg,3,rfl,B,(),(),λv1 H1 v10 v11 B1 u1=>?_];obtain v1|rfl:=bP v10;exists #[(),(),?_];refine uZ (n:=v1) (b:=bg) (cW K H0) (λxs=>xs.9=mv.9/\∀x∈xs,Dr (max 4 6) x) B1 () (λ{H' H'' c x} a u B=>a.upto u B nb) ?_ ?_
 ·rintro i Ha NY NN hi ua Ba k1;exists #[bg,mv.9,4,rfl,Ba,(),(),(),λq xs Hb nq R lx dx Bb ub=>?_];exact k1 _ xs _ ub Bb #[lx,dx] #[q,rfl,wn _ (u1.none B1 (ua.none Ba nq)),R]
 rintro ys cs H2 l2 n2 u2 B2 g2 lc hc pr2 nx2;have u02:=u1.trans u2;have l2b:l2≠bg:=λe=>B1.at (by rw[<- e];exact n2)
 have G2:bp K H0 H2 l2 cs:=#[ys,g2,pr2,iH nx2];have lys:=pr2.9;exists #[#[_,bE.of g2],?_];refine eB (K:=K) (xs:=ys) (λi zs H'=>c8 bg H2 H'/\ig H' bg/\∃ds,ds.9=i/\(∀c∈ds,c.9=cs.9/\∀x∈c,Dr (max 4 6) x)/\Paired (cW K H0 H') ds zs) j8 #[c8.refl _,B2,[],rfl,(λ_ z=>nomatch z),.nil] (λi zs H' _ #[u,_]=>bE.of (u.other l2b g2)) ?_ ?_
 ·rintro i y zs Ha hy hlen ⟨ua,Ba,ds,ld,hd,pd⟩;have g2a:=ua.other l2b g2;exists #[_,_,rfl,.inl (bE.of g2a),?_];rw[<- lys];exists #[bg,cs.9,4,rfl,Ba,(),(),(),λq xs Hb nq R lx dx Bb ub=>?_];exact #[ua.trans ub,Bb,ds++[xs],by rw[ar,ld];rfl,za hd #[lx,dx],bV (Paired.imp' (λ_ _ z=>cW.upto z ub Ba nb) pd) (.cons #[q,rfl,wn _ (u02.none B2 (ua.none Ba nq)),R] .nil)]
 rintro zs Ha hy ⟨ua,Ba,ds,ld,hd,pd⟩ l3 n3;have sa:aH Ha (upd Ha l3 (.lst zs)):=aH.new n3;have g3:(upd Ha l3 (.lst zs)) l3=some (.lst zs):=aG;have G3:bp K H0 (upd Ha l3 (.lst zs)) l3 ds:=#[zs,g3,Paired.imp' (λ_ _ z=>cW.same z sa) pd,iH #[Ha,n3,pd]];generalize upd Ha l3 (.lst zs)=H3 at sa g3 G3 ⊢;have u23:=ua.same sa;have u03:=u02.trans u23;have B3:=Ba.same sa;have w3:∀q,H3 q=none->H0 q=none:=λq h=>wn q (u03.none B3 h)
 have n2':H l2=none:=u1.none B1 n2;have n3':H l3=none:=u02.none B2 (ua.none Ba n3);replace G2:=G2.upto u23 B2 l2b nb;clear g2 g3 pr2 nx2 pd qg gg;exists cO λe1 Hb sb nb1 gb=>?_
 exists cO λe2 Hc sc nc1 gc=>?_
 exists bF λt1 Hd sd gd=>?_
 have P1:ma K H0 Hd mv.9 (zz+14) (zz+14) (c+24) (d+18) (.ref t1):=#[t1,e1,e2,rfl,gd,[],[],w3 _ nb1,w3 _ (sb.none nc1),#[[],(sc.trans sd) _ _ gb,.nil,λh=>nomatch h],#[[],sd _ _ gc,.nil,λh=>nomatch h],nF.of (M:=1) (N:=1) (V:=1) (W:=1) () () (λ_ h=>nomatch h) (λ_ h=>nomatch h) () () bJ bJ bJ bJ (λ_ h=>nomatch h) (λ_ h=>nomatch h)];have sbd:=(sb.trans sc).trans sd;exists bF λt2 He se ge=>?_
 have sbe:=sbd.trans se;have P2:ma K H0 He mv.9 (zz+14) (zz+14) (c+24) (d+18) (.ref t2):=#[t2,l2,l3,rfl,ge,cs,ds,wn _ n2',wn _ n3',G2.same sbe,G3.same sbe,nF.of () () (λz hz=>(hc z hz).1) (λz hz=>by rw[(hd z hz).1];lia) (show 0 < 2520 by decide) (show 0 < 2520 by decide) (Rn _ _ ()) (Rn _ _ ()) (UW _ _ ()) (UW _ _ ()) (λz hz x hx=>dr6 ((hc z hz).2 x hx)) (λz hz x hx=>dr6 ((hd z hz).2 x hx))];have Rge:=(Rg.upto u03 B ngb).same sbe;obtain ug|gg|qg:=id Rge;have lug:=qg.9;exists #[#[_,bE.of gg],?_];refine dn (K:=K) (as:=go) (F:=bW K) (bW K) (λ_=>(0:Rat)) gg qg () (λh s=>h.same s) (λh s=>h.same s) ?_ ?_
 ·rintro i y v Hf NY NN _ sf _ k1;exists bF λt Hy sy gy=>?_
  exact k1 _ _ sy (bW.mk (q:=0) gy rfl)
 rintro ys5 Hf o1 no1 sf gf pf _;exists cO λo2 Hg sg no2 gg2=>?_
 exists bF λt3 Hh sh gh=>?_
 exists cO λw1 Hi si nw1 gi=>?_
 exists cO λw2 Hj sj nw2 gj=>?_
 exists bF λt4 Hk sk gk=>?_
 have sgk:=((sg.trans sh).trans si).trans (sj.trans sk);have ne1:o1≠o2:=λe=>by rw[e,no2] at gf;cases gf
 have ne2:w1≠w2:=λe=>by rw[e,nw2] at gi;cases gi
 have sbf:=sbe.trans sf;have P3:ma K H0 Hk mv.9 (zz+14) (zz+14) (c+24) (d+18) (.ref t4):=#[t4,o2,w2,rfl,gk,[go.map λ_=>0],[[1]],w3 _ (sbf.none no2),w3 _ ((sbf.trans ((sg.trans sh).trans si)).none nw2),#[[.ref o1],((sh.trans si).trans (sj.trans sk)) _ _ gg2,.cons #[o1,rfl,w3 _ (sbe.none no1),cS.same #[ys5,gf,pf] sgk] .nil,λh=>by cases aS.mp h;exact ne1 rfl],#[[.ref w1],sk _ _ gj,.cons #[w1,rfl,w3 _ ((sbf.trans (sg.trans sh)).none nw1),[.ref t3],(sj.trans sk) _ _ gi,.cons (bW.mk (q:=1) ((si.trans (sj.trans sk)) _ _ gh) rfl) .nil] .nil,λh=>by cases aS.mp h;exact ne2 rfl],nF.of (M:=1) (N:=1) (V:=1) (W:=1) (by show 1<=10;decide) () (λz hz=>by rw[aS.mp hz,af,lg]) (λz hz=>by rw[aS.mp hz];decide) () () bJ bJ bJ bJ (λz hz x hx=>by rw[aS.mp hz] at hx;obtain _|_|rfl:=aA.mp hx;exact Fr.zero) (λz hz x hx=>by rw[aS.mp hz] at hx;rw[aS.mp hx];exact #[1,by decide +kernel,()])];exists cO λl4 Hl sl nl4 gl=>?_
 have s3l:=(sbf.trans sgk).trans sl
 have J0:TN K H0 bg H Hl mv.9 zz c d l4 3:=by
  refine #[u03.same s3l,B3.same s3l,u03.none B3 ((sbf.trans sgk).none nl4),_,gl,ak _,λu hu=>?_];rcases aI.mp hu with rfl | hu
  ·exact P1.same (((se.trans sf).trans sgk).trans sl)
  rcases aI.mp hu with rfl | hu
  ·exact P2.same ((sf.trans sgk).trans sl)
  ·rw[aS.mp hu];exact P3.same sl
 clear P1 P2 P3 gl gg gf gi gj gk gh gg2 ge gd gc gb pf qg;exists #[λσ' H'=>∃l y,σ'=[some (.ref bg),some (.ref r),some (.ref x),some (.ref g),some (.int mv.9),some (.ref l2),some (.ref l3),some (.ref l),y,none,none,none,none]/\TN K H0 bg H H' mv.9 zz c d l 5,?_,?_]
 ·exists dU (λh0=>?_) (λh0=>?_)
  rotate_left
  ·walk_at "w";obtain a1|a2|a3|us|a4|a5|a6:=J0;exact #[a1,a2,a3,us,a4,(),a6]
  obtain uJ|BJ|nJ|us|gJ|luJ|hJ:=J0;have wJ:∀q,Hl q=none->H0 q=none:=λq h=>wn q (uJ.none BJ h)
  obtain m|p|l|gt|mn|pn|ln|Gm|Gp|Gl:=PQ.upto uJ B nb;exists #[(),(),?_];refine fD (n:=mv.9) (cW K H0) (λk=>(List.range mv.9).map λj=>if j=k then (1:Rat) else 0) () (λa b=>a.same b) ?_ ?_
  ·rintro i Ha NY NN hi sa k1;exists #[(),(),?_];refine fD (n:=mv.9) (bW K) (λj=>if j=i then (1:Rat) else 0) () (λa b=>a.same b) ?_ ?_
   ·rintro j Hb NY2 NN2 hj sb k2;exists bF λt Hy sy gy=>?_
    refine k2 _ _ sy (bW.mk gy ?_);by_cases e:j=i
    ·rw[if_pos e,if_pos (decide_eq_true (show (j:Int)=(i:Int) by lia))];rfl
    ·rw[if_neg e,if_neg (by rw[decide_eq_true_iff];lia)];rfl
   rintro ys Hb q nq sb gb pb _;exact k1 _ _ sb #[q,rfl,wJ _ (sa.none nq),ys,gb,pb]
  rintro ys Hb q nq sb gb pb nxb;have GU:bp K H0 Hb q _:=#[ys,gb,pb,iH nxb];have gtb:=sb _ _ gt;exists #[m,H0,mv,rfl,Gm.same sb,(),λxs hx=>by rw[lmx xs hx];lia,λc1 Hc nc1 sc Gc=>?_];exists bF λt5 Hd sd gd=>?_
  have scd:=sc.trans sd;have sbd:=sb.trans scd;obtain Mm|Mm0|Mm1|fm:=hm
  have PF:nF mv.9 (zz+14) (zz+14) (c+24) (d+18) ((List.range mv.9).map λk=>(List.range mv.9).map λj=>if j=k then (1:Rat) else 0) mv:=by
   refine nF.of (M:=1) (V:=1) (by rw[af,cz];lia) () (λz hz=>?_) (λz hz=>by rw[lmx z hz];lia) () Mm0 bJ (ag Mm1 (ai () ())) bJ (ai () (show d<=d+18 by lia)) (λz hz x hx=>?_) fm
   ·obtain _|_|rfl:=aA.mp hz;rw[af,cz]
   ·obtain _|_|rfl:=aA.mp hz;obtain _|_|rfl:=aA.mp hx
    split
    ·exact #[1,by decide +kernel,()]
    ·exact Fr.zero
  have P5:ma K H0 Hd mv.9 (zz+14) (zz+14) (c+24) (d+18) (.ref t5):=#[t5,q,c1,rfl,gd,_,_,wJ _ nq,wJ _ (sb.none nc1),GU.same scd,(Gc.same sd).weakN λq h=>wJ q (sb.none h),PF];have gtd:=scd _ _ gtb;exists #[q,m,H0,mv.9,zz+14,zz+14,c+24,d+18,rfl,#[_,_,wJ _ nq,mn,GU.same scd,Gm.same sbd,PF],λa h=>wJ a (sbd.none h),λt6 He se P6=>?_];exists cO λl6 Hf sf nl6 gf=>?_
  have sJf:=(sbd.trans se).trans sf;exists iT (sJf _ _ gJ) gf (cC (cU (by show us.9+2<=1000;lia))) λl7 Hg sg nl7 gg=>?_
  have sJg:=sJf.trans sg;exists #[uJ.same sJg,BJ.same sJg,uJ.none BJ (sJf.none nl7),_,gg,by rw[ar];show _+2<=5;lia,λu hu=>?_];rcases ay.mp hu with hu | hu
  ·exact (hJ u hu).same sJg
  rcases aI.mp hu with rfl | hu
  ·exact P5.same ((se.trans sf).trans sg)
  ·rw[aS.mp hu];exact P6.same (sf.trans sg)
 rintro σ' H5 ⟨l,y,rfl,u5,B5,n5,us,g5,lu5,P5⟩;have S5:=S.upto u5 B nb;have w5:∀q,H5 q=none->H0 q=none:=λq h=>wn q (u5.none B5 h)
 clear J0;exists #[x,aK,cK,H0,mv,pt,lk,rfl,S5,D,KF,λot op oq R ps Hm H6 got sm sm6 nop GN noq GU RR=>?_];have s6:=sm.trans sm6;have GN6:bp K H0 H6 op _:=(GN.same sm6).weakN w5;have GU6:bp K H0 H6 oq _:=GU.weakN λq h=>w5 q (sm.none h)
 have op0:=w5 _ nop;have oq0:=w5 _ (sm.none noq);have nc:=uP RR;have lUN:(nM mv R ps).9=(aU R ps mv.9).9:=uM;have wU:∀xs∈nM mv R ps,xs.9=(aU R ps mv.9).9:=BS;have PF:=hN R ps RR;have u6:=u5.same s6;have B6:=B5.same s6;have g6:=s6 _ _ g5;have P6:=λu hu=>(P5 u hu).same s6
 have w6:∀q,H6 q=none->H0 q=none:=λq h=>wn q (u6.none B6 h)
 clear P5 g5 S5 GN GU;exists #[λσ' H'=>∃l y2,σ'=[some (.ref bg),some (.ref r),some (.ref x),some (.ref g),some (.int mv.9),some (.ref l2),some (.ref l3),some (.ref l),y,some (.ref op),some (.ref oq),y2,none]/\TN K H0 bg H H' mv.9 zz c d l 9,?_,?_]
 ·exists cO λe7 H7 s7 n7 g7=>?_
  exists #[_,_,xQ,aU R ps mv.9,[],(),(GN6.same s7).kind,bp.kind (H0:=λ_=>none) #[[],g7,.nil,λz=>nomatch z],?_];by_cases e0:aU R ps mv.9=[]
  ·rw[decide_eq_true e0];exists #[u6.same s7,B6.same s7,n5,us,s7 _ _ g6,(),λu hu=>(P6 u hu).same s7]
  rw[decide_eq_false e0];have m1:0 < (aU R ps mv.9).9:=uL.mpr e0;exists bF λt8 H8 s8 g8=>?_
  have s68:=s7.trans s8;have Q8:yf K H0 H8 mv.9 zz zz c d op oq:=#[_,_,op0,oq0,GN6.same s68,GU6.same s68,PF];exists #[op,oq,H0,mv.9,zz,zz,c,d,rfl,Q8,λq h=>w6 q (s68.none h),λt9 H9 s9 P9=>?_];have s69:=s68.trans s9;exists #[bg,op,oq,(aU R ps mv.9).9,H0,mv.9,zz,zz,c,d,rfl,B6.same s69,nb,#[_,_,op0,oq0,GN6.same s69,GU6.same s69,PF,rfl,lUN,wU],(),(),(),d8,(),cd39,λq h=>w6 q (s69.none h),λta Ha Pa Ba ua=>?_];have B9:=B6.same s69;have u6a:c8 bg H6 Ha:=s69.upto.trans ua;have lb:l≠bg:=λe=>B.at (by rw[<- e];exact n5)
  exists cO λlb1 Hb sb nb1 gb=>?_
  have u6b:=u6a.same sb;exists iT (u6b.other lb g6) gb (cC (cU (by show us.9+3<=1000;lia))) λl7 Hc sc nl7 gc=>?_
  have Bb:=Ba.same sb;have Bc:=Bb.same sc;have u6c:=u6b.same sc;have sbc:=sb.trans sc
  have Pb:∀u∈us++[.ref t8,.ref t9,.ref ta],ma K H0 Hb mv.9 (zz+14) (zz+14) (c+24) (d+18) u:=λu hu=>by
   rcases ay.mp hu with hu | hu
   ·exact (P6 u hu).upto u6b B6 nb
   rcases aI.mp hu with rfl | hu
   ·exact ((ma.mono #[t8,op,oq,rfl,g8,Q8] () () () ()).same s9).upto (ua.same sb) B9 nb
   rcases aI.mp hu with rfl | hu
   ·exact (P9.mono () () () ()).upto (ua.same sb) B9 nb
   ·rw[aS.mp hu];exact (Pa.mono () () () ()).same sb
  have opb:op≠bg:=λe=>nb (by rw[<- e];exact op0)
  have oqb:oq≠bg:=λe=>nb (by rw[<- e];exact oq0)
  have GNb:=GN6.upto u6b B6 opb nb;have GUb:=GU6.upto u6b B6 oqb nb;obtain opl|GNo:=GNb.offU (o:=.lst []) nl7;obtain oql|GUo:=GUb.offU (o:=.lst []) nl7;have l70:H0 l7=none:=w6 _ (u6b.none Bb nl7)
  have nbo:(upd H0 l7 (.lst [])) bg≠none:=by
   rw[bo (λe=>nb (by rw[e];exact l70))];exact nb
  have l7b:l7≠bg:=λe=>nb (by rw[<- e];exact l70)
  have GNc:=GNo.same sc;have GUc:=GUo.same sc;obtain un|gn|qn|_:=id GNc;have lun:=qn.9;exists #[_,_,rfl,.inl (bE.of gn),?_];rw[<- lun];exists #[bg,(aU R ps mv.9).9,rfl,Bc,(),(),λkk Hd kk0 kk1 Bd ud=>?_];obtain kk|rfl:=bP kk0;have gd:=ud.other l7b gc;exists #[.inl #[rfl,_,bE.of gd],?_];exists bF λf1 He se ge=>?_
  exists bF λf2 Hf sf gf=>?_
  exists cO λf3 Hg sg nf3 gg=>?_
  have sdg:=(se.trans sf).trans sg;exists #[bg,2,rfl,Bd.same sdg,(),(),λww Hh ww0 ww1 Bh uh=>?_];have f3b:f3≠bg:=λe=>(Bd.same (se.trans sf)).at (by rw[<- e];exact nf3)
  have udh:c8 bg Hd Hh:=sdg.upto.trans uh;have uch:=ud.trans udh;have gh:=uh.other f3b gg;have nf1:bW K Hh 2 (.ref f1):=(bW.mk (q:=2) ((sf.trans sg) _ _ ge) rfl).upto uh (Bd.same sdg);have nf2:bW K Hh (-1 / 3) (.ref f2):=(bW.mk (q:=-1 / 3) (sg _ _ gf) (by decide +kernel)).upto uh (Bd.same sdg)
  obtain ⟨vf,fq,evf,nvf,hfq⟩:∃vf fq,Il [V.ref f1,V.ref f2] ww=some vf/\bW K Hh fq vf/\(fq=2\/fq=-1 / 3):=by
   have:ww=0\/ww=1:=()
   rcases this with rfl | rfl
   ·exact #[_,_,rfl,nf1,.inl rfl]
   ·exact #[_,_,rfl,nf2,.inr rfl]
  exists b8 (bE.of gh) evf ?_;exists #[op,oq,kk,(aU R ps mv.9).9,vf,upd H0 l7 (.lst []),mv.9,zz,zz,c,d,fq,rfl,#[_,_,by rw[bo opl];exact op0,by rw[bo oql];exact oq0,GNc.upto uch Bc opb nbo,GUc.upto uch Bc oqb nbo,PF,rfl,lUN,wU],(),(),d8,nvf,hfq,(),cd39,λq h=>?_,λti Hi si Pi=>?_]
  ·have:=uch.none Bh h;rw[bo (λe=>by rw[e,gc] at this;cases this)];exact w6 _ ((u6c.none Bc) this)
  have gl:=si _ _ (uch.other l7b gc);exists #[l7,_,_,rfl,rfl,gl,cU (by rw[ar];show us.9+3<=1000;lia),?_];have uci:=uch.same si;obtain BB|UU:=bagU (o:=.lst ((us++[.ref t8,.ref t9,.ref ta])++[.ref ti])) (Bh.same si) ((u6.trans u6c).trans uci) (u6.none B6 (u6b.none Bb nl7));exists #[UU,BB,u6.none B6 (u6b.none Bb nl7),_,aG,by rw[ar,ar];show us.9+3+1<=9;lia,λu hu=>?_];rcases ay.mp hu with hu | hu
  ·exact (((((Pb u hu).offU nl7).same sc).upto uci Bc nbo)).on gl l70
  ·rw[aS.mp hu];exact (Pi.mono () () () ()).on gl l70
 rintro σ' H7 ⟨l,y2,rfl,u7,B7,n7,us,g7,lu7,P7⟩;have w7:∀q,H7 q=none->H0 q=none:=λq h=>wn q (u7.none B7 h)
 have lb:l≠bg:=λe=>B.at (by rw[<- e];exact n7)
 obtain ug8|gg8|qg8:=Rg.upto u7 B ngb;clear GN6 GU6 P6 g6;exists #[g,ug8,rfl,.inl (bE.of gg8),λc1 hc1=>?_];have s8:aH H7 (upd H7 c1 (.lst ug8)):=aH.new hc1;have R8:cS K (upd H7 c1 (.lst ug8)) c1 go:=#[ug8,aG,Paired.imp' (λ_ _ z=>z.same s8) qg8];generalize upd H7 c1 (.lst ug8)=H8 at s8 R8 ⊢;exists #[x,c1,aK,cK,H0,mv,pt,lk,go,rfl,(S.upto u7 B nb).same s8,D,SF,KF,R8,lg,SO,FN,#[λtF pF kk pus HA gA sA nA GA S48=>?_,λtF pF qF i R ps HA gA sA nA nB GA GB SH=>?_]]
 ·have s7A:=s8.trans sA;walk_at "w";rw[decide_eq_false (show ¬(Str.ofString "in"=Str.ofString "never") by decide)];exists k l us HA n7 (u7.same s7A) (B7.same s7A) (s7A _ _ g7) () (λu hu=>(P7 u hu).same s7A)
 have s7A:=s8.trans sA;obtain RR|hi|_:=SH;obtain PF|lA|lB|wB:=(hN R ps RR).ahead uM BS hi;have nc:=uP RR;have wA:∀q,H8 q=none->H0 q=none:=λq h=>w7 q (s8.none h)
 have GA0:bp K H0 HA pF _:=GA.weakN wA;have GB0:bp K H0 HA qF _:=GB.weakN wA;have pF0:=wA _ nA;have qF0:=wA _ nB;clear GA GB;walk_at "w"
 try rw[decide_eq_true rfl]
 exists Pt (k:=1) (sL.of gA) () (by show 1<=3;decide) rfl λtT HB sB gT=>?_
 have gAB:=sB _ _ gA;have QB:yf K H0 HB mv.9 zz zz c d pF qF:=#[_,_,pF0,qF0,GA0.same sB,GB0.same sB,PF];have s7B:=s7A.trans sB;exists #[pF,qF,H0,mv.9,zz,zz,c,d,rfl,QB,λq h=>w7 q (s7B.none h),λt9 H9 s9 P9=>?_];have s79:=s7B.trans s9;have gA9:=s9 _ _ gAB;exists #[bg,pF,qF,(aU R ps mv.9).9,H0,mv.9,zz,zz,c,d,rfl,B7.same s79,nb,#[_,_,pF0,qF0,GA0.same (sB.trans s9),GB0.same (sB.trans s9),PF,lA,lB,wB],(),(),(),d8,(),cd39,λq h=>w7 q (s79.none h),λta Ha Pa Ba ua=>?_];have u7a:c8 bg H7 Ha:=s79.upto.trans ua;exists cO λlb1 Hb sb nb1 gb=>?_
 have u7b:=u7a.same sb;exists iT (u7b.other lb g7) gb (cC (cU (by show us.9+3<=1000;lia))) λl7 Hc sc nl7 gc=>?_
 have u7c:=u7b.same sc;have sbc:=sb.trans sc;exists k l7 _ Hc (u7.none B7 (u7b.none (Ba.same sb) nl7)) (u7.trans u7c) (Ba.same sbc) gc (by rw[ar];show us.9+3<=20;lia) λu hu=>?_
 rcases ay.mp hu with hu | hu
 ·exact (P7 u hu).upto u7c B7 nb
 rcases aI.mp hu with rfl | hu
 ·exact ((ma.mono #[tT,pF,qF,rfl,gT,QB] () () () ()).same s9).upto (ua.same sbc) (B7.same s79) nb
 rcases aI.mp hu with rfl | hu
 ·exact (P9.mono () () () ()).upto (ua.same sbc) (B7.same s79) nb
 ·rw[aS.mp hu];exact (Pa.mono () () () ()).same sbc
theorem Dy:sC ["row"] 1 tx:=by walk_at "d"
theorem DU (T:Txt K mg Z):T.nV.o P w base 1 (MM K):=by
 refine T.nV.F.k Dy ?_;walk_at "i";obtain p|ns|rfl|hp|hl|k:=h;refine #[_,(aB (a8 (bB (AB rfl) (by rfl) T.all PyProof.Rows.boot_all (dB (bX ["value"] [] [] (b9 b6) (λ_=>(eH 0)) (λ_=>bZ) (λ_=>(jK (Qk K (by rfl) (yG hr)) b6 (jJ (v:=.ref Z.a_NOUGHT) rfl T.mg_NOUGHT rfl) (bu _)))))))),?_];walk_at "s"
 try rw[ik]
 obtain xs|gx|qx:=id hp;have lx:=qx.9;exists #[#[_,bE.of gx],?_];refine eB (K:=K) (xs:=xs) (λi ys H'=>H'=H/\ys=(ns.take i).map λn=>V.bl (decide (n=(0,1)))) j8 #[rfl,rfl] (λi ys H' _ #[e,_]=>by subst e;exact bE.of gx) ?_ ?_
 ·rintro i x ys H' hx hlen ⟨rfl,rfl⟩;obtain n|en|hn:=cF qx hx;exists #[_,_,U1,n,(0,1),(),hn,#[_,rfl,T.sq_NOUGHT H'],?_];exact #[rfl,by rw[take_snoc en];simp]
 ·rintro ys H' hy ⟨rfl,rfl⟩ l hl';exists #[l,ns.map λn=>decide (n=(0,1)),rfl,bE.of (by rw[aG,aF (),il];rfl),?_];have e4:(ns.map λn=>decide (n=(0,1))).all id=Bv ns:=by rw[List.all_map];rfl
  rw[e4];exact k _ (aH.new hl')
theorem zO:sC ["system","goal","rows","weights","many"] 4 xB:=by walk_at "d"
theorem Aj (T:Txt K mg Z):T.oK.o P w base 8 (Cn K Z.a_System):=by
 refine T.oK.F.k zO ?_;walk_at "i";obtain x|g|p|q|H0|H1|H2|mv|pt|lk|rows|wts|go|rfl|S|D|Rg|lg|GR|GW|r100|w100|hr1|f1|f2|f3|f4|k:=h
 refine #[_,(au (eQ 4 zO.nd (bB be (by rfl) T.len aT (dB dW)))
  (au (di (PW.pt (vn (bf dX kU aj (bu _)) (pT (bf (rC (yG hr)) (bX ["row"] [] [] (b9 ic) (λ_=>(eH 0)) (λ_=>bZ) (λ_=>(bB (p7 K (by rfl)) (by rfl) T.len aT (dB b6)))) (bX ["row"] ["many"] [4] (b9 dW) (λ_=>(eH 0)) (λ_=>bZ) (λ_=>c9)) (bu _))))) (aB (a8 sF)) bU)
  (au (di (tW (tV (bB (AB rfl) (by rfl) T.all PyProof.Rows.boot_all (dB (bX ["row"] ["system"] [0] (b9 dW) (λ_=>(eH 0)) (λ_=>bZ) (λ_=>(cT (DU T) hr T.nV (dB (cT (vQ T) hr T.lW (cQ (DO K c9 rfl) b6)))))))))) (aB (a8 sF)) bU)
  (au (di (bf (rC (yG hr)) (cT (vp T) hr T.jE (cQ b6 dW)) (cT (vv T) hr T.jG (rB ic dW (gN b6 rfl))) (bu _)) (aB (a8 sF)) bU)
  (aB (a8 (jK (rC (yG hr)) (cT (rF T) hr T.jS (cQ (aX bC dW aj) c9)) (jJ (v:=.ref Z.a_NOUGHT) rfl T.mg_NOUGHT rfl) (bu _)))))))),?_]
 walk_at "s"
 try rw[ik]
 have d8:=D.n8;obtain rs|gr|qr|_:=id GR;obtain us|gw|qw|_:=id GW;have lr:=qr.9;have lw:=qw.9;exists #[_,_,rfl,.inl (bE.of gr),?_];rw[<- lr];walk_at "w";by_cases e0:rows=[]
 ·rw[decide_eq_true (show ((rows.9:Nat):Int)=0 by rw[e0];rfl)];walk_at "w";have:=k H (aH.refl _);unfold sD at this;rw[if_pos (.inl e0)] at this;exact this
 have n0:0 < rows.9:=uL.mpr e0;rw[decide_eq_false (show ¬((rows.9:Nat):Int)=0 by lia)];exists #[#[_,bE.of gw],?_];refine eB (K:=K) (xs:=us) (λi ys H'=>H'=H/\ys=((wts.map List.length).take i).map λ(n:Nat)=>V.int (n:Int)) j8 #[rfl,by rw[RS];rfl] (λi ys H' _ #[e,_]=>by subst e;exact bE.of gw) ?_ ?_
 ·rintro i v ys H' hv hlen ⟨rfl,rfl⟩;obtain ws|ew|a|rfl|_|zs|gz|qz:=cF qw hv;have lz:=qz.9;exists #[_,_,rfl,.inl (bE.of gz),?_];refine #[rfl,?_];rw[L2.take_snoc (v:=ws.9) (by rw[aD,ew];rfl),bR,lz];rfl
 rintro ys H' hy ⟨rfl,rfl⟩ l3 h3;rw[aF (by rw[af];lia)];have s3:aH H' (upd H' l3 (.lst ((wts.map List.length).map λ(n:Nat)=>V.int (n:Int)))):=aH.new h3;have g3:(upd H' l3 (.lst ((wts.map List.length).map λ(n:Nat)=>V.int (n:Int)))) l3=some (.lst ((wts.map List.length).map λ(n:Nat)=>V.int (n:Int))):=aG;generalize upd H' l3 (.lst ((wts.map List.length).map λ(n:Nat)=>V.int (n:Int)))=H3 at s3 g3 ⊢;exists #[#[_,bE.of (s3 _ _ gr)],?_];refine eB (K:=K) (xs:=rs) (λi ys H'=>H'=H3/\ys=((rows.map λ_=>rows.9).take i).map λ(n:Nat)=>V.int (n:Int)) j8 #[rfl,by rw[RS];rfl] (λi ys H' _ #[e,_]=>by subst e;exact bE.of (s3 _ _ gr)) ?_ ?_
 ·rintro i v ys H' hv hlen ⟨rfl,rfl⟩;obtain ws|ew|_:=cF qr hv;exists #[rfl,?_];rw[L2.take_snoc (v:=rows.9) (by rw[aD,ew];rfl),bR];rfl
 rintro ys H4' hy ⟨rfl,rfl⟩ l4 h4;rw[aF (by rw[af];lia)];have s4:aH H4' (upd H4' l4 (.lst ((rows.map λ_=>rows.9).map λ(n:Nat)=>V.int (n:Int)))):=aH.new h4;have g4:(upd H4' l4 (.lst ((rows.map λ_=>rows.9).map λ(n:Nat)=>V.int (n:Int)))) l4=some (.lst ((rows.map λ_=>rows.9).map λ(n:Nat)=>V.int (n:Int))):=aG;generalize upd H4' l4 (.lst ((rows.map λ_=>rows.9).map λ(n:Nat)=>V.int (n:Int)))=H4 at s4 g4 ⊢;have s04:=s3.trans s4;exists #[_,_,Tf Tg,(wts.map List.length).map λ(n:Nat)=>(n:Int),(rows.map λ_=>rows.9).map λ(n:Nat)=>(n:Int),(),#[l3,_,rfl,bE.of (s4 _ _ g3),Cu _],#[l4,_,rfl,bE.of g4,Cu _],?_];by_cases e1:wts.map List.length=rows.map λ_=>rows.9
 case neg =>
  rw[decide_eq_false (λz=>e1 (yu.mp z))];walk_at "w";have:=k H4 s04;unfold sD at this;rw[if_pos (.inr e1)] at this;exact this
 rw[decide_eq_true (yu.mpr e1)];obtain dx|am|ap|al|gx|a1|a2|a3|Gm|Gp|Gl:=id S;have gx4:=s04 _ _ gx;exists #[#[_,bE.of (s04 _ _ gr)],?_];refine eB (K:=K) (xs:=rs) (λi ys H'=>aH H4 H'/\ys=((rows.take i).map λz=>Bv ((pt.map λb=>cA b z).map nm)).map V.bl) j8 #[aH.refl _,by rw[RS];rfl] (λi ys H' _ #[e,_]=>bE.of ((s04.trans e) _ _ gr)) ?_ ?_
 ·rintro i v ys H5 hv hlen ⟨s5,rfl⟩;obtain z|ez|a|rfl|_|Rz:=cF qr hv;have mz:=av ez;have s05:=s04.trans s5;have gx5:=s5 _ _ gx4;exists #[x,Z.a_System,dx,_,_,rfl,gx5,T.cl_System,T.na_put,yT,?_];walk_at "w";have i4:=D.i4;refine #[ap,a,H0,pt,z,rfl,Gp.same s05,Rz.same s05,(),by rw[hr1 z mz];lia,λb hb=>#[by rw[D.pw b hb,hr1 z mz],f1 z mz b hb],λr H6 n6 s6 R6=>?_];exists #[r,_,rfl,R6.rowK,by rw[af,af];lia,λH7 s7=>#[(s5.trans s6).trans s7,?_]];rw[take_snoc ez,bR,bR];rfl
 rintro ys H5 hy ⟨s5,rfl⟩ l6 h6;rw[aF ()];have s6:aH H5 (upd H5 l6 (.lst ((rows.map λz=>Bv ((pt.map λb=>cA b z).map nm)).map V.bl))):=aH.new h6;have g6:(upd H5 l6 (.lst ((rows.map λz=>Bv ((pt.map λb=>cA b z).map nm)).map V.bl))) l6=some (.lst ((rows.map λz=>Bv ((pt.map λb=>cA b z).map nm)).map V.bl)):=aG;generalize upd H5 l6 (.lst ((rows.map λz=>Bv ((pt.map λb=>cA b z).map nm)).map V.bl))=H6 at s6 g6 ⊢;have s06:=(s04.trans s5).trans s6
 have eall:(rows.map λz=>Bv ((pt.map λb=>cA b z).map nm)).all id=decide (∀z∈rows,∀b∈pt,cA b z=0):=by
  rw[gW,jA,decide_eq_true_iff];refine #[λh z hz b hb=>?_,λh v hv=>?_]
  ·have h1:=h _ (aA.mpr #[z,hz,rfl]);rw[id,HC,decide_eq_true_iff] at h1;exact h1 _ (aA.mpr #[b,hb,rfl])
  ·obtain z|hz|rfl:=aA.mp hv;rw[id,HC,decide_eq_true_iff];intro y hy;obtain b|hb|rfl:=aA.mp hy;exact h z hz b hb
 exists #[l6,_,rfl,bE.of g6,?_];rw[eall];walk_at "w";by_cases e2:∀z∈rows,∀b∈pt,cA b z=0
 case neg =>
  rw[decide_eq_false e2];walk_at "w";have:=k H6 s06;unfold sD at this;rw[if_neg (λz=>z.elim e0 (λz=>z e1)),if_pos e2] at this;exact this
 rw[decide_eq_true e2];have gx6:=s06 _ _ gx;exists #[x,p,H0,H1,mv,pt,lk,rows,rfl,S.same s06,D,GR.same s06,r100,λxs hx=>#[hr1 xs hx,f2 xs hx],λr7 H7 n7 s7 G7=>?_];have s07:=s06.trans s7;exists #[x,Z.a_System,dx,_,_,rfl,s07 _ _ gx,T.cl_System,T.na_states,gX,?_];exists #[q,p,mv.9,H2,H1,wts,rows,rfl,GW.same s07,GR.same s07,(),(),(),λws hw=>#[?_,f3 ws hw],hr1,λr8 H8 n8 s8 G8=>?_]
 ·have m:ws.9∈wts.map List.length:=aA.mpr #[ws,hw,rfl];rw[e1] at m;obtain _|_|e:=aA.mp m;exact e.symm
 have s08:=s07.trans s8;exists #[_,_,xQ,dJ rows mv mv.9,dJ wts rows mv.9,(),(G7.same s8).kind,G8.kind,?_];by_cases e3:dJ rows mv mv.9=dJ wts rows mv.9
 case neg =>
  rw[decide_eq_false e3];walk_at "w";have:=k H8 s08;unfold sD at this;rw[if_neg (λz=>z.elim e0 (λz=>z e1)),if_neg (λz=>z e2),if_pos e3] at this;exact this
 rw[decide_eq_true e3];obtain z0|v0|ez|ev|mz|a0|rfl|_|R0:=dM qr n0;exists b8 (bE.of (s08 _ _ gr)) (dq ev) ?_;exists #[a0,g,z0,go,rfl,R0.same s08,Rg.same s08,by rw[lg,hr1 z0 mz],by rw[hr1 z0 mz];lia,f4 z0 mz,λd H9 s9 N9=>?_];exists #[_,_,Gh,cA z0 go,0,(),N9,#[_,rfl,T.sq_NOUGHT _],?_];have:=k H9 (s08.trans s9);unfold sD at this;rw[if_neg (λz=>z.elim e0 (λz=>z e1)),if_neg (λz=>z e2),if_neg (λz=>z e3),aa,ez] at this;rw[show (!decide (cA z0 go=0))=decide (cA z0 go≠0) from (decide_not ..).symm];exact this
theorem ki:sC ["_law_weights","_law_rows","_law_n","_law_found","_law_k"] 3 pN:=by walk_at "d"
theorem Al (T:Txt K mg Z):T.kG.o P w base 4 (ML K):=by
 refine T.kG.F.k ki ?_;walk_at "i";obtain _|_|_|rfl|p|q|n|M|D|W|B|H0|rows|ws|e|G|Rw|hl|r100|n100|hw|M0|D0|tM|tD|W1|B1|b1|b2|k:=h;cases e
 refine #[_,(au (iY 3 ["_law_k"] [] [] ki.nd rfl rfl (cE rfl T.range (dB dW)) (λ_=>(eH 0)) (λ_=>bZ) (λ_=>(cD (cQ aj aj))))
  (au (eO PassesOwn.never rfl (cE rfl T.range (dB (bB be (by rfl) T.len aT (dB c9)))) (eH 4 ki.nd)
   (aB (eQ 3 ki.nd (cT (rG T) hr T.jt (cQ ic (cT (oH T) hr T.ji (cQ (aX bC b6 kU) (aX bC c9 kU))))))))
  (aB (a8 ic)))),?_]
 walk_at "s"
 try rw[ik]
 have WB:W<=W*B:=cN _ B1;have BW:B<=W*B:=b7 _ W1;have MD:M<=M*D:=cN _ D0;have DM:D<=M*D:=b7 _ M0;have p39:(2:Nat)^3990<=2^3995:=ai () ();have szr:∀xs∈rows,∀x∈xs,mU x:=λxs hx x hx'=>sS (tM xs hx x hx') M0 () ()
 have szw:∀x∈ws,mU x:=λx hx=>sS (tD x hx) D0 () ()
 have szp:∀w∈ws,∀xs∈rows,∀x∈xs,mU (w*x):=λw hw xs hx x hx'=>by
  rw[cP];exact sS ((tM xs hx x hx').mul (tD w hw)) (bQ M0 D0) () ()
 have szt:∀j,j<=ws.9->∀x∈KS rows ws n j,mU x:=λj hj x hx=>by
  obtain c|_|rfl:=aA.mp hx
  have t:=Tp.sum (k:=j) (M:=M*D) (W:=W*B) (f:=λi=>ws.getD i 0*ck rows i c) λi _=>by
   rw[cP];exact (Mz tM i c).mul (kb tD i)
  have:j*(W*B)<=128*(W*B):=ax _ ();exact sS t (bQ M0 D0) () ()
 exists #[(),(),?_];refine fD (n:=n) (bW K) (λ_=>(0:Rat)) () (λa b=>a.same b) ?_ ?_
 ·rintro i H' NY NN hi s' k1;exists bF λt Hy sy gy=>?_
  exact k1 _ _ sy (bW.mk (q:=0) gy rfl)
 rintro ys He tot nt s0e ge pe _
 have Rt:cS K He tot (KS rows ws n 0):=by
  rw[OW];exact #[_,ge,by have:=pe;rwa [sO,cz] at this]
 obtain rs|grs|qrs|_:=id G;obtain us|gus|qus:=id Rw;have lrs:=qrs.9;have lus:=qus.9;exists #[_,_,rfl,.inl (bE.of (s0e _ _ grs)),?_];rw[<- lrs];exists #[(),(),?_];refine fH (n:=rows.9) (λj σ' H'=>aH H H'/\∃tot y3,σ'=[some (.ref q),some (.ref p),some (.int n),some (.ref tot),y3]/\H tot=none/\cS K H' tot (KS rows ws n j)) #[s0e,tot,_,rfl,nt,Rt] ?_ ?_
 ·rintro j σ' Hf hj' ⟨sf,tot',y3',rfl,nt',Rt'⟩;obtain xs2|v2|e2|ev2|m2|q2|rfl|_|R2:=dM qrs hj';have w2:=hw xs2 m2;obtain wj|v1|ej|ev1|mj|nj:=dM qus (i:=j) ();exists b8 (bE.of (sf _ _ gus)) (dq ev1) ?_;exists b8 (bE.of (sf _ _ grs)) (dq ev2) ?_;exists #[_,q2,wj,xs2,rfl,nj.same sf,szw wj mj,R2.same sf,(),szr xs2 m2,λr3 Hh n3 sh R3=>?_];exists #[tot',r3,_,_,rfl,Rt'.same sh,R3,by rw[af,qK,w2],by rw[qK];lia,szt j (),λy hy=>?_,λr4 Hi n4 si R4=>?_]
  ·obtain y'|hy'|rfl:=aA.mp hy;exact szp wj mj xs2 m2 y' hy'
  exists #[(sf.trans sh).trans si,r4,_,rfl,(sf.trans sh).none n4,?_];rw[<- OX e2 ej w2];exact R4
 ·rintro σ' Hf ⟨sf,tot',y3',rfl,nt',Rt'⟩;rw[show rows.9=ws.9 by lia] at Rt';exists k tot' Hf nt' sf Rt'
theorem DF:sC ["_law_parts_here","_law_row_here"] 2 tK:=by walk_at "d"
theorem DY (T:Txt K mg Z):T.nZ.o P w base 4 (Ce K):=by
 refine T.nZ.F.k DF ?_;walk_at "i";obtain r|a|H0|mv|pt|lk|z|rfl|PQ|D|Rz|lz|ff|k:=h;refine #[_,(aB (a8 (bX ["_law_j"] ["_law_row_here","_law_parts_here"] [1,0] (cE rfl T.range (dB (bB be (by rfl) T.len aT (dB c9)))) (λ_=>(eH 0)) (λ_=>bZ) (λ_=>(cT (oW T) hr T.jh (cQ c9 (bX ["_law_some"] ["_law_j"] [0] (wg K (aX (rT K (by rfl)) dW aj)) (λ_=>(eH 0)) (λ_=>bZ) (λ_=>(aX (kL K (by rfl)) b6 c9))))))))),?_];walk_at "s"
 try rw[ik]
 have d8:=D.n8;obtain m|p|l|gt|mn|pn|ln|Gm|Gp|Gl:=id PQ;obtain um|gm|qm|_:=id Gm;obtain uz|gz|qz:=id Rz;have lum:=qm.9;have luz:=qz.9;exists #[_,_,rfl,.inl (bE.of gz),?_];rw[<- luz,lz];exists #[(),(),?_];refine fD (n:=mv.9) (bW K) (λj=>cA (mv.map λxs=>xs.getD j 0) z) () (λa b=>a.same b) ?_ ?_
 ·rintro j H' NY NN hj s' k1;have gt':=s' _ _ gt;exists #[#[_,bE.of (s' _ _ gm)],?_];refine dn (K:=K) (as:=mv) (F:=cW K H0) (bW K) (λxs=>xs.getD j 0) (s' _ _ gm) (Paired.imp' (λ_ _ y=>cW.same y s') qm) () (λh s=>h.same s) (λh s=>h.same s) ?_ ?_
  ·rintro i xs x H2 NY2 NN2 ex s2 ⟨u,rfl,_,zs,gzs,qzs⟩ k2;have lx:=D.mw xs (av ex);have lzs:=qzs.9;obtain w|v|e1|e2|_|nv:=dM qzs (i:=j) ();exists b8 (bE.of gzs) (dq e2) ?_;refine k2 _ _ (aH.refl _) ?_;rw[aa,e1];exact nv
  rintro ys H2 c nc s2 gc pc _;walk_at "w";have mc:(mv.map λxs=>xs.getD j 0)∈cu mv mv.9:=av (yS hj);refine #[a,c,z,_,rfl,Rz.same (s'.trans s2),#[ys,gc,pc],by rw[af,lz],(),(ff _ mc).symm,λq H3 s3 N3=>?_];refine k1 _ _ (s2.trans s3) ?_;rw[xW];exact N3
 rintro ys H2 q nq s2 gq pq _;refine k q H2 nq s2 #[ys,gq,?_];have e:((cu mv mv.9).map λys=>cA ys z)=(List.range mv.9).map λj=>cA (mv.map λxs=>xs.getD j 0) z:=by unfold cu;rw[il];rfl
 rw[e];exact pq
theorem vm:sC ["_law_parts_here","_law_goal_here","_law_rows","_law_weights","_law_k"] 4 rf:=by walk_at "d"
theorem A7 (T:Txt K mg Z):T.mG.o P w base 5 (zD K):=by
 refine T.mG.F.k vm ?_;walk_at "i";obtain r|g|p|q|H0|H1|H2|mv|pt|lk|rows|wts|go|rfl|PQ|D|Rg|lg|GR|GW|r100|w100|hr1|f1|f2|⟨M,DD,W,B,M0,D0,tM,tD,W1,B1,b1,b2⟩|f4|k:=h
 refine #[_,(au (di (PW.pt (vn (bf (Nv (yG hr)) dW (dw ir) (bu _)) (pT (bf yp (bB be (by rfl) T.len aT (dB ic)) (bB be (by rfl) T.len aT (dB dW)) (bu _))))) (aB (a8 sF)) bU)
  (au (eO PassesOwn.never rfl (cE rfl T.range (dB (bB be (by rfl) T.len aT (dB dW)))) (eH 4 vm.nd)
   (au (di (bf yp (bB be (by rfl) T.len aT (dB (aX bC ic kU))) (bB be (by rfl) T.len aT (dB dW)) (bu _)) (aB (a8 sF)) bU)
  (au (di (bf (rC (yG hr)) (bX ["_law_put"] ["_law_rows","_law_k"] [2,4] (b9 (aX bS b6 aj)) (λ_=>(eH 0)) (λ_=>bZ) (λ_=>(cT (oW T) hr T.jh (cQ (aX (kL K (by rfl)) c9 dW) b6)))) (bX ["_law_put"] [] [] (b9 (aX bS b6 aj)) (λ_=>(eH 0)) (λ_=>bZ) (λ_=>(cD (cQ aj aj)))) (bu _)) (aB (a8 sF)) bU)
  (aB (di (bf (rC (yG hr)) (cT (Al T) hr T.kG (rB (aX bC ic kU) dW (bB be (by rfl) T.len aT (dB c9)))) (cT (DY T) hr T.nZ (cQ b6 (aX bC dW kU))) (bu _)) (aB (a8 sF)) bU)))))
  (aB (a8 (jK (rC (yG hr)) (cT (oW T) hr T.jh (cQ (aX bC dW aj) c9)) (cD (cQ aj aj)) (bu _)))))),?_]
 walk_at "s"
 try rw[ik]
 have d8:=D.n8;have i4:=D.i4
 have no:∀H',aH H H'->¬sD mv pt go rows wts=true->Q (.bl false) H':=λH' s n=>by
  have:=k H' s;rwa [Bool.eq_false_iff.mpr n] at this
 obtain rs|gr|qr|_:=id GR;obtain us|gw|qw|_:=id GW;obtain ug|gg|qg:=id Rg;obtain am|ap|al|gt|mn|pn|ln|Gm|Gp|Gl:=id PQ;obtain up|gp|qp|_:=id Gp;have lr:=qr.9;have lw:=qw.9;have lug:=qg.9;have lup:=qp.9;exists cO λe3 H3 s3 n3 g3=>?_
 exists #[_,_,xQ,rows,[],(),(GR.same s3).kind,bp.kind (H0:=λ_=>none) #[[],g3,.nil,λz=>nomatch z],?_];by_cases e0:rows=[]
 ·rw[decide_eq_true e0];exists no H3 s3 λz=>(lF.mp z).1 e0
 rw[decide_eq_false e0];have n0:0 < rows.9:=uL.mpr e0;exists #[_,_,rfl,.inl (bE.of (s3 _ _ gw)),?_];exists #[_,_,rfl,.inl (bE.of (s3 _ _ gr)),?_];rw[<- lr,<- lw];walk_at "w";by_cases e1:wts.9=rows.9
 case neg =>
  rw[decide_eq_false (show ¬((wts.9:Nat):Int)=((rows.9:Nat):Int) by lia)];exists no H3 s3 λz=>e1 (lF.mp z).2.1
 rw[decide_eq_true (show ((wts.9:Nat):Int)=((rows.9:Nat):Int) by lia)];exists #[_,_,rfl,.inl (bE.of (s3 _ _ gr)),?_];rw[<- lr];exists #[(),(),?_];refine fH (n:=rows.9) (λj σ' H'=>aH H H'/\(∀i z ws,i < j->rows[i]?=some z->wts[i]?=some ws->ws.9=rows.9/\(∀b∈pt,cA b z=0)/\((cu mv mv.9).map λys=>cA ys z)=AN rows ws mv.9)/\∃y,σ'=[some (.ref r),some (.ref g),some (.ref p),some (.ref q),y]) #[s3,λi z ws h=>absurd h (dP _),_,rfl] ?_ ?_
 ·rintro j σ' H4 hj ⟨s4,ok,y,rfl⟩;obtain z|vz|ez|evz|mz|az|rfl|_|Rz:=dM qr hj;obtain ws|vw|ew|evw|mw|aw|rfl|_|Rw:=dM qw (i:=j) ();obtain uw|guw|quw:=id Rw;have luw:=quw.9;have lz:=hr1 z mz;exists b8 (bE.of (s4 _ _ gw)) (dq evw) ?_;exists #[_,_,rfl,.inl (bE.of (s4 _ _ guw)),?_];exists #[_,_,rfl,.inl (bE.of (s4 _ _ gr)),?_];rw[<- lr,<- luw];walk_at "w";by_cases c1:ws.9=rows.9
  case neg =>
   rw[decide_eq_false (show ¬((ws.9:Nat):Int)=((rows.9:Nat):Int) by lia)];exists no H4 s4 λh=>c1 ((lF.mp h).2.2.1 j z ws ez ew).1
  rw[decide_eq_true (show ((ws.9:Nat):Int)=((rows.9:Nat):Int) by lia)];have gt4:=s4 _ _ gt;exists #[#[_,bE.of (s4 _ _ gp)],?_];refine dn (K:=K) (as:=pt) (F:=cW K H0) (bW K) (λb=>cA b z) (s4 _ _ gp) (Paired.imp' (λ_ _ y=>cW.same y s4) qp) () (λh s=>h.same s) (λh s=>h.same s) ?_ ?_
  ·rintro i b x H5 NY NN eb s5 ⟨u,rfl,_,Rb⟩ k1;have mb:=av eb;have s45:=s4.trans s5;exists b8 (bE.of (s45 _ _ gr)) (dq evz) ?_;exists #[az,u,z,b,rfl,Rz.same s45,Rb,by rw[D.pw b mb,lz],(),(f1 z mz b mb).symm,λd H6 s6 N6=>?_];refine k1 _ _ s6 ?_;rw[xW];exact N6
  rintro ys5 H5 l5 n5 s5 g5 p5 _;have gt5:=s5 _ _ gt4;have s45:=s4.trans s5;exists #[#[_,bE.of (s45 _ _ gp)],?_];refine dn (K:=K) (as:=pt) (F:=cW K H0) (bW K) (λ_=>(0:Rat)) (s45 _ _ gp) (Paired.imp' (λ_ _ y=>cW.same y s45) qp) () (λh s=>h.same s) (λh s=>h.same s) ?_ ?_
  ·rintro i b x H6 NY NN eb s6 _ k1;exists bF λt0 H7 s7 g7=>?_
   exact k1 _ _ s7 (bW.mk (q:=0) g7 rfl)
  rintro ys6 H6 l6 n6 s6 g6 p6 _;have s46:=s45.trans s6;exists #[_,_,CH,pt.map λb=>cA b z,pt.map λ_=>(0:Rat),(),cS.kind #[ys5,s6 _ _ g5,Paired.imp' (λ_ _ y=>bW.same y s6) p5],cS.kind #[ys6,g6,p6],?_];by_cases c2:(pt.map λb=>cA b z)=pt.map λ_=>(0:Rat)
  case neg =>
   rw[decide_eq_false c2];exists no H6 s46 λh=>c2 (ib λb hb=>((lF.mp h).2.2.1 j z ws ez ew).2.1 b hb)
  rw[decide_eq_true c2];have c2':∀b∈pt,cA b z=0:=λb hb=>List.map_inj_left.mp c2 b hb
  exists b8 (bE.of (s46 _ _ gw)) (dq evw) ?_;exists #[_,_,rfl,.inl (bE.of (s46 _ _ gg)),?_];rw[<- lug,lg];exists #[_,_,_,rfl,p,aw,mv.9,M,DD,W,B,H1,rows,ws,rfl,GR.same s46,Rw.same s46,c1,r100,(),hr1,M0,D0,tM,tD ws mw,W1,B1,b1,b2,λr7 H7 n7 s7 R7=>?_];have s47:=s46.trans s7;exists b8 (bE.of (s47 _ _ gr)) (dq evz) ?_;exists #[r,az,H0,mv,pt,lk,z,rfl,PQ.same s47,D,Rz.same s47,lz,f2 z mz,λr8 H8 n8 s8 R8=>?_];exists #[_,_,CH,AN rows ws mv.9,(cu mv mv.9).map λys=>cA ys z,(),(R7.same s8).kind,R8.kind,?_];by_cases c3:AN rows ws mv.9=(cu mv mv.9).map λys=>cA ys z
  case neg =>
   rw[decide_eq_false c3];exists no H8 (s47.trans s8) λh=>c3 ((lF.mp h).2.2.1 j z ws ez ew).2.2.symm
  rw[decide_eq_true c3];exists #[s47.trans s8,λi z' ws' hi h1 h2=>?_,_,rfl];rcases cB i j with hh | hh
  ·exact ok i z' ws' hh h1 h2
  ·have e:i=j:=()
   subst e;rw[ez] at h1;rw[ew] at h2;cases h1;cases h2;exact #[c1,c2',c3.symm]
 rintro σ' H4 ⟨s4,ok,y,rfl⟩;obtain z0|v0|ez|ev|mz|a0|rfl|_|R0:=dM qr n0;exists b8 (bE.of (s4 _ _ gr)) (dq ev) ?_;exists #[a0,g,z0,go,rfl,R0.same s4,Rg.same s4,by rw[lg,hr1 z0 mz],by rw[hr1 z0 mz];lia,f4 z0 mz,λd H9 s9 N9=>?_];exists bF λt0 HA sA gA=>?_
 exists #[_,_,Gh,cA z0 go,0,(),N9.same sA,bW.mk (q:=0) gA rfl,?_];have eg:rows.getD 0 []=z0:=by rw[aa,ez];rfl
 have e:sD mv pt go rows wts=!decide (cA z0 go=0):=by
  rw[gW,lF,eg];simp only[Bool.not_eq_true',decide_eq_false_iff_not];exact #[λh=>h.2.2.2,λh=>#[e0,e1,λi z ws h1 h2=>ok i z ws (aE.mp h1).1 h1 h2,h]]
 rw[<- e];exact k _ ((s4.trans s9).trans sA)
theorem kg:sC ["_law_script","_law_bag_here","_law_parts_here","_law_wide","_law_system_here","_law_rest","_law_goal_here","_law_other","_law_rows","_law_weights","_law_one","_law_handed","_law_found"] 1 MU:=by walk_at "d"
theorem S8 (T:Txt K mg Z):uH P w K mg base Mc 12 Z.RO Z.RN ["_law_script"] (zG K):=by
 refine T.RQ.k kg ?_;walk_at "i";obtain a|ns|rfl|hS|hlen|k:=h
 refine #[_,(au (eQ 1 kg.nd (cT (FY T) hr T.o5 (dB b6)))
  (au (eP (cT (Ak T) hr T.kF (dB c9)) (rA rfl (cM (eH 2 kg.nd) (cM (eH 3 kg.nd) ij))))
  (au (eQ 4 kg.nd (cT (D4 T) hr T.oh (dB dW)))
  (au (iY 5 ["_law_row_here"] [] [] kg.nd rfl rfl (b9 (aX bS dW aj)) (λ_=>(eH 0)) (λ_=>bZ) (λ_=>(cD (cQ aj aj))))
  (au (eQ 6 kg.nd (cT (wC T) hr T.kK (fV c9 (Ae dW pU (cT (vA T) hr T.jH (cQ c9 dW)) ic))))
  (au (eQ 7 kg.nd (cT (wC T) hr T.kK (fV c9 (Ae dW pU (cT (vA T) hr T.jH (cQ c9 dW)) ic))))
  (au (eO PassesOwn.never rfl (b9 (cT (An T) hr T.kI (Ae c9 dW kU oQ))) (rA rfl (cM (eH 8 kg.nd) (cM (eH 9 kg.nd) ij)))
   (aB (eO PassesOwn.never rfl (b9 (dw (rB oQ AZ pU))) (eH 10 kg.nd)
   (au (eQ 11 kg.nd (dw (rB (dI (dO K (by rfl)) (by rfl) T.list PyProof.Rows.boot_list (dB (pv 10))) (bX ["_law_row_here"] [] [] (b9 EY) (λ_=>(eH 0)) (λ_=>bZ) (λ_=>(dI (dO K (by rfl)) (by rfl) T.list PyProof.Rows.boot_list (dB b6)))) (bX ["_law_some"] [] [] (b9 Mf) (λ_=>(eH 0)) (λ_=>bZ) (λ_=>(dI (dO K (by rfl)) (by rfl) T.list PyProof.Rows.boot_list (dB b6)))))))
  (au (eQ 12 kg.nd (cT (Aj T) hr T.oK (Ae kU (aX bC (pv 11) aj) (aX bC (pv 11) aj) (aX bC (pv 11) aj))))
  (au (di (PW.pt (vn (tW (tV (Ac rfl T.isinstance PyProof.Rows.boot_bool T.bool (pv 12)))) (pT (bf yp (pv 12) (cT (A7 T) hr T.mG (Ae dW (pv 10) EY Mf)) (bu _))))) (aB (a8 sF)) bU)
  (aB (di (bf (rC (yG hr)) (pv 11) (dw (rB (pv 10) EY Mf)) (bu _)) (aB (a8 sF)) bU))))))))
  (au (eQ 12 kg.nd (cT (yr T) hr T.mR (cQ kU (dI (dO K (by rfl)) (by rfl) T.list PyProof.Rows.boot_list (dB oQ)))))
  (aB (a8 (UX (jK dX (aX bS (pv 12) aj) lK (bu _)) (IS (cT (Aj T) hr T.oK (Ae kU oQ (aX bS (pv 12) aj) (aX bS (pv 12) aj))))))))))))))),?_]
 walk_at "s"
 try rw[ik]
 exists #[a,ns,rfl,hS,hlen,λb H0 hb0 B0 s0=>?_];exists #[b,rfl,B0,λt r w a' c mv pt lk H1 g1 P1 D F KF RG w1 w2 B1 u1=>?_];have d8:=D.n8;have d4:=D.i4;exists #[r,H0,mv,pt,lk,rfl,P1,D,F.sf,λx H2 nx s2 S2=>?_];replace S2:j9 K H0 H2 Z.a_System x mv pt lk:=S2.weakN λq h=>u1.none B1 h
 replace P1:=P1.same s2;have B2:=B1.same s2
 have szE:∀xs∈mv++pt,∀x∈xs,mU x:=λxs hx y hy=>by
  obtain M|V|h0|h1|h2|f1|f2|_:=F;refine Qt h0 (ag h1 (ai () ())) (ag h2 (ai () ())) ?_;rcases ay.mp hx with hx | hx
  ·exact f1 xs hx y hy
  ·exact f2 xs hx y hy
 obtain m|p|l|gt|mn|pn|ln|Gm|Gp|Gl:=id P1;obtain um|gm|qm|_:=id Gm;have lum:=qm.9;exists #[#[_,bE.of gm],?_];refine dn (K:=K) (as:=mv) (F:=cW K H0) (bW K) (λ_=>(0:Rat)) gm qm () (λh s=>h.same s) (λh s=>h.same s) ?_ ?_
 ·rintro i xs v H' NY NN _ s' _ k1;exists bF λt Hy sy gy=>?_
  exact k1 _ _ sy (bW.mk (q:=0) gy rfl)
 rintro ys H4 re hre s4 g4 pr4 _;have R0:cS K H4 re (List.replicate mv.9 0):=#[ys,g4,by have:=pr4;rwa [sO] at this];have reb:re≠b:=λz=>B2.at (by rw[<- z];exact hre)
 have B4:=B2.same s4;have U4:c8 b H0 H4:=(u1.same s2).same s4;replace P1:=P1.same s4;replace S2:=S2.same s4;clear g4 pr4 gm qm lum Gm Gp Gl gt;have l0:(List.replicate mv.9 (0:Rat)).9=mv.9:=aJ ..;have d0:∀x∈List.replicate mv.9 (0:Rat),Dr (max w 6) x:=λx hx=>by rw[ja hx];exact #[by show 0<=_;lia,by show 1<=_;lia]
 exists #[b,r,H0,mv,pt,lk,rfl,B4,B0.at,P1,D,szE,λtt H5 hT B5 u5=>?_];replace P1:=P1.upto u5 B4 B0.at;replace S2:=S2.upto u5 B4 B0.at;replace R0:=R0.upto u5 B4 reb;have T12:=hT.1;obtain M1|M2|Vx|a1|a2|cc|b1|b2|U|HG:=Rh RG D hT;exists #[b,r,re,tt,w,H0,mv,pt,lk,_,rfl,(),w1,w2,B5,B0.at,P1,D,R0,reb,l0,λpus dp=>U.enf D l0 d0 (ak _) dp,λg go H6 ng Rg lg GP B6 u6=>?_];have gb:g≠b:=λz=>B5.at (by rw[<- z];exact ng)
 replace P1:=P1.upto u6 B5 B0.at;replace S2:=S2.upto u6 B5 B0.at;replace R0:=R0.upto u6 B5 reb;obtain ⟨E0,e0,g0,ep,el,fg,eg⟩|SO:=HG go lg (U.gob D l0 lg d0 (ak _) GP);exists #[b,r,H0,mv,pt,lk,rfl,B6,B0.at,P1,D,szE,λt7 H7 hT7 B7 u7=>?_];replace P1:=P1.upto u7 B6 B0.at;replace S2:=S2.upto u7 B6 B0.at;replace R0:=R0.upto u7 B6 reb;replace Rg:=Rg.upto u7 B6 gb;have T12b:=hT7.1;obtain M1b|M2b|Vb|a1b|a2b|ccb|b1b|b2b|Ub|HGb:=Rh RG D hT7;exists #[b,r,re,t7,w,H0,mv,pt,lk,_,rfl,(),w1,w2,B7,B0.at,P1,D,R0,reb,l0,λpus dp=>Ub.enf D l0 d0 (ak _) dp,λgo2a go2 H8 ng2 Rg2 lg2 GP2 B8 u8=>?_];replace P1:=P1.upto u8 B7 B0.at;replace S2:=S2.upto u8 B7 B0.at;replace R0:=R0.upto u8 B7 reb;replace Rg:=Rg.upto u8 B7 gb;obtain ⟨E2,e2,g2,ep2,el2,fg2,eg2⟩|_:=HGb go2 lg2 (Ub.gob D l0 lg2 d0 (ak _) GP2);have g2b:go2a≠b:=λz=>B7.at (by rw[<- z];exact ng2)
 have U8:c8 b H0 H8:=((U4.trans u5).trans u6).trans (u7.trans u8);obtain N1|N2|Vy|q1|q2|cy|q0|c0|b0|Y0:=UG RG D (T:=0) #[(),.inl ()];have HP:=λR ps (RR:bI (kry mv pt mv.9) mv.9 R ps)=>Y0.pap D RR
 have HF:=λrows wts E hE (P:nF mv.9 (E+14) (E+14) (q1+E+24) (cy+E+18) rows wts)=>Y0.pf D hE P
 have sz:=Y0.sz;have bdY:=Y0.bd;generalize hE:mv.9*((mv.9 - 1)*(q0+c0)+4)=E at HP HF sz;have t1:cy<=cy*(0+1+2):=cN _ ();have FG:mW e0 g0 go:=#[E0,_,ep,el,ak _,fg];have FG2:mW e2 g2 go2:=#[E2,_,ep2,el2,ak _,fg2];have FG0:mW 0 0 (List.replicate mv.9 (0:Rat)):=#[1,1,(),(),(),λy hy=>by rw[ja hy];exact Fr.zero];have SO':∀u,u<=mv.9->TM mv pt (List.replicate mv.9 0) go u (QT mv pt (List.replicate mv.9 0) go u) (Mi mv pt (List.replicate mv.9 0) go u):=λu hu=>SO u tt () hT ()
 have FN:∀R ps,bI (kry mv pt mv.9) mv.9 R ps->∀z∈aU R ps mv.9,jV z go:=λR ps RR z hz=>#[_,_,e0,g0,(HP R ps RR).fit z hz,FG,()]
 exists #[b,r,x,g,H0,mv,pt,lk,go,a',c,E,q1+E,cy+E,rfl,B8,B0.at,λq h=>U8.none B8 h,P1,S2,D,F,KF,Rg,gb,lg,SO',FN,#[N1,bdY.m1,ag bdY.b1 (ai () ()),λxs hx y hy=>(bdY.gm xs hx y hy).mono (ag (ag (b7 _ ()) bdY.vc) (ai () ()))],HP,(),(),λlp us H9 nlp u9 B9 g9 lus hP=>?_];replace P1:=P1.upto u9 B8 B0.at;replace S2:=S2.upto u9 B8 B0.at;replace R0:=R0.upto u9 B8 reb;replace Rg:=Rg.upto u9 B8 gb;replace Rg2:=Rg2.upto u9 B8 g2b;exists #[#[_,bE.of g9],?_];refine iP (K:=K) (a:=lp) (xs:=us) (λi σ' H'=>aH H9 H'/\∃y1 y2 y3 y4 y5,σ'=[some (.ref a),some (.ref b),some (.ref r),some (.int w),some (.ref x),some (.ref re),some (.ref g),some (.ref go2a),y1,y2,y3,y4,y5]) #[aH.refl _,_,_,_,_,_,rfl] (λi σ' H' _ #[s,_]=>bE.of (s _ _ g9)) ?_ ?_
 ·rintro i v σ' H10 hv ⟨s10,y1,y2,y3,y4,y5,rfl⟩;obtain tp|p|q|rfl|gtp|rows|wts|p0|q0'|GR|GW|PF:=(hP v (av hv)).same s10;obtain f1|f2|fs|f3|f4:=HF rows wts E rfl PF;exists cO λli H11 s11 n11 g11=>?_
  have s911:=s10.trans s11;exists #[#[_,bE.of g11],?_]
  have hg:∀v∈[V.ref g,V.ref go2a,V.ref re],Wd K H11 mv.9 v:=λv hv=>by
   rcases aI.mp hv with rfl | hv
   ·exact #[g,go,e0,g0,rfl,Rg.same s911,lg,FG,eg]
   rcases aI.mp hv with rfl | hv
   ·exact #[go2a,go2,e2,g2,rfl,Rg2.same s911,lg2,FG2,eg2]
   ·rw[aS.mp hv];exact #[re,_,0,0,rfl,R0.same s911,l0,FG0,()]
  have r10:=PF.rl;have w10:=PF.wl;refine iP (K:=K) (a:=li) (xs:=[.ref g,.ref go2a,.ref re]) (λi σ' H'=>aH H11 H'/\∃y3 y4 y5,σ'=[some (.ref a),some (.ref b),some (.ref r),some (.int w),some (.ref x),some (.ref re),some (.ref g),some (.ref go2a),some (.ref p),some (.ref q),y3,y4,y5]) #[aH.refl _,_,_,_,rfl] (λi σ' H' _ #[s,_]=>bE.of (s _ _ g11)) ?_ ?_
  ·rintro j v σ' H12 hv2 ⟨s12,y3,y4,y5,rfl⟩;obtain q3|gv|e3|g3|rfl|R3|l3|F3|le3:=hg v (av hv2);replace R3:=R3.same s12;obtain zs3|gz3|qz3:=id R3;exists #[q3,zs3,rfl,.inl (bE.of gz3),λc1 hc1=>?_];have sc:aH H12 (upd H12 c1 (.lst zs3)):=aH.new hc1;have Rc:cS K (upd H12 c1 (.lst zs3)) c1 gv:=#[zs3,aG,Paired.imp' (λ_ _ z=>z.same sc) qz3];generalize upd H12 c1 (.lst zs3)=H13 at sc Rc ⊢;clear gz3 qz3;have s013:=(s11.trans s12).trans sc;obtain rs|gr|qr|_:=GR.same s013;obtain us'|gw|qw|_:=GW.same s013;have lr:=qr.9;have lw:=qw.9;exists #[#[_,bE.of gr],?_];refine dn (K:=K) (as:=rows) (F:=cW K H0) (cW K H13) (λxs=>xs) gr qr () (λh s=>h.same s) (λh s=>h.same s) ?_ ?_
   ·rintro i xs x H9 NY NN ex s9 ⟨u,rfl,_,zs,gz,qz⟩ k1;exists #[u,zs,rfl,.inl (bE.of gz),λl hl=>?_];exact k1 _ _ (aH.new hl) #[l,rfl,s9.none hl,zs,aG,Paired.imp' (λ_ _ y=>bW.same y (aH.new hl)) qz]
   rintro us1 H14 p1 n1 s14 g14 pr1 nx1;rw[vd] at pr1 nx1;have G14:bp K H13 H14 p1 rows:=#[us1,g14,pr1,iH nx1];exists #[#[_,bE.of (s14 _ _ gw)],?_];refine dn (K:=K) (as:=wts) (F:=cW K H0) (cW K H14) (λxs=>xs) (s14 _ _ gw) (Paired.imp' (λ_ _ y=>cW.same y s14) qw) () (λh s=>h.same s) (λh s=>h.same s) ?_ ?_
   ·rintro i xs x H9 NY NN ex s9 ⟨u,rfl,_,zs,gz,qz⟩ k1;exists #[u,zs,rfl,.inl (bE.of gz),λl hl=>?_];exact k1 _ _ (aH.new hl) #[l,rfl,s9.none hl,zs,aG,Paired.imp' (λ_ _ y=>bW.same y (aH.new hl)) qz]
   rintro vs1 H15 q1' n15 s15 g15 pr2 nx2;rw[vd] at pr2 nx2;have G15:bp K H14 H15 q1' wts:=#[vs1,g15,pr2,iH nx2];clear g14 g15 pr1 pr2 nx1 nx2 gr gw qr qw;exists cO λhd H16 s16 n16 g16=>?_
   have s1316:=(s14.trans s15).trans s16;have s916:=s10.trans (s013.trans s1316);have Rc16:=Rc.same s1316;have Gp16:=G14.same (s15.trans s16);have Gq16:=G15.same s16;exists #[x,c1,p1,q1',H0,H13,H14,mv,pt,lk,rows,wts,gv,rfl,S2.same s916,D,Rc16,l3,Gp16,Gq16,(),(),PF.rn,f1,f2,f3,f4 gv e3 g3 F3 le3,λH17 s17=>?_];exists #[_,_,.bl _,rfl,?_];walk_at "w";have s917:=s916.trans s17;have s1217:=(sc.trans s1316).trans s17;have s1017:=(s013.trans s1316).trans s17;refine #[r,q3,p,q,H0,H0,H0,mv,pt,lk,rows,wts,gv,rfl,P1.same s917,D,R3.same s1217,l3,GR.same s1017,GW.same s1017,(),(),PF.rn,f1,f2,fs,f4 gv e3 g3 F3 le3,λH18 s18=>?_];walk_at "w";rw[decide_eq_true rfl];exists cO λcm H19 s19 n19 g19=>?_
   have s1619:=(s17.trans s18).trans s19;have s1719:=s18.trans s19;exists #[_,_,kUn CH xQ gv rows wts,.unit,.unit,(by show max CH.d xQ.d+1<=50;decide),#[hd,_,_,_,rfl,bE.of (s1619 _ _ g16),(Rc16.same s1619).kind,(Gp16.same s1619).kind,(Gq16.same s1619).kind],#[cm,_,_,_,rfl,bE.of g19,(R3.same (s1217.trans s1719)).kind,(GR.same (s1017.trans s1719)).kind,(GW.same (s1017.trans s1719)).kind],?_];rw[decide_eq_true rfl];exists #[s12.trans (s1217.trans s1719),_,_,_,rfl]
  ·rintro σ' H12 ⟨s12,y3,y4,y5,rfl⟩;exact #[s911.trans s12,_,_,_,_,_,rfl]
 ·rintro σ' H10 ⟨s10,y1,y2,y3,y4,y5,rfl⟩;replace S2:=S2.same s10;replace Rg:=Rg.same s10;obtain ug8|gg8|qg8:=id Rg;exists #[g,ug8,rfl,.inl (bE.of gg8),λc1 hc1=>?_];have s11:aH H10 (upd H10 c1 (.lst ug8)):=aH.new hc1;have R11:cS K (upd H10 c1 (.lst ug8)) c1 go:=#[ug8,aG,Paired.imp' (λ_ _ z=>z.same s11) qg8];generalize upd H10 c1 (.lst ug8)=H11 at s11 R11 ⊢;exists #[x,c1,a',c,H0,mv,pt,lk,go,rfl,S2.same s11,D,F,KF,R11,lg,SO',FN,#[λtF pF kk pus HA gA sA nA GA S48=>?_,λtF pF qF i R ps HA gA sA nA nB GA GB SH=>?_]]
  ·walk_at "w";rw[decide_eq_true rfl];exists k HA
  obtain RR|hi|ni|_:=SH;obtain PF|lA|lB|wB:=(HP R ps RR).ahead uM BS hi;obtain f1|f2|fs|f3|f4:=HF _ _ E rfl (PF.mono () () () ());have r10:=PF.rl;have w10:=PF.wl;have s10A:=s11.trans sA;walk_at "w";rw[decide_eq_false (show ¬(Str.ofString "never"=Str.ofString "in") by decide)];exists #[x,g,pF,qF,H0,H11,H11,mv,pt,lk,_,_,go,rfl,S2.same s10A,D,Rg.same s10A,lg,GA,GB,(),(),PF.rn,f1,f2,f3,f4 go e0 g0 FG eg,λH' s'=>?_];rw[K7 KF D RR hi ni];exact k H'
end
theorem ln1 {P:List Value->Prop} (h:∀x0,P [x0]):∀us:List Value,us.9=1->P us
 | [x0],_=>h x0
theorem ln2 {P:List Value->Prop} (h:∀x0 x1,P [x0,x1]):∀us:List Value,us.9=2->P us
 | [x0,x1],_=>h x0 x1
theorem ln3 {P:List Value->Prop} (h:∀x0 x1 x2,P [x0,x1,x2]):∀us:List Value,us.9=3->P us
 | [x0,x1,x2],_=>h x0 x1 x2
theorem ln4 {P:List Value->Prop} (h:∀x0 x1 x2 x3,P [x0,x1,x2,x3]):∀us:List Value,us.9=4->P us
 | [x0,x1,x2,x3],_=>h x0 x1 x2 x3
theorem ln5 {P:List Value->Prop} (h:∀x0 x1 x2 x3 x4,P [x0,x1,x2,x3,x4]):∀us:List Value,us.9=5->P us
 | [x0,x1,x2,x3,x4],_=>h x0 x1 x2 x3 x4
local macro_rules | `(tactic| walk_at "b") => `(tactic| (intro _ _ _ _ _ _; first | (refine ln1 ?_; intros; rfl) | (refine ln2 ?_; intros; rfl) | (refine ln3 ?_; intros; rfl) | (refine ln4 ?_; intros; rfl) | (refine ln5 ?_; intros; rfl)))
theorem all_mk {l:W.OpenLaw} {K:W.Frag} {e0 e1 e2 e3 e4 e5 e6 e7 e8 e9 e10 e11 e12 e13 e14 e15 e16 e17 e18 e19 e20 e21 e23 e24 e25 e26 e27 e28 e29 e30 e31 e32 e33 e34 e35 e36 e37 e38 e39 e40 e41 e42 e43 e44 e45 e46 e47 e48 e49 e50 e51 e52 e53 e54 e55 e56 e57 e58 e59 e60 e61 e62 e63 e64 e65 e66 e67 e69 e70 e71 e72 e73 e74 e75 e76 e77 e78 e79 e80 e81 e82 e83:FuncData}
 
  (X:K.In h) (G:h.Ns mainGlobals mg) (hfa:mg "law"=some (.ref fa))
 (aC:W.nsIn K mainGlobals "System"=some (some (.ref C)))
  (h0:Dh K "_law_bag" vM f0 e0)
  (h1:Dh K "_law_take" tE f1 e1)
  (h2:Dh K "_law_sizes" nO f2 e2)
  (h3:Dh K "_law_line" tQ f3 e3)
  (h4:Dh K "_law_low" vJ f4 e4)
  (h5:Dh K "_law_sum" vH f5 e5)
  (h6:Dh K "_law_plus" tJ f6 e6)
  (h7:Dh K "_law_prod" tI f7 e7)
  (h8:Dh K "_law_by" xF f8 e8)
  (h9:Dh K "_law_mixed" rh f9 e9)
  (h10:Dh K "_law_two_lines" lH f10 e10)
  (h11:Dh K "_law_number" pR f11 e11)
  (h12:Dh K "_law_row" vI f12 e12)
  (h13:Dh K "_law_move" tO f13 e13)
  (h14:Dh K "_law_parts" rg f14 e14)
  (h15:Dh K "_law_system" pM f15 e15)
  (h16:Dh K "want_list" sZ f16 e16)
  (h17:Dh K "is_whole" vG f17 e17)
  (h18:Dh K "common_divisor" lG f18 e18)
  (h19:Dh K "is_number" tw f19 e19)
  (h20:Dh K "is_row" zU f20 e20)
  (h21:Dh K "copied_rows" pK f21 e21)
  (a22:W.findIn K (.ref C) "__init__"=some (some (.ref f22))) (i22:W.isFn K (.ref f22)=true) (l22:K.lookup f22=some #[oc22,od22,.func (W.fnOf "__init__" "System.__init__" (oj fA) (jL fA) (fO fA) .none kV22 dc22 pm22 an22 cd22 ct22),sl22]) (c22:W.codeIn K cd22 "System.__init__"=true) (k22:W.keepIn K (.ref f22)=true)
  (h23:Dh K "_law_copied" pS f23 e23)
  (h24:Dh K "_law_made" tP f24 e24)
  (h25:Dh K "_law_dot" vL f25 e25)
  (h26:Dh K "_law_on" xE f26 e26)
  (h27:Dh K "_law_next" tL f27 e27)
  (h28:Dh K "_law_end" vK f28 e28)
  (h29:Dh K "_law_puts" tH f29 e29)
  (h30:Dh K "_law_goal" tS f30 e30)
  (h31:Dh K "_law_steps" qZ f31 e31)
  (h32:Dh K "_law_turned" pL f32 e32)
  (h33:Dh K "tops_over" tq f33 e33)
  (h34:Dh K "common_multiple" kr f34 e34)
  (h35:Dh K "common_bottom" nC f35 e35)
  (h36:Dh K "first_with" qX f36 e36)
  (h37:Dh K "cleared" xD f37 e37)
  (h38:Dh K "brought_up" qY f38 e38)
  (h39:Dh K "swept" DH f39 e39)
  (h40:Dh K "lowest" zT f40 e40)
  (h41:Dh K "reduced" xv f41 e41)
  (h42:Dh K "row_dot" xu f42 e42)
  (h43:Dh K "grid_on" xC f43 e43)
  (h44:Dh K "moved_rows" qV f44 e44)
  (h45:Dh K "reach_grown" pE f45 e45)
  (h46:Dh K "reach_rows" qT f46 e46)
  (h47:Dh K "unit_row" vE f47 e47)
  (h48:Dh K "leading_place" nk f48 e48)
  (h49:Dh K "leading" xy f49 e49)
  (h50:Dh K "minus" DK f50 e50)
  (h51:Dh K "null_at" xx f51 e51)
  (h52:Dh K "free_places" pJ f52 e52)
  (h53:Dh K "nulls" DJ f53 e53)
  (h54:Dh K "grid_turned" pH f54 e54)
  (h55:Dh K "grid_times" qW f55 e55)
  (h56:Dh K "taken_over" qS f56 e56)
  (h57:Dh K "unsteered" td f57 e57)
  (h58:Dh K "_law_spoilt" pO f58 e58)
  (h59:Dh K "_law_quot" tG f59 e59)
  (h60:Dh K "_law_scaled" pP f60 e60)
  (h61:Dh K "flat" IF f61 e61)
  (h62:Dh K "additions" tz f62 e62)
  (h63:Dh K "nought_row" qU f63 e63)
  (h64:Dh K "solved" zS f64 e64)
  (h65:Dh K "solve" DI f65 e65)
  (h66:Dh K "weights_for" pC f66 e66)
  (h67:Dh K "row_minus" tu f67 e67)
  (a68:W.findIn K (.ref C) "moved"=some (some (.ref f68))) (i68:W.isFn K (.ref f68)=true) (l68:K.lookup f68=some #[oc68,od68,.func (W.fnOf "moved" "System.moved" (oj iq) (jL iq) (fO iq) .none kV68 dc68 pm68 an68 cd68 ct68),sl68]) (c68:W.codeIn K cd68 "System.moved"=true) (k68:W.keepIn K (.ref f68)=true)
  (h69:Dh K "course" zV f69 e69)
  (h70:Dh K "nothing_for" pG f70 e70)
  (h71:Dh K "lacking" xA f71 e71)
  (h72:Dh K "cut" MV f72 e72)
  (h73:Dh K "come" IG f73 e73)
  (h74:Dh K "soonest" xt f74 e74)
  (h75:Dh K "brought_ahead" nD f75 e75)
  (h76:Dh K "shut_off" vF f76 e76)
  (h77:Dh K "_law_papers" pQ f77 e77)
  (h78:Dh K "is_nought" tx f78 e78)
  (h79:Dh K "is_shut" xB f79 e79)
  (h80:Dh K "_law_summed" pN f80 e80)
  (h81:Dh K "_law_over" tK f81 e81)
  (h82:Dh K "_law_shuts" rf f82 e82)
  (h83:Dh K "law" MU f83 e83)
 (ca0:W.nsIn K mainGlobals "NOUGHT"=some (some (.ref m0))) (cl0:K.lookup m0=some #[.type "tuple",mo0,.seq [.int 0 mt0_0,.int 1 mt0_1].toArray mn0,ms0])
 (ca1:W.nsIn K mainGlobals "ONE"=some (some (.ref m1))) (cl1:K.lookup m1=some #[.type "tuple",mo1,.seq [.int 1 mt1_0,.int 1 mt1_1].toArray mn1,ms1])
 (ci0:W.nsIn K mainGlobals "MOST_STATES"=some (some (.int 8 it0)))
 (ci1:W.nsIn K mainGlobals "MOST_PUTS"=some (some (.int 4 it1)))
 (ci2:W.nsIn K mainGlobals "MOST_LOOKS"=some (some (.int 4 it2)))
  (pg:W.plainGet K C Str.empty=true) (hd:W.hasDictIn K C=true) (po:W.plainOver K C=true) (sa:W.findIn K (.ref C) "__setattr__"=some (some (.builtin "object.__setattr__"))) (mk:W.makesIn K C=true) (kc:W.keepIn K (.ref C)=true)
  (n_move:W.findIn K (.ref C) "move"=some none)
  (n_states:W.findIn K (.ref C) "states"=some none)
  (n_put:W.findIn K (.ref C) "put"=some none)
  (n_ins:W.findIn K (.ref C) "ins"=some none)
  (n_look:W.findIn K (.ref C) "look"=some none)
  (n_outs:W.findIn K (.ref C) "outs"=some none)
  (z_abs:W.nsIn K mainGlobals "abs"=some none)
  (z_len:W.nsIn K mainGlobals "len"=some none)
  (z_min:W.nsIn K mainGlobals "min"=some none)
  (z_int:W.nsIn K mainGlobals "int"=some none)
  (z_range:W.nsIn K mainGlobals "range"=some none)
  (z_isinstance:W.nsIn K mainGlobals "isinstance"=some none)
  (z_list:W.nsIn K mainGlobals "list"=some none)
  (z_bool:W.nsIn K mainGlobals "bool"=some none)
  (z_tuple:W.nsIn K mainGlobals "tuple"=some none)
  (z_all:W.nsIn K mainGlobals "all"=some none)
  (z_enumerate:W.nsIn K mainGlobals "enumerate"=some none)
  (z_max:W.nsIn K mainGlobals "max"=some none)
  (z_zip:W.nsIn K mainGlobals "zip"=some none)
  (z_sum:W.nsIn K mainGlobals "sum"=some none)
  (z_reversed:W.nsIn K mainGlobals "reversed"=some none)
  : ∃fd:FuncData,(∀(s:Shared) (v:Value),BindsTo s fd #[[v],[]] [("_law_script",v)])/\∀base:Heap,K.In base->base.Ns mainGlobals mg->uH l.prog w K mg base Mc 12 fa fd ["_law_script"] (zG K):=by
 have e:=hfa.symm.trans (W.mg_of X G h83.a);cases e;obtain _|_|_|_|_|_|_|_|_|rfl|_|_:=h83.F.ex;have F22:=Jp (st:=fA) l22 c22 k22;have F68:=Jp (st:=iq) l68 c68 k68
 have T:Txt K mg #[f0,_,f1,_,f2,_,f3,_,f4,_,f5,_,f6,_,f7,_,f8,_,f9,_,f10,_,f11,_,f12,_,f13,_,f14,_,f15,_,f16,_,f17,_,f18,_,f19,_,f20,_,f21,_,f22,_,f23,_,f24,_,f25,_,f26,_,f27,_,f28,_,f29,_,f30,_,f31,_,f32,_,f33,_,f34,_,f35,_,f36,_,f37,_,f38,_,f39,_,f40,_,f41,_,f42,_,f43,_,f44,_,f45,_,f46,_,f47,_,f48,_,f49,_,f50,_,f51,_,f52,_,f53,_,f54,_,f55,_,f56,_,f57,_,f58,_,f59,_,f60,_,f61,_,f62,_,f63,_,f64,_,f65,_,f66,_,f67,_,f68,_,f69,_,f70,_,f71,_,f72,_,f73,_,f74,_,f75,_,f76,_,f77,_,f78,_,f79,_,f80,_,f81,_,f82,_,fa,_,m0,m1,it0,it1,it2,C]:={
  o5:=h0.D X G
  aR:=h1.D X G
  mF:=h2.D X G
  ju:=h3.D X G
  gQ:=h4.D X G
  fY:=h5.D X G
  jt:=h6.D X G
  iN:=h7.D X G
  ji:=h8.D X G
  jI:=h9.D X G
  iZ:=h10.D X G
  kJ:=h11.D X G
  fZ:=h12.D X G
  og:=h13.D X G
  mH:=h14.D X G
  kF:=h15.D X G
  jq:=h16.D X G
  mS:=h17.D X G
  fB:=h18.D X G
  nU:=h19.D X G
  uR:=h20.D X G
  iu:=h21.D X G
  o8:=F22.binds (ps:=["self","move","put","look"]) λ_ _ _ _ _ _=>by refine ln4 ?_;intros;rfl
  ph:=F22
  gK:=h23.D X G
  oh:=h24.D X G
  jh:=h25.D X G
  rR:=h26.D X G
  oa:=h27.D X G
  oZ:=h28.D X G
  nY:=h29.D X G
  kK:=h30.D X G
  jH:=h31.D X G
  iw:=h32.D X G
  jr:=h33.D X G
  iM:=h34.D X G
  gB:=h35.D X G
  mD:=h36.D X G
  rQ:=h37.D X G
  mE:=h38.D X G
  uo:=h39.D X G
  lV:=h40.D X G
  oI:=h41.D X G
  jS:=h42.D X G
  lW:=h43.D X G
  jF:=h44.D X G
  jd:=h45.D X G
  mC:=h46.D X G
  oY:=h47.D X G
  js:=h48.D X G
  oJ:=h49.D X G
  uq:=h50.D X G
  rN:=h51.D X G
  jf:=h52.D X G
  wG:=h53.D X G
  gI:=h54.D X G
  jG:=h55.D X G
  jE:=h56.D X G
  kE:=h57.D X G
  jg:=h58.D X G
  nX:=h59.D X G
  kH:=h60.D X G
  yW:=h61.D X G
  nW:=h62.D X G
  gZ:=h63.D X G
  qD:=h64.D X G
  wF:=h65.D X G
  kD:=h66.D X G
  nR:=h67.D X G
  sH:=#[a68,i68,k68]
  uD:=F68.binds (ps:=["self","state","puts"]) λ_ _ _ _ _ _=>by refine ln3 ?_;intros;rfl
  uI:=F68
  uS:=h69.D X G
  je:=h70.D X G
  rO:=h71.D X G
  D7:=h72.D X G
  yX:=h73.D X G
  rM:=h74.D X G
  gC:=h75.D X G
  mR:=h76.D X G
  kI:=h77.D X G
  nV:=h78.D X G
  oK:=h79.D X G
  kG:=h80.D X G
  nZ:=h81.D X G
  mG:=h82.D X G
  RQ:=h83.F
  abs:=W.mg_none_of X G z_abs
  len:=W.mg_none_of X G z_len
  min:=W.mg_none_of X G z_min
  int:=W.mg_none_of X G z_int
  range:=W.mg_none_of X G z_range
  isinstance:=W.mg_none_of X G z_isinstance
  list:=W.mg_none_of X G z_list
  bool:=W.mg_none_of X G z_bool
  tuple:=W.mg_none_of X G z_tuple
  all:=W.mg_none_of X G z_all
  enumerate:=W.mg_none_of X G z_enumerate
  max:=W.mg_none_of X G z_max
  zip:=W.mg_none_of X G z_zip
  sum:=W.mg_none_of X G z_sum
  reversed:=W.mg_none_of X G z_reversed
  mg_NOUGHT:=W.mg_of X G ca0
  sq_NOUGHT:=λH=>.inr #[_,_,_,cl0,rfl,rfl,kd rfl,.cons #[_,rfl] (.cons #[_,rfl] (.nil))]
  mg_ONE:=W.mg_of X G ca1
  sq_ONE:=λH=>.inr #[_,_,_,cl1,rfl,rfl,kd rfl,.cons #[_,rfl] (.cons #[_,rfl] (.nil))]
  mg_MOST_STATES:=W.mg_of X G ci0
  mg_MOST_PUTS:=W.mg_of X G ci1
  mg_MOST_LOOKS:=W.mg_of X G ci2
  mg_System:=W.mg_of X G aC
  cl_System:=#[pg,hd,po,sa]
  na_move:=n_move
  na_states:=n_states
  na_put:=n_put
  na_ins:=n_ins
  na_look:=n_look
  na_outs:=n_outs
  mk_System:=#[mk,a22,i22,kc] }
 exact #[_,λs v=>.of_eq rfl,λbase _ _=>S8 T]
theorem walk {l:W.OpenLaw} {K:Params->W.Frag} (hn:l.most=some 63) (hdf:d.params.defaults=[])
  (hY:∀(w:World) (h:Heap),YP w h->(K w.params).In h)
  (F:∀(w:World) (mg:Str->Option Value) (fa:Addr) (h:Heap),(K w.params).In h->h.Ns mainGlobals mg->mg d.name=some (.ref fa) →
   ∃fd:FuncData,(∀(s:Shared) (u:Value),BindsTo s fd #[[u],[]] [("_law_script",u)])/\∀base:Heap,(K w.params).In base->base.Ns mainGlobals mg->uH l.prog w (K w.params) mg base Mc 12 fa fd ["_law_script"] (zG (K w.params))) :
  W.WalkO q loose XP YP l.row.toRowW d [] (λf vs=>PySem.call f vs) :=
 L2.OY (n:=63) (k:=12) (x:="_law_script") (CX:=λ_=>Mc) (sp:=λw=>zG (K w.params)) hn () hdf #[rfl,(),()] hY F (λ_ _ a ns hl _ hS=>#[a,ns,rfl,hS,hl,λ_=>rfl]) λ_ _ _ _ _ z=>z
end Lw
namespace PySem.W.Fast
def tw9635502315891299603:=1
def tw12177150493032249153:=1
def tw2754138308901391353:=1
def tw6547159182207294889:=1
def tw12658872360981960302:=1
def tw13202084053840479847:=1
def tw2032877461746846079:=1
def tw5798737088538949846:=1
def tw1506726600668358695:=1
def tw7184212583062462692:=1
def tw17769644222595336322:=1
def tw5889487001830443207:=1
def tw16503581159268491593:=1
def tw3441829045559892284:=1
def tw17767093652539580893:=1
def tw4080777697083817550:=1
def tw7351233011336476458:=1
def tw6333894135540462013:=1
def tw17864320576032104969:=1
def tw8506756485362492891:=1
def tw9695600431628345352:=1
def tw12982121982223475754:=1
def tw9808893884592484074:=1
def tw15686741729188481393:=1
def tw780752779084018178:=1
def tw1829659309366136310:=1
def tw6663731585145256222:=1
def tw7618581751646174923:=1
def tw2663586201391882218:=1
def tw2482940513696125266:=1
def tw2398759143422275249:=1
def tw15519131384989715167:=1
def tw17645550105642600250:=1
def tw288692560315381047:=1
def tw922657734141873399:=1
def tw11085051384066502828:=1
def tw12955865319211206121:=1
def tw5301025364246343183:=1
def tw4761621524196725846:=1
def tw7119601583830511478:=1
def tw14013481449646361357:=1
def tw2387254472253284421:=1
def tw8143432225058084956:=1
def tw17965814908982857478:=1
def tw3363514512565964520:=1
def tw6938921630304723803:=1
def tw913909554667601218:=1
def tw8374953039487582321:=1
def tw2416212938100881971:=1
def tw6876942008828364633:=1
def tw15782831429864223253:=1
def tw12652038379251134439:=1
def tw4909404807537092869:=1
def tw188441276922962501:=1
def tw11709905171533858035:=1
def tw321084336291756100:=1
def tw3005564178491665188:=1
def tw3857957917265449663:=1
def tw7602697559165077017:=1
def tw13905896491301247091:=1
def tw9138029398981427262:=1
def tw3170342302387121490:=1
def tw16981219396294429681:=1
def tw383020679188578617:=1
def tw742841176602681455:=1
def tw9845490668910156621:=1
def tw1191122138787194521:=1
def tw14901349461200918445:=1
def tw5085187917939191273:=1
def tw4028932586350862193:=1
def tw2821450398147123497:=1
def tw657390307605933493:=1
def tw18298596281907467075:=1
def tw7771415462752809898:=1
def tw16456024737424673072:=1
def tw15110423076310819432:=1
def tw21660779236270709:=1
def tw3006054843271706685:=1
def tw870698660340632737:=1
def tw11147992951875577424:=1
def tw10529923279804376979:=1
def tw1170915502781047409:=1
def tw11190768459712896899:=1
def tw4428563236327411168:=1
def tw13897426862781525285:=1
def tw4833550927647649751:=1
def tw108268954276305007:=1
def tw4209540007497335618:=1
def tw1927157203688936384:=1
def tw9038685814639560188:=1
def tw12129277910401618341:=1
def tw5653893935260969326:=1
def tw16322832800760890893:=1
def tw13413870373168379995:=1
def tw6605822661052077300:=1
def tw400420517253199197:=1
def tw16218199304469184468:=1
def tw12040317795450777950:=1
def tw2565751104990542483:=1
def tw914890660510354395:=1
def tw5349907282984611630:=1
def tw12347313112716498182:=1
def tw13834544599502921063:=1
def tw2803690915749690896:=1
def tw13603324486510482907:=1
def tw8731873092169114424:=1
def tw1391119753269964138:=1
def tw7867235564492127766:=1
def tw9839378334679720854:=1
def tw12912789070744216466:=1
def tw12430384158874472426:=1
def tw9975246092296351205:=1
def tw11684527738732767007:=1
def tw3686855112544344151:=1
def tw14111162164546249279:=1
def tw8109197638218763897:=1
def tw11308152124136412503:=1
def tw1635921589873694451:=1
def tw18133928468742784751:=1
def tw6238911090552696786:=1
def tw14066141483148376186:=1
def tw12101582707529197057:=1
def tw13102245892610518890:=1
def tw11252010920614491295:=1
def tw10627128262286919271:=1
def tw3304275961555964166:=1
def tw651081307253654739:=1
def tw12715232609775598205:=1
def tw16196009062678507440:=1
def tw16240201562723278596:=1
def tw8296227654724708915:=1
def tw1259573301006783614:=1
def tw9787553110502304089:=1
def tw12170723200216685909:=1
def tw10425678835777998038:=1
def tw344747344724151183:=1
def tw9041889583198113823:=1
def tw2690557750097035682:=1
def tw2903147890525568088:=1
def tw6541101885349635782:=1
def tw5653537185303680512:=1
def tw7313571148569716522:=1
def tw17556159890103917736:=1
def tw4166788565094452695:=1
def tw780850947496263111:=1
def tw12129654405654771087:=1
def tw7095354348399670333:=1
def tw17005949796734126713:=1
def tw11084644081824910982:=1
def tw1221311004885608983:=1
def tw13406510234241368179:=1
def tw2771389618664004187:=1
def tw10945139358256961790:=1
def tw15892310390778433712:=1
def tw3901535014006113511:=1
def tw8195913183109990856:=1
def tw9268511390292465037:=1
def tw15405832309402656852:=1
def tw6914650708202591182:=1
def tw2971610774770577691:=1
def tw6731663037438764246:=1
def tw14706432369329371237:=1
def tw16856058598895570329:=1
def tw7815459013646810960:=1
def tw17425802765704590689:=1
def tw9588895086069740419:=1
def tw10313864494995131382:=1
def tw9418861102153878067:=1
def tw9845070876505838068:=1
def tw16778790441665915779:=1
def tw15019039863125977547:=1
def tw2944784931347911780:=1
def tw10080011784815526282:=1
def tw16846241357755115648:=1
def tw5468672106478519686:=1
def tw91837416126314273:=1
def tw1073213313153680376:=1
def tw7250639718233705099:=1
def tw12319090654997013812:=1
def tw1464454629477350739:=1
def tw14212115313832186156:=1
def tw17180772562831204770:=1
def tw16157894501201898625:=1
def tw3387427824541552338:=1
def tw943809602601947423:=1
def tw11532779853254121068:=1
def tw11103320415444336215:=1
def tw15762757746628325251:=1
def tw7176297918246199454:=1
def tw16164433509796298225:=1
def tw10678814655079718238:=1
def tw13495254158036489631:=1
def tw9112924619231200394:=1
def tw7800702909001933791:=1
def tw16506719750643608329:=1
def tw17296590130045885505:=1
def tw6799101380089580684:=1
def tw2000062791831348164:=1
def tw6940751400774180882:=1
def tw14648355673752448978:=1
def tw9711632294889348102:=1
def tw5498231790929613422:=1
def tw9591063321077653975:=1
def tw13656924033291420922:=1
def tw14138598298643862734:=1
def tw13220396380415333558:=1
def tw4827734500650037490:=1
def tw17131706488007145936:=1
def tw6904292905967456061:=1
def tw11080035063742635815:=1
def tw6296627107641068922:=1
def tw1607563988530198322:=1
def tw7908986801812277745:=1
def tw9838669129856475534:=1
def tw16954356245128154116:=1
def tw13023515949370453980:=1
def tw844525003729867276:=1
def tw16551672255832650134:=1
def tw6692613359215376053:=1
def tw13045891411973232192:=1
def tw12190919300465433932:=1
def tw5115754048132783200:=1
def tw13647974471862230730:=1
def tw3352246039164772813:=1
def tw16173911750444458250:=1
def tw2141720491824551457:=1
def tw6046887937056003507:=1
def tw147622106159782523:=1
def tw7510319321268007765:=1
def tw5618070145799632855:=1
def tw16718260294942457489:=1
def tw15423470778869723309:=1
def tw11591362270067302522:=1
def tw8521253052809513102:=1
def tw9173490620830981790:=1
def tw4337712467256853025:=1
def tw17338937809907112414:=1
def tw14311178424437039231:=1
def tw1450565893363632806:=1
def tw1242897632529826269:=1
def tw14079392267457029105:=1
def tw17484546478441794942:=1
def tw16043468599878879733:=1
def tw1014323006801259393:=1
def tw13603810294541598606:=1
def tw18263577430329698917:=1
def tw6087428874132656750:=1
def tw12568462178726993189:=1
def tw5992044161143798122:=1
def tw12096199270543510122:=1
def tw12454491959146818267:=1
def tw12228231263838834931:=1
def tw607394172177617950:=1
def tw9841233989096593056:=1
def tw17525119487350709492:=1
def tw5976112285099825382:=1
def tw15020658675990488772:=1
def tw9053429131217251713:=1
def tw9937394579840624165:=1
def tw7187137196145518221:=1
def tw542966259937484497:=1
def tw293401337229410042:=1
def tw1975757245089880696:=1
def tw11919865817704580338:=1
def tw3956393557920487484:=1
def tw17514955144230707949:=1
def tw6145903569895046654:=1
def tw4936010949488978037:=1
def tw1473590446254303496:=1
def tw7338327139495829257:=1
def tw1573179633567540633:=1
def tw5441443147582232335:=1
def tw7990598876452649520:=1
def tw6361218583473800233:=1
def tw3118045614785263517:=1
def tw14507350165138742818:=1
def tw7318415691658750332:=1
def tw15829511317326416569:=1
def tw9167933114111357843:=1
def tw13148017185999219093:=1
def tw17459661169369164723:=1
def tw8509943367262212383:=1
def tw5452458609040866588:=1
def tw1965366509889876678:=1
def tw1566068804458833478:=1
def tw13595438256295675795:=1
def tw982742881118675731:=1
def tw5337233414372187907:=1
def tw14422591020277463182:=1
def tw11475641025336031567:=1
def tw13651931889974452185:=1
def tw14472444017101167440:=1
def tw4294390494022314294:=1
def tw16324257253222875345:=1
def tw9565947273783614814:=1
def tw7621641042117172303:=1
def tw5984206451366534770:=1
def tw17559435299054981132:=1
def tw4851124721744422666:=1
def tw13520007801277161555:=1
def tw864801965940741977:=1
def tw4858377056654855542:=1
def tw4877927410704429525:=1
def tw12679121092422599819:=1
def tw9988600364105778096:=1
def tw9384938995794530723:=1
def tw3251957188482658927:=1
def tw14217746122571371564:=1
def tw14363599963435652639:=1
def tw4298875959754942374:=1
def tw16129821121882509672:=1
def tw14479454385275754447:=1
def tw4404512213175605588:=1
def tw14247059138342060612:=1
def tw15488536462131606441:=1
def tw16069330603088995546:=1
def tw3572801772631718103:=1
def tw6534581898669830264:=1
def tw71718112830899449:=1
def tw1462617733086668736:=1
def tw6052067586746768244:=1
def tw8165414058583027446:=1
def tw17995306835587597662:=1
def tw11128096029429087823:=1
def tw14362553806010549973:=1
def tw6043474815356559722:=1
def tw12671646958902032125:=1
def tw15976192950821138325:=1
def tw10219391468425798244:=1
def tw13015944148724035808:=1
def tw9119131606387143549:=1
def tw3990307453141749735:=1
def tw1049935385588136751:=1
def tw17570270727054026409:=1
def tw15982262458022722412:=1
def tw16067221586295862667:=1
def tw3760492962912176765:=1
def tw2200266094418371090:=1
def tw10123126818279450933:=1
def tw6879767877744358259:=1
def tw5777924967601703223:=1
def tw960820630189106300:=1
def tw6991090616825847440:=1
def tw8938223148731620054:=1
def tw7246918254934961295:=1
def tw305475893847859450:=1
def tw15687890944089948461:=1
def tw1302622649889098704:=1
def tw431211202572917111:=1
def tw4070514327652230620:=1
def tw14799714245052376940:=1
def tw17373457636017428083:=1
def tw8612964882141119253:=1
def tw195711067726506112:=1
def tw2381539200697833345:=1
def tw4330441417797506043:=1
def tw17090138945852925901:=1
def tw18122904739990265908:=1
def tw8148451129742903853:=1
def tw9847385455841594039:=1
def tw14318166828828861972:=1
def tw10833185676986610686:=1
def tw14895488815937404414:=1
def tw13659554736635312144:=1
def tw6161259341220681255:=1
def tw3325866297920780423:=1
def tw3647129557854589351:=1
def tw10176500430660044920:=1
def tw3038877880045264355:=1
def tw5739424970528911120:=1
def tw133168125408776693:=1
def tw2224936179745164278:=1
def tw12320127897574520600:=1
def tw3910872060788526694:=1
def tw5027034598429096054:=1
def tw4312776994786579013:=1
def tw3708056608756543165:=1
def tw11065635757706448995:=1
def tw15270478924318457040:=1
def tw5117686397893998355:=1
def tw14239594003773586336:=1
def tw10611446501052629156:=1
def tw8873087897590160056:=1
def tw18056084374193783139:=1
def tw9315441771042147262:=1
def tw4794717538943002871:=1
def tw11999035303471530047:=1
def tw11776891297419967670:=1
def tw11450848702310672784:=1
def tw13499827700960501478:=1
def tw12036427548803312081:=1
def tw11913152077814811590:=1
def tw5223584551519979765:=1
def tw9803048285255980087:=1
def tw14883409732238268619:=1
def tw2936048013925373534:=1
def tw17359780011333078191:=1
def tw8048567911914682515:=1
def tw1038661353212057601:=1
def tw2164620532948016341:=1
def tw2615411946765228327:=1
def tw5108999096120704973:=1
def tw7896692271578773635:=1
def tw3602900071270098435:=1
def tw7540925752098255039:=1
def tw11791547411414378578:=1
def tw15699087668645525078:=1
def tw3688059656069079547:=1
def tw9174433647498122051:=1
def tw7643976064049389179:=1
def tw3379296322976676706:=1
def tw5791036375525375301:=1
def tw9891238286822069956:=1
def tw2488181167717444799:=1
def tw10226540309290551020:=1
def tw5715221965392474685:=1
def tw14317353774490552414:=1
def tw7062177155905197794:=1
def tw2209548704477201825:=1
def tw2749626324907884364:=1
def tw4882596748728347008:=1
def tw13667805667860296229:=1
def tw9448419678492520683:=1
def tw6228723946490831545:=1
def tw10061453084137523078:=1
def tw12423343455619526381:=1
def tw888097852557276192:=1
def tw586123048695855961:=1
def tw3073211229704830419:=1
def tw3456467039723719045:=1
def tw7774205806252456474:=1
def tw5622445751845710808:=1
def tw6320888886498211913:=1
def tw7855565642233057023:=1
def tw6254584679270534350:=1
def tw17948151132886754881:=1
def tw8066990000344457364:=1
def tw2572455648502133585:=1
def tw9183630624072286417:=1
def tw15959203447092584104:=1
def tw2220964683213112375:=1
def tw12823717161697178899:=1
def tw13824603530816837599:=1
def tw3976561173527153274:=1
def tw14633892179506589645:=1
def tw1911123610246003216:=1
def tw14523128708989659744:=1
def tw13534919544351415979:=1
def tw15092529283473657216:=1
def tw15027064100622242562:=1
def tw5421119466328806665:=1
def tw3581951910266034102:=1
def tw9758729062302505448:=1
def tw5551839198857135909:=1
def tw11142017981509286491:=1
def tw2501889579835926511:=1
def tw5407272022162630917:=1
def tw15114415961185036019:=1
def tw12480270364555274407:=1
def tw4950033236227756515:=1
theorem te9635502315891299603:True:=trivial
end PySem.W.Fast
open PySem PySem.W PyProof.Rows
set_option maxRecDepth 100000 in
set_option maxHeartbeats 0 in
theorem PySem.Challenge.cw_helmsum_k47_papers_of_shut_holds : PySem.Challenge.rw_helmsum_k47_papers_of_shut.Holds := by
 w_on;o_law;k_head;(case hw=>w_witness2)
 k_fill
 refine Lw.walk (l:=PySem.Challenge.rw_helmsum_k47_papers_of_shut) rfl rfl (λw h Y=>PySem.W.kIn_of Y) ?F
 case F =>
  intro w mg fa h KX G hmg;refine' Lw.all_mk KX G hmg ?aC ?_ ?_ ?_ ?_ ?_ ?_ ?_ ?_ ?_ ?_ ?_ ?_ ?_ ?_ ?_ ?_ ?_ ?_ ?_ ?_ ?_ ?_ ?a22 ?i22 ?l22 ?c22 ?k22 ?_ ?_ ?_ ?_ ?_ ?_ ?_ ?_ ?_ ?_ ?_ ?_ ?_ ?_ ?_ ?_ ?_ ?_ ?_ ?_ ?_ ?_ ?_ ?_ ?_ ?_ ?_ ?_ ?_ ?_ ?_ ?_ ?_ ?_ ?_ ?_ ?_ ?_ ?_ ?_ ?_ ?_ ?_ ?_ ?_ ?a68 ?i68 ?l68 ?c68 ?k68 ?_ ?_ ?_ ?_ ?_ ?_ ?_ ?_ ?_ ?_ ?_ ?_ ?_ ?_ ?_ ?ca0 ?cl0 ?ca1 ?cl1 ?ci0 ?ci1 ?ci2 ?pg ?hd ?po ?sa ?mk ?kc ?n_move ?n_states ?n_put ?n_ins ?n_look ?n_outs ?z_abs ?z_len ?z_min ?z_int ?z_range ?z_isinstance ?z_list ?z_bool ?z_tuple ?z_all ?z_enumerate ?z_max ?z_zip ?z_sum ?z_reversed
  all_goals try refine' Vf ?_ ?_ ?_ ?_
  all_goals try k_is